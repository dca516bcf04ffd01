/- IntegerBits: the walk. -/
import Derived.Test.YtipjbknoeoajnaaBooC
import Derived.Test.YtipjbknoeoajnaaOf
namespace Go.Proofs.Ytipjbknoeoajnaa
open Go.RowKit
set_option autoImplicit false
set_option linter.unusedVariables false

theorem nums2 {w : World} {b : Nat} {x y : Num} {t : TypeId} (h : w.heap[b]? = some (.cells #[.bool x.neg, .slice x.ao x.n x.cap, .bool y.neg, .slice y.ao y.n y.cap] t (0, 0))) : Nums w b [x, y] := by
  intro i u hu
  match i, hu with
  | 0, hu =>
    simp at hu; subst hu
    exact ⟨cell_of_row _ b 0 _ t (0, 0) h, cell_of_row _ b 1 _ t (0, 0) h⟩
  | 1, hu =>
    simp at hu; subst hu
    exact ⟨cell_of_row _ b 2 _ t (0, 0) h, cell_of_row _ b 3 _ t (0, 0) h⟩

theorem shortTwo (w : World) (b : Nat) (x y : Num) (most : Nat) (h : w.heap[b]? = some (.cells #[.bool x.neg, .slice x.ao x.n x.cap, .bool y.neg, .slice y.ao y.n y.cap] 24 (0, 0))) :
    Calls Try.prog 14 #[.int .i64 most, .slice (some ⟨b, 0, none⟩) 2 2] w (RetV w (.bool (decide (x.n ≤ most ∧ y.n ≤ most)))) := by
  have := short_any w b 2 [x, y] most (nums2 h) (Array.getElem?_eq_some_iff.1 h).1 (by simp) (by omega)
  simpa using this

theorem boole_bad (w : World) (op : Int) (nx ny : Bool) (ao bo : Option Addr) (n m capa capb : Nat) (h : op < 0 ∨ 15 < op) :
    Calls Try.prog 51 #[.agg #[.bool nx, .slice ao n capa], .int .i64 op, .agg #[.bool ny, .slice bo m capb]] w (RetZeroR w 1) := by
  rcases h with h | h
  · go_enter Try.func51, Try.ntmps51
    go_wp2_with fail
    have hr2 := heap_alloc3 w (.cells #[.bool nx, .slice ao n capa] 28) (.cells #[.bool ny, .slice bo m capb] 28) (.cells #[.bool false, .slice none 0 0] 28)
    obtain ⟨c0, c1, f0, f1⟩ := blk2 hr2
    refine bodyPost_ret (v := .tuple #[.agg #[.bool false, .slice none 0 0], .int .i64 1]) (by simp [results, Try.results51, go_sem, c0, c1]) rfl ?_
    exact ⟨rfl, by go_grown⟩
  · have h0 : ¬ op < 0 := by omega
    go_enter Try.func51, Try.ntmps51
    go_wp2_with fail
    have hr2 := heap_alloc3 w (.cells #[.bool nx, .slice ao n capa] 28) (.cells #[.bool ny, .slice bo m capb] 28) (.cells #[.bool false, .slice none 0 0] 28)
    obtain ⟨c0, c1, f0, f1⟩ := blk2 hr2
    refine bodyPost_ret (v := .tuple #[.agg #[.bool false, .slice none 0 0], .int .i64 1]) (by simp [results, Try.results51, go_sem, c0, c1]) rfl ?_
    exact ⟨rfl, by go_grown⟩

theorem ref_zero (w : World) : RefAt w false none 0 0 [] 0 :=
  ⟨⟨rfl, Nat.le_refl _, by unfold maxLen; omega, fun _ => rfl, .inl rfl⟩, by intro z hz; simp at hz, .inl rfl, by intro h; simp at h, by simp [sgn, dval]⟩
theorem int_zero' (w : World) : IntAt w false none 0 0 [] 0 :=
  ⟨⟨rfl, Nat.le_refl _, by unfold maxLen; omega, fun _ => rfl, .inl rfl⟩, by intro z hz; simp at hz, .inl rfl, by intro h; simp at h, by simp [sgn, val]⟩

/-- Both returned one number and one code. -/
def RetBoth (w : World) (p : Int) (c : Int) (L : Nat) (e : Ending) (w' : World) : Prop :=
  ∃ neg ao n cap zs, e = .returned (.tuple #[.agg #[.bool neg, .slice ao n cap], .int .i64 c]) ∧ IntAt w' neg ao n cap zs p ∧ n ≤ L ∧ Below w.heap.size w w'
def RetBothR (w : World) (p : Int) (c : Int) (L : Nat) (e : Ending) (w' : World) : Prop :=
  ∃ neg ao n cap zs, e = .returned (.tuple #[.agg #[.bool neg, .slice ao n cap], .int .i64 c]) ∧ RefAt w' neg ao n cap zs p ∧ n ≤ L ∧ Below w.heap.size w w'

/-- For any number op, both Booles return one number and one code. -/
theorem both_boole (op : Int) (nx ny ux uy : Bool) (ao bo uo vo : Option Addr) (n m n' m' capa capb capc capd : Nat) (xs ys us vs : List Int) (x y : Int) (w1 w2 : World) (hx : IntAt w1 nx ao n capa xs x) (hy : IntAt w1 ny bo m capb ys y) (hu : RefAt w1 ux uo n' capc us x) (hv : RefAt w1 uy vo m' capd vs y)
    (h1 : n ≤ 1048576) (h2 : m ≤ 1048576) (h3 : n' ≤ 1048576) (h4 : m' ≤ 1048576) :
    ∃ p c : Int, Calls Try.prog 51 #[.agg #[.bool nx, .slice ao n capa], .int .i64 op, .agg #[.bool ny, .slice bo m capb]] w1 (RetBoth w1 p c 1048577) ∧
      ∀ w2, Below w1.heap.size w1 w2 → Calls Try.prog 52 #[.int .i64 op, .agg #[.bool ux, .slice uo n' capc], .agg #[.bool uy, .slice vo m' capd]] w2 (RetBothR w2 p c 33554432) := by
  by_cases h : op < 0 ∨ 15 < op
  · refine ⟨0, 1, (boole_bad w1 op nx ny ao bo n m capa capb h).mono ?_, fun w2 hb => (rboole_bad w2 op ux uy uo vo n' m' capc capd h).mono ?_⟩
    · rintro e w' ⟨rfl, hb⟩
      exact ⟨_, _, _, _, _, rfl, int_zero' _, by omega, hb⟩
    · rintro e w' ⟨rfl, hb⟩
      exact ⟨_, _, _, _, _, rfl, ref_zero _, by omega, hb⟩
  · obtain ⟨k, rfl⟩ := Int.eq_ofNat_of_zero_le (show 0 ≤ op by omega)
    refine ⟨boolR k ux uy x y (max (blen (cpl x).toNat) (blen (cpl y).toNat)), 0, (boole_any w1 nx ny ao bo n m capa capb xs ys x y k hx hy (by omega) (by omega) (by omega) (by omega)).mono ?_, fun w2 hb => (rboole_any w2 k ux uy uo vo n' m' capc capd us vs x y (hu.below hb) (hv.below hb) h3 h4 (by omega)).mono ?_⟩
    · rintro e w' ⟨neg, a1, n1, c1, zs, As, Bs, rfl, la, hA, vA, lb, hB, vB, hint, hn, hb⟩
      refine ⟨neg, a1, n1, c1, zs, rfl, ?_, by omega, hb⟩
      rw [boole_same hx hy rfl la lb hA hB vA vB, neg_iff' hx, neg_iff' hy, ← neg_iff hu, ← neg_iff hv] at hint
      exact hint
    · rintro e w' ⟨neg, a1, n1, c1, zs, rfl, hint, hn, hb⟩
      exact ⟨_, _, _, _, _, rfl, hint, hn, hb⟩

set_option maxRecDepth 100000 in
theorem bits_long (w : World) (op i : Int) (nx ny : Bool) (ax ay : Option Addr) (n1 c1 n2 c2 : Nat) (h : ¬ (n1 ≤ 8 ∧ n2 ≤ 8)) :
    Calls Try.prog 7 #[.int .i64 op, .agg #[.bool nx, .slice ax n1 c1], .agg #[.bool ny, .slice ay n2 c2], .int .i64 i] w (RetV w (.bool true)) := by
  have HD : Hid (decide (n1 ≤ 8 ∧ n2 ≤ 8) = false) := Lib.hid (decide_eq_false h)
  clear h
  go_enter Try.func7, Try.ntmps7
  go_wp2_with fail
  refine (shortTwo _ _ ⟨nx, ax, n1, c1⟩ ⟨ny, ay, n2, c2⟩ 8 (heap_alloc3 _ _ _ _)).mono ?_
  rintro e w1 ⟨rfl, hb1⟩
  rw [show decide (Num.n ⟨nx, ax, n1, c1⟩ ≤ 8 ∧ Num.n ⟨ny, ay, n2, c2⟩ ≤ 8) = false from HD.out]
  have hb2 : Below w.heap.size w w1 := Below.trans (by go_grown) (hb1.mono (by go_size))
  clear hb1
  go_wp2_with fail
  refine (awake_any _).mono ?_
  rintro e w2 ⟨rfl, hb3⟩
  go_wp2_with fail
  go_ret
  exact ⟨rfl, hb2.trans (hb3.mono hb2.size)⟩

set_option maxRecDepth 100000 in
set_option maxHeartbeats 1000000 in
theorem bits_short (w : World) (op i : Int) (nx ny : Bool) (ax ay : Option Addr) (n1 c1 n2 c2 : Nat) (zx zy : List Int) (hx : Sl w ax n1 c1 zx) (lx : Lim zx) (hy : Sl w ay n2 c2 zy) (ly : Lim zy) (hi0 : i ≤ 9223372036854775807) (h : n1 ≤ 8 ∧ n2 ≤ 8) :
    Calls Try.prog 7 #[.int .i64 op, .agg #[.bool nx, .slice ax n1 c1], .agg #[.bool ny, .slice ay n2 c2], .int .i64 i] w (RetV w (.bool true)) := by
  have HD : Hid (decide (n1 ≤ 8 ∧ n2 ≤ 8) = true) := Lib.hid (decide_eq_true h)
  obtain ⟨h1, h2⟩ := h
  have HX := Lib.hid hx
  have HY := Lib.hid hy
  have HI0 := Lib.hid hi0
  obtain ⟨X, hX⟩ : ∃ X, sgn nx (val zx) = X := ⟨_, rfl⟩
  obtain ⟨Y, hY⟩ : ∃ Y, sgn ny (val zy) = Y := ⟨_, rfl⟩
  have HXV := Lib.hid hX
  have HYV := Lib.hid hY
  clear hx hy hX hY hi0
  go_enter Try.func7, Try.ntmps7
  go_wp2_with fail
  refine (shortTwo _ _ ⟨nx, ax, n1, c1⟩ ⟨ny, ay, n2, c2⟩ 8 (heap_alloc3 _ _ _ _)).mono ?_
  rintro e w1 ⟨rfl, hb1⟩
  rw [show decide (Num.n ⟨nx, ax, n1, c1⟩ ≤ 8 ∧ Num.n ⟨ny, ay, n2, c2⟩ ≤ 8) = true from HD.out]
  have HW := Lib.hid (show Below w.heap.size w w1 from Below.trans (by go_grown) (hb1.mono (by go_size)))
  have rx := (hb1.block w.heap.size (by go_size)).trans (((Below.refl (w.heap.size + 1) (w.alloc (.cells #[.bool nx, .slice ax n1 c1] 24))).alloc (by simp) (.cells #[.bool ny, .slice ay n2 c2] 24)).alloc (by simp) (.cells #[.bool nx, .slice ax n1 c1, .bool ny, .slice ay n2 c2] 24) |>.block w.heap.size (by omega) |>.trans (heap_alloc_new w _))
  have ry := (hb1.block (w.heap.size + 1) (by go_size)).trans (show ((((w.alloc (.cells #[.bool nx, .slice ax n1 c1] 24)).alloc (.cells #[.bool ny, .slice ay n2 c2] 24)).alloc (.cells #[.bool nx, .slice ax n1 c1, .bool ny, .slice ay n2 c2] 24))).heap[w.heap.size + 1]? = _ from heap_mid w _ _ _)
  obtain ⟨bxp, hbxp⟩ : ∃ p, p = w.heap.size := ⟨_, rfl⟩
  obtain ⟨byp, hbyp⟩ : ∃ p, p = w.heap.size + 1 := ⟨_, rfl⟩
  rw [← hbyp] at ry ⊢
  rw [← hbxp] at rx ⊢
  obtain ⟨bxc0, bxc1, -, -⟩ := blk2 rx
  obtain ⟨byc0, byc1, -, -⟩ := blk2 ry
  have bxl : bxp < w1.heap.size := World.block_lt_of_cell? _ _ bxc0
  have byl : byp < w1.heap.size := World.block_lt_of_cell? _ _ byc0
  replace HX := Lib.hid (HX.out.below HW.out)
  replace HY := Lib.hid (HY.out.below HW.out)
  clear rx ry hbxp hbyp hb1 HD
  go_wp2_with fail
  refine (of_any _ nx ax n1 c1 zx HX.out lx (by omega)).mono ?_
  rintro e wg1 ⟨s1, a1, m1, k1, z1, t1, d1, j1, e1, y1, rfl, hI1, hm1, hR1, hj1, hbwg1⟩
  rw [HXV.out] at hI1 hR1
  replace HX := Lib.hid (HX.out.below hbwg1)
  replace HY := Lib.hid (HY.out.below hbwg1)
  replace bxc0 := (hbwg1.cell (p := ⟨bxp, 0, none⟩) bxl).trans bxc0
  replace bxc1 := (hbwg1.cell (p := ⟨bxp, 1, none⟩) bxl).trans bxc1
  replace bxl := Nat.lt_of_lt_of_le bxl hbwg1.size
  replace byc0 := (hbwg1.cell (p := ⟨byp, 0, none⟩) byl).trans byc0
  replace byc1 := (hbwg1.cell (p := ⟨byp, 1, none⟩) byl).trans byc1
  replace byl := Nat.lt_of_lt_of_le byl hbwg1.size
  replace HW := Lib.hid (HW.out.trans (hbwg1.mono HW.out.size))
  have I1 := Lib.hid hI1
  clear hI1
  have R1 := Lib.hid hR1
  clear hR1
  clear hbwg1
  go_wp2_with fail
  obtain ⟨wg2, hwg2⟩ : ∃ wg2, wg2 = ((wg1.alloc (.cells #[.bool s1, .slice a1 m1 k1] 28)).alloc (.cells #[.bool t1, .slice d1 j1 e1] 31)) := ⟨_, rfl⟩
  have hbawg2 : Below wg1.heap.size wg1 wg2 := by rw [hwg2]; go_grown
  have hrb1 : wg2.heap[wg1.heap.size]? = some (.cells #[.bool s1, .slice a1 m1 k1] 28 (0, 0)) := by rw [hwg2]; exact (heap_alloc2 wg1 _ _).2
  have hrr1 : wg2.heap[wg1.heap.size + 1]? = some (.cells #[.bool t1, .slice d1 j1 e1] 31 (0, 0)) := by rw [hwg2]; exact (heap_alloc2 wg1 _ _).1
  rw [← hwg2]
  clear hwg2
  obtain ⟨b1p, hb1p⟩ : ∃ p, p = wg1.heap.size := ⟨_, rfl⟩
  obtain ⟨r1p, hr1p⟩ : ∃ p, p = wg1.heap.size + 1 := ⟨_, rfl⟩
  rw [← hr1p] at hrr1 ⊢
  rw [← hb1p] at hrb1 ⊢
  obtain ⟨b1c0, b1c1, -, -⟩ := blk2 hrb1
  have b1l : b1p < wg2.heap.size := World.block_lt_of_cell? _ _ b1c0
  clear hb1p hrb1
  obtain ⟨r1c0, r1c1, -, -⟩ := blk2 hrr1
  have r1l : r1p < wg2.heap.size := World.block_lt_of_cell? _ _ r1c0
  clear hr1p hrr1
  replace HX := Lib.hid (HX.out.below hbawg2)
  replace HY := Lib.hid (HY.out.below hbawg2)
  replace I1 := Lib.hid (I1.out.below hbawg2)
  replace R1 := Lib.hid (R1.out.below hbawg2)
  replace bxc0 := (hbawg2.cell (p := ⟨bxp, 0, none⟩) bxl).trans bxc0
  replace bxc1 := (hbawg2.cell (p := ⟨bxp, 1, none⟩) bxl).trans bxc1
  replace bxl := Nat.lt_of_lt_of_le bxl hbawg2.size
  replace byc0 := (hbawg2.cell (p := ⟨byp, 0, none⟩) byl).trans byc0
  replace byc1 := (hbawg2.cell (p := ⟨byp, 1, none⟩) byl).trans byc1
  replace byl := Nat.lt_of_lt_of_le byl hbawg2.size
  replace HW := Lib.hid (HW.out.trans (hbawg2.mono HW.out.size))
  clear hbawg2
  refine (of_any _ ny ay n2 c2 zy HY.out ly (by omega)).mono ?_
  rintro e wg3 ⟨s2, a2, m2, k2, z2, t2, d2, j2, e2, y2, rfl, hI2, hm2, hR2, hj2, hbwg3⟩
  rw [HYV.out] at hI2 hR2
  replace HX := Lib.hid (HX.out.below hbwg3)
  replace HY := Lib.hid (HY.out.below hbwg3)
  replace I1 := Lib.hid (I1.out.below hbwg3)
  replace R1 := Lib.hid (R1.out.below hbwg3)
  replace bxc0 := (hbwg3.cell (p := ⟨bxp, 0, none⟩) bxl).trans bxc0
  replace bxc1 := (hbwg3.cell (p := ⟨bxp, 1, none⟩) bxl).trans bxc1
  replace bxl := Nat.lt_of_lt_of_le bxl hbwg3.size
  replace byc0 := (hbwg3.cell (p := ⟨byp, 0, none⟩) byl).trans byc0
  replace byc1 := (hbwg3.cell (p := ⟨byp, 1, none⟩) byl).trans byc1
  replace byl := Nat.lt_of_lt_of_le byl hbwg3.size
  replace b1c0 := (hbwg3.cell (p := ⟨b1p, 0, none⟩) b1l).trans b1c0
  replace b1c1 := (hbwg3.cell (p := ⟨b1p, 1, none⟩) b1l).trans b1c1
  replace b1l := Nat.lt_of_lt_of_le b1l hbwg3.size
  replace r1c0 := (hbwg3.cell (p := ⟨r1p, 0, none⟩) r1l).trans r1c0
  replace r1c1 := (hbwg3.cell (p := ⟨r1p, 1, none⟩) r1l).trans r1c1
  replace r1l := Nat.lt_of_lt_of_le r1l hbwg3.size
  replace HW := Lib.hid (HW.out.trans (hbwg3.mono HW.out.size))
  have I2 := Lib.hid hI2
  clear hI2
  have R2 := Lib.hid hR2
  clear hR2
  clear hbwg3
  go_wp2_with fail
  obtain ⟨wg4, hwg4⟩ : ∃ wg4, wg4 = ((wg3.alloc (.cells #[.bool s2, .slice a2 m2 k2] 28)).alloc (.cells #[.bool t2, .slice d2 j2 e2] 31)) := ⟨_, rfl⟩
  have hbawg4 : Below wg3.heap.size wg3 wg4 := by rw [hwg4]; go_grown
  have hrb2 : wg4.heap[wg3.heap.size]? = some (.cells #[.bool s2, .slice a2 m2 k2] 28 (0, 0)) := by rw [hwg4]; exact (heap_alloc2 wg3 _ _).2
  have hrr2 : wg4.heap[wg3.heap.size + 1]? = some (.cells #[.bool t2, .slice d2 j2 e2] 31 (0, 0)) := by rw [hwg4]; exact (heap_alloc2 wg3 _ _).1
  rw [← hwg4]
  clear hwg4
  obtain ⟨b2p, hb2p⟩ : ∃ p, p = wg3.heap.size := ⟨_, rfl⟩
  obtain ⟨r2p, hr2p⟩ : ∃ p, p = wg3.heap.size + 1 := ⟨_, rfl⟩
  rw [← hr2p] at hrr2 ⊢
  rw [← hb2p] at hrb2 ⊢
  obtain ⟨b2c0, b2c1, -, -⟩ := blk2 hrb2
  have b2l : b2p < wg4.heap.size := World.block_lt_of_cell? _ _ b2c0
  clear hb2p hrb2
  obtain ⟨r2c0, r2c1, -, -⟩ := blk2 hrr2
  have r2l : r2p < wg4.heap.size := World.block_lt_of_cell? _ _ r2c0
  clear hr2p hrr2
  replace HX := Lib.hid (HX.out.below hbawg4)
  replace HY := Lib.hid (HY.out.below hbawg4)
  replace I1 := Lib.hid (I1.out.below hbawg4)
  replace R1 := Lib.hid (R1.out.below hbawg4)
  replace I2 := Lib.hid (I2.out.below hbawg4)
  replace R2 := Lib.hid (R2.out.below hbawg4)
  replace bxc0 := (hbawg4.cell (p := ⟨bxp, 0, none⟩) bxl).trans bxc0
  replace bxc1 := (hbawg4.cell (p := ⟨bxp, 1, none⟩) bxl).trans bxc1
  replace bxl := Nat.lt_of_lt_of_le bxl hbawg4.size
  replace byc0 := (hbawg4.cell (p := ⟨byp, 0, none⟩) byl).trans byc0
  replace byc1 := (hbawg4.cell (p := ⟨byp, 1, none⟩) byl).trans byc1
  replace byl := Nat.lt_of_lt_of_le byl hbawg4.size
  replace b1c0 := (hbawg4.cell (p := ⟨b1p, 0, none⟩) b1l).trans b1c0
  replace b1c1 := (hbawg4.cell (p := ⟨b1p, 1, none⟩) b1l).trans b1c1
  replace b1l := Nat.lt_of_lt_of_le b1l hbawg4.size
  replace r1c0 := (hbawg4.cell (p := ⟨r1p, 0, none⟩) r1l).trans r1c0
  replace r1c1 := (hbawg4.cell (p := ⟨r1p, 1, none⟩) r1l).trans r1c1
  replace r1l := Nat.lt_of_lt_of_le r1l hbawg4.size
  replace HW := Lib.hid (HW.out.trans (hbawg4.mono HW.out.size))
  clear hbawg4
  obtain ⟨P, c, hP, hQ⟩ := both_boole op s1 s2 t1 t2 a1 a2 d1 d2 m1 m2 j1 j2 k1 k2 e1 e2 z1 z2 y1 y2 X Y wg4 wg4 I1.out I2.out R1.out R2.out (by omega) (by omega) (by omega) (by omega)
  have HP := Lib.hid hP
  have HQ := Lib.hid hQ
  clear hP hQ
  refine HP.out.mono ?_
  rintro e wg5 ⟨s3, a3, m3, k3, z3, rfl, hI3, hm3, hbwg5⟩
  replace HX := Lib.hid (HX.out.below hbwg5)
  replace HY := Lib.hid (HY.out.below hbwg5)
  replace I1 := Lib.hid (I1.out.below hbwg5)
  replace R1 := Lib.hid (R1.out.below hbwg5)
  replace I2 := Lib.hid (I2.out.below hbwg5)
  replace R2 := Lib.hid (R2.out.below hbwg5)
  replace bxc0 := (hbwg5.cell (p := ⟨bxp, 0, none⟩) bxl).trans bxc0
  replace bxc1 := (hbwg5.cell (p := ⟨bxp, 1, none⟩) bxl).trans bxc1
  replace bxl := Nat.lt_of_lt_of_le bxl hbwg5.size
  replace byc0 := (hbwg5.cell (p := ⟨byp, 0, none⟩) byl).trans byc0
  replace byc1 := (hbwg5.cell (p := ⟨byp, 1, none⟩) byl).trans byc1
  replace byl := Nat.lt_of_lt_of_le byl hbwg5.size
  replace b1c0 := (hbwg5.cell (p := ⟨b1p, 0, none⟩) b1l).trans b1c0
  replace b1c1 := (hbwg5.cell (p := ⟨b1p, 1, none⟩) b1l).trans b1c1
  replace b1l := Nat.lt_of_lt_of_le b1l hbwg5.size
  replace r1c0 := (hbwg5.cell (p := ⟨r1p, 0, none⟩) r1l).trans r1c0
  replace r1c1 := (hbwg5.cell (p := ⟨r1p, 1, none⟩) r1l).trans r1c1
  replace r1l := Nat.lt_of_lt_of_le r1l hbwg5.size
  replace b2c0 := (hbwg5.cell (p := ⟨b2p, 0, none⟩) b2l).trans b2c0
  replace b2c1 := (hbwg5.cell (p := ⟨b2p, 1, none⟩) b2l).trans b2c1
  replace b2l := Nat.lt_of_lt_of_le b2l hbwg5.size
  replace r2c0 := (hbwg5.cell (p := ⟨r2p, 0, none⟩) r2l).trans r2c0
  replace r2c1 := (hbwg5.cell (p := ⟨r2p, 1, none⟩) r2l).trans r2c1
  replace r2l := Nat.lt_of_lt_of_le r2l hbwg5.size
  replace HW := Lib.hid (HW.out.trans (hbwg5.mono HW.out.size))
  replace HQ : Hid (∀ w', Below _ _ w' → _) := Lib.hid (fun w' hb' => HQ.out w' (hbwg5.trans (hb'.mono hbwg5.size)))
  have I3 := Lib.hid hI3
  clear hI3 hbwg5 HP
  go_wp2_with fail
  obtain ⟨wg6, hwg6⟩ : ∃ wg6, wg6 = (wg5.alloc (.cells #[.bool s3, .slice a3 m3 k3] 28)) := ⟨_, rfl⟩
  have hbawg6 : Below wg5.heap.size wg5 wg6 := by rw [hwg6]; go_grown
  have hrb3 : wg6.heap[wg5.heap.size]? = some (.cells #[.bool s3, .slice a3 m3 k3] 28 (0, 0)) := by rw [hwg6]; exact heap_alloc_new wg5 _
  rw [← hwg6]
  clear hwg6
  obtain ⟨b3p, hb3p⟩ : ∃ p, p = wg5.heap.size := ⟨_, rfl⟩
  rw [← hb3p] at hrb3 ⊢
  obtain ⟨b3c0, b3c1, -, -⟩ := blk2 hrb3
  have b3l : b3p < wg6.heap.size := World.block_lt_of_cell? _ _ b3c0
  clear hb3p hrb3
  replace HX := Lib.hid (HX.out.below hbawg6)
  replace HY := Lib.hid (HY.out.below hbawg6)
  replace I1 := Lib.hid (I1.out.below hbawg6)
  replace R1 := Lib.hid (R1.out.below hbawg6)
  replace I2 := Lib.hid (I2.out.below hbawg6)
  replace R2 := Lib.hid (R2.out.below hbawg6)
  replace I3 := Lib.hid (I3.out.below hbawg6)
  replace bxc0 := (hbawg6.cell (p := ⟨bxp, 0, none⟩) bxl).trans bxc0
  replace bxc1 := (hbawg6.cell (p := ⟨bxp, 1, none⟩) bxl).trans bxc1
  replace bxl := Nat.lt_of_lt_of_le bxl hbawg6.size
  replace byc0 := (hbawg6.cell (p := ⟨byp, 0, none⟩) byl).trans byc0
  replace byc1 := (hbawg6.cell (p := ⟨byp, 1, none⟩) byl).trans byc1
  replace byl := Nat.lt_of_lt_of_le byl hbawg6.size
  replace b1c0 := (hbawg6.cell (p := ⟨b1p, 0, none⟩) b1l).trans b1c0
  replace b1c1 := (hbawg6.cell (p := ⟨b1p, 1, none⟩) b1l).trans b1c1
  replace b1l := Nat.lt_of_lt_of_le b1l hbawg6.size
  replace r1c0 := (hbawg6.cell (p := ⟨r1p, 0, none⟩) r1l).trans r1c0
  replace r1c1 := (hbawg6.cell (p := ⟨r1p, 1, none⟩) r1l).trans r1c1
  replace r1l := Nat.lt_of_lt_of_le r1l hbawg6.size
  replace b2c0 := (hbawg6.cell (p := ⟨b2p, 0, none⟩) b2l).trans b2c0
  replace b2c1 := (hbawg6.cell (p := ⟨b2p, 1, none⟩) b2l).trans b2c1
  replace b2l := Nat.lt_of_lt_of_le b2l hbawg6.size
  replace r2c0 := (hbawg6.cell (p := ⟨r2p, 0, none⟩) r2l).trans r2c0
  replace r2c1 := (hbawg6.cell (p := ⟨r2p, 1, none⟩) r2l).trans r2c1
  replace r2l := Nat.lt_of_lt_of_le r2l hbawg6.size
  replace HW := Lib.hid (HW.out.trans (hbawg6.mono HW.out.size))
  replace HQ : Hid (∀ w', Below _ _ w' → _) := Lib.hid (fun w' hb' => HQ.out w' (hbawg6.trans (hb'.mono hbawg6.size)))
  clear hbawg6
  refine (HQ.out _ (.refl _ _)).mono ?_
  clear HQ
  rintro e wg7 ⟨s4, a4, m4, k4, z4, rfl, hR4, hm4, hbwg7⟩
  replace HX := Lib.hid (HX.out.below hbwg7)
  replace HY := Lib.hid (HY.out.below hbwg7)
  replace I1 := Lib.hid (I1.out.below hbwg7)
  replace R1 := Lib.hid (R1.out.below hbwg7)
  replace I2 := Lib.hid (I2.out.below hbwg7)
  replace R2 := Lib.hid (R2.out.below hbwg7)
  replace I3 := Lib.hid (I3.out.below hbwg7)
  replace bxc0 := (hbwg7.cell (p := ⟨bxp, 0, none⟩) bxl).trans bxc0
  replace bxc1 := (hbwg7.cell (p := ⟨bxp, 1, none⟩) bxl).trans bxc1
  replace bxl := Nat.lt_of_lt_of_le bxl hbwg7.size
  replace byc0 := (hbwg7.cell (p := ⟨byp, 0, none⟩) byl).trans byc0
  replace byc1 := (hbwg7.cell (p := ⟨byp, 1, none⟩) byl).trans byc1
  replace byl := Nat.lt_of_lt_of_le byl hbwg7.size
  replace b1c0 := (hbwg7.cell (p := ⟨b1p, 0, none⟩) b1l).trans b1c0
  replace b1c1 := (hbwg7.cell (p := ⟨b1p, 1, none⟩) b1l).trans b1c1
  replace b1l := Nat.lt_of_lt_of_le b1l hbwg7.size
  replace r1c0 := (hbwg7.cell (p := ⟨r1p, 0, none⟩) r1l).trans r1c0
  replace r1c1 := (hbwg7.cell (p := ⟨r1p, 1, none⟩) r1l).trans r1c1
  replace r1l := Nat.lt_of_lt_of_le r1l hbwg7.size
  replace b2c0 := (hbwg7.cell (p := ⟨b2p, 0, none⟩) b2l).trans b2c0
  replace b2c1 := (hbwg7.cell (p := ⟨b2p, 1, none⟩) b2l).trans b2c1
  replace b2l := Nat.lt_of_lt_of_le b2l hbwg7.size
  replace r2c0 := (hbwg7.cell (p := ⟨r2p, 0, none⟩) r2l).trans r2c0
  replace r2c1 := (hbwg7.cell (p := ⟨r2p, 1, none⟩) r2l).trans r2c1
  replace r2l := Nat.lt_of_lt_of_le r2l hbwg7.size
  replace b3c0 := (hbwg7.cell (p := ⟨b3p, 0, none⟩) b3l).trans b3c0
  replace b3c1 := (hbwg7.cell (p := ⟨b3p, 1, none⟩) b3l).trans b3c1
  replace b3l := Nat.lt_of_lt_of_le b3l hbwg7.size
  replace HW := Lib.hid (HW.out.trans (hbwg7.mono HW.out.size))
  have R4 := Lib.hid hR4
  clear hR4 hbwg7
  go_wp2_with fail
  obtain ⟨wg8, hwg8⟩ : ∃ wg8, wg8 = (wg7.alloc (.cells #[.bool s4, .slice a4 m4 k4] 31)) := ⟨_, rfl⟩
  have hbawg8 : Below wg7.heap.size wg7 wg8 := by rw [hwg8]; go_grown
  have hrr4 : wg8.heap[wg7.heap.size]? = some (.cells #[.bool s4, .slice a4 m4 k4] 31 (0, 0)) := by rw [hwg8]; exact heap_alloc_new wg7 _
  rw [← hwg8]
  clear hwg8
  obtain ⟨r4p, hr4p⟩ : ∃ p, p = wg7.heap.size := ⟨_, rfl⟩
  rw [← hr4p] at hrr4 ⊢
  obtain ⟨r4c0, r4c1, -, -⟩ := blk2 hrr4
  have r4l : r4p < wg8.heap.size := World.block_lt_of_cell? _ _ r4c0
  clear hr4p hrr4
  replace HX := Lib.hid (HX.out.below hbawg8)
  replace HY := Lib.hid (HY.out.below hbawg8)
  replace I1 := Lib.hid (I1.out.below hbawg8)
  replace R1 := Lib.hid (R1.out.below hbawg8)
  replace I2 := Lib.hid (I2.out.below hbawg8)
  replace R2 := Lib.hid (R2.out.below hbawg8)
  replace I3 := Lib.hid (I3.out.below hbawg8)
  replace R4 := Lib.hid (R4.out.below hbawg8)
  replace bxc0 := (hbawg8.cell (p := ⟨bxp, 0, none⟩) bxl).trans bxc0
  replace bxc1 := (hbawg8.cell (p := ⟨bxp, 1, none⟩) bxl).trans bxc1
  replace bxl := Nat.lt_of_lt_of_le bxl hbawg8.size
  replace byc0 := (hbawg8.cell (p := ⟨byp, 0, none⟩) byl).trans byc0
  replace byc1 := (hbawg8.cell (p := ⟨byp, 1, none⟩) byl).trans byc1
  replace byl := Nat.lt_of_lt_of_le byl hbawg8.size
  replace b1c0 := (hbawg8.cell (p := ⟨b1p, 0, none⟩) b1l).trans b1c0
  replace b1c1 := (hbawg8.cell (p := ⟨b1p, 1, none⟩) b1l).trans b1c1
  replace b1l := Nat.lt_of_lt_of_le b1l hbawg8.size
  replace r1c0 := (hbawg8.cell (p := ⟨r1p, 0, none⟩) r1l).trans r1c0
  replace r1c1 := (hbawg8.cell (p := ⟨r1p, 1, none⟩) r1l).trans r1c1
  replace r1l := Nat.lt_of_lt_of_le r1l hbawg8.size
  replace b2c0 := (hbawg8.cell (p := ⟨b2p, 0, none⟩) b2l).trans b2c0
  replace b2c1 := (hbawg8.cell (p := ⟨b2p, 1, none⟩) b2l).trans b2c1
  replace b2l := Nat.lt_of_lt_of_le b2l hbawg8.size
  replace r2c0 := (hbawg8.cell (p := ⟨r2p, 0, none⟩) r2l).trans r2c0
  replace r2c1 := (hbawg8.cell (p := ⟨r2p, 1, none⟩) r2l).trans r2c1
  replace r2l := Nat.lt_of_lt_of_le r2l hbawg8.size
  replace b3c0 := (hbawg8.cell (p := ⟨b3p, 0, none⟩) b3l).trans b3c0
  replace b3c1 := (hbawg8.cell (p := ⟨b3p, 1, none⟩) b3l).trans b3c1
  replace b3l := Nat.lt_of_lt_of_le b3l hbawg8.size
  replace HW := Lib.hid (HW.out.trans (hbawg8.mono HW.out.size))
  clear hbawg8
  obtain ⟨cB, hcB⟩ : ∃ b, bitI X i = b := ⟨_, rfl⟩
  have HIS : Hid (∀ w', Below wg8.heap.size wg8 w' → Calls Try.prog 21 #[.agg #[.bool s3, .slice a3 m3 k3], .agg #[.bool s4, .slice a4 m4 k4]] w' (RetV w' (.bool true))) := Lib.hid (fun w' hb => by have := is_any w' s3 s4 a3 a4 m3 m4 k3 k4 z3 z4 P P (I3.out.below hb) (R4.out.below hb) (by omega) (by omega); rwa [decide_eq_true rfl] at this)
  have HB1 : Hid (∀ w', Below wg8.heap.size wg8 w' → Calls Try.prog 53 #[.agg #[.bool s1, .slice a1 m1 k1], .int .i64 i] w' (RetV w' (.bool cB))) := Lib.hid (fun w' hb => by rw [← hcB]; exact bit_any w' s1 a1 m1 k1 z1 X i (I1.out.below hb) (by omega) HI0.out)
  have HB2 : Hid (∀ w', Below wg8.heap.size wg8 w' → Calls Try.prog 54 #[.agg #[.bool t1, .slice d1 j1 e1], .int .i64 i] w' (RetV w' (.bool cB))) := Lib.hid (fun w' hb => by rw [← hcB]; exact rbit_any w' t1 d1 j1 e1 y1 X i (R1.out.below hb) (by omega) HI0.out)
  have HKP : Hid (∀ w', Below wg8.heap.size wg8 w' → (w'.cell? ⟨b3p, 0, none⟩ = some (.bool s3) ∧ w'.cell? ⟨b3p, 1, none⟩ = some (.slice a3 m3 k3) ∧ w'.cell? ⟨r4p, 0, none⟩ = some (.bool s4) ∧ w'.cell? ⟨r4p, 1, none⟩ = some (.slice a4 m4 k4) ∧ w'.cell? ⟨b1p, 0, none⟩ = some (.bool s1) ∧ w'.cell? ⟨b1p, 1, none⟩ = some (.slice a1 m1 k1) ∧ w'.cell? ⟨r1p, 0, none⟩ = some (.bool t1) ∧ w'.cell? ⟨r1p, 1, none⟩ = some (.slice d1 j1 e1))) := Lib.hid (fun w' hb => ⟨(hb.cell (p := ⟨b3p, 0, none⟩) b3l).trans b3c0, (hb.cell (p := ⟨b3p, 1, none⟩) b3l).trans b3c1, (hb.cell (p := ⟨r4p, 0, none⟩) r4l).trans r4c0, (hb.cell (p := ⟨r4p, 1, none⟩) r4l).trans r4c1, (hb.cell (p := ⟨b1p, 0, none⟩) b1l).trans b1c0, (hb.cell (p := ⟨b1p, 1, none⟩) b1l).trans b1c1, (hb.cell (p := ⟨r1p, 0, none⟩) r1l).trans r1c0, (hb.cell (p := ⟨r1p, 1, none⟩) r1l).trans r1c1⟩)
  clear hcB I1 I2 I3 R1 R2 R4 HX HY HXV HYV HI0
  clear bxc0 bxc1 bxl
  clear byc0 byc1 byl
  clear b1c0 b1c1 b1l
  clear r1c0 r1c1 r1l
  clear b2c0 b2c1 b2l
  clear r2c0 r2c1 r2l
  clear b3c0 b3c1 b3l
  clear r4c0 r4c1 r4l
  go_region_held3 (fun w' => w'.cell? ⟨b3p, 0, none⟩ = some (.bool s3) ∧ w'.cell? ⟨b3p, 1, none⟩ = some (.slice a3 m3 k3) ∧ w'.cell? ⟨r4p, 0, none⟩ = some (.bool s4) ∧ w'.cell? ⟨r4p, 1, none⟩ = some (.slice a4 m4 k4) ∧ w'.cell? ⟨b1p, 0, none⟩ = some (.bool s1) ∧ w'.cell? ⟨b1p, 1, none⟩ = some (.slice a1 m1 k1) ∧ w'.cell? ⟨r1p, 0, none⟩ = some (.bool t1) ∧ w'.cell? ⟨r1p, 1, none⟩ = some (.slice d1 j1 e1)) ((first | exact HKP.out _ X4 | exact HKP.out _ X3 | exact HKP.out _ X2 | exact HKP.out _ X1 | exact HKP.out _ (Below.refl _ _).drew))
    (first | (go_at_call 15; have T4 := X3; clear T4; refine (awake_any _).mono ?_; rintro e v4 ⟨rfl, u4⟩; have X4 : Below wg8.heap.size wg8 v4 := X3.trans (u4.mono X3.size)) | (go_at_call 54; have T3 := X2; clear T3; refine (HB2.out _ X2).mono ?_; rintro e v3 ⟨rfl, u3⟩; have X3 : Below wg8.heap.size wg8 v3 := X2.trans (u3.mono X2.size)) | (go_at_call 53; have T2 := X1; clear T2; refine (HB1.out _ X1).mono ?_; rintro e v2 ⟨rfl, u2⟩; have X2 : Below wg8.heap.size wg8 v2 := X1.trans (u2.mono X1.size)) | (go_at_call 21; refine (HIS.out _ (Below.refl _ _).drew).mono ?_; rintro e v1 ⟨rfl, u1⟩; have X1 : Below wg8.heap.size wg8 v1 := (Below.refl _ _).drew.trans u1))
  go_wp2_with fail
  go_ret
  exact ⟨rfl, HW.out.trans (X4.mono HW.out.size)⟩

theorem bits_law (w : World) (op i : Int) (nx ny : Bool) (ax ay : Option Addr) (n1 c1 n2 c2 : Nat) (zx zy : List Int) (hx : Sl w ax n1 c1 zx) (lx : Lim zx) (hy : Sl w ay n2 c2 zy) (ly : Lim zy) (hi0 : i ≤ 9223372036854775807) :
    Calls Try.prog 7 #[.int .i64 op, .agg #[.bool nx, .slice ax n1 c1], .agg #[.bool ny, .slice ay n2 c2], .int .i64 i] w (RetV w (.bool true)) := by
  by_cases h : n1 ≤ 8 ∧ n2 ≤ 8
  · exact bits_short w op i nx ny ax ay n1 c1 n2 c2 zx zy hx lx hy ly hi0 h
  · exact bits_long w op i nx ny ax ay n1 c1 n2 c2 h
end Go.Proofs.Ytipjbknoeoajnaa
