/- IntegerPowers: the walk. -/
import Derived.Test.YtpakfknacmcohaaBothP
import Derived.Test.YtpakfknacmcohaaOf
namespace Go.Proofs.Ytpakfknacmcohaa
open Go.RowKit
set_option autoImplicit false
set_option linter.unusedVariables false

set_option maxRecDepth 100000 in
theorem powers_longY (w : World) (n : Int) (nx ny : Bool) (ax ay : Option Addr) (n1 c1 n2 c2 : Nat) (h : ¬ n2 ≤ 8) :
    Calls Try.prog 5 #[.agg #[.bool nx, .slice ax n1 c1], .int .i64 n, .agg #[.bool ny, .slice ay n2 c2]] w (RetV w (.bool true)) := by
  have HY8 : Hid (decide (n2 ≤ 8) = false) := Lib.hid (decide_eq_false h)
  clear h
  go_enter Try.func5, Try.ntmps5
  go_upto_region 1 with (fail)
  obtain ⟨W, hW⟩ : ∃ W, W = (w.alloc (.cells #[.bool nx, .slice ax n1 c1] 24)).alloc (.cells #[.bool ny, .slice ay n2 c2] 24) := ⟨_, rfl⟩
  have hbW : Below w.heap.size w W := by rw [hW]; go_grown
  have hsW : w.heap.size + 1 + 1 ≤ W.heap.size := by rw [hW]; go_size
  have rx : W.heap[w.heap.size]? = some (.cells #[.bool nx, .slice ax n1 c1] 24 (0, 0)) := by rw [hW]; exact (heap_alloc2 w _ _).2
  have ry : W.heap[w.heap.size + 1]? = some (.cells #[.bool ny, .slice ay n2 c2] 24 (0, 0)) := by rw [hW]; exact (heap_alloc2 w _ _).1
  rw [← hW]
  clear hW
  obtain ⟨y0, y1, -, -⟩ := blk2 ry
  go_wp2_with fail
  refine (short_one _ _ ⟨ny, ay, n2, c2⟩ 8 (heap_alloc_new _ _)).mono ?_
  rintro e w1 ⟨rfl, hb1⟩
  rw [show decide (Num.n ⟨ny, ay, n2, c2⟩ ≤ 8) = false from HY8.out]
  have hb2 : Below W.heap.size W w1 := Below.trans (by go_grown) (hb1.mono (by go_size))
  clear hb1 y0 y1
  go_wp2_with fail
  refine (awake_any _).mono ?_
  rintro e we ⟨rfl, hbe⟩
  go_wp2_with fail
  go_ret
  exact ⟨rfl, (hbW.trans (hb2.mono hbW.size)).trans (hbe.mono (Nat.le_trans hbW.size hb2.size))⟩

set_option maxRecDepth 100000 in
theorem powers_longX (w : World) (n : Int) (nx ny : Bool) (ax ay : Option Addr) (n1 c1 n2 c2 : Nat) (g : n2 ≤ 8) (h : ¬ n1 ≤ 2) :
    Calls Try.prog 5 #[.agg #[.bool nx, .slice ax n1 c1], .int .i64 n, .agg #[.bool ny, .slice ay n2 c2]] w (RetV w (.bool true)) := by
  have HY8 : Hid (decide (n2 ≤ 8) = true) := Lib.hid (decide_eq_true g)
  have HX2 : Hid (decide (n1 ≤ 2) = false) := Lib.hid (decide_eq_false h)
  clear g h
  go_enter Try.func5, Try.ntmps5
  go_upto_region 1 with (fail)
  obtain ⟨W, hW⟩ : ∃ W, W = (w.alloc (.cells #[.bool nx, .slice ax n1 c1] 24)).alloc (.cells #[.bool ny, .slice ay n2 c2] 24) := ⟨_, rfl⟩
  have hbW : Below w.heap.size w W := by rw [hW]; go_grown
  have hsW : w.heap.size + 1 + 1 ≤ W.heap.size := by rw [hW]; go_size
  have rx : W.heap[w.heap.size]? = some (.cells #[.bool nx, .slice ax n1 c1] 24 (0, 0)) := by rw [hW]; exact (heap_alloc2 w _ _).2
  have ry : W.heap[w.heap.size + 1]? = some (.cells #[.bool ny, .slice ay n2 c2] 24 (0, 0)) := by rw [hW]; exact (heap_alloc2 w _ _).1
  rw [← hW]
  clear hW
  obtain ⟨y0, y1, -, -⟩ := blk2 ry
  go_wp2_with fail
  refine (short_one _ _ ⟨ny, ay, n2, c2⟩ 8 (heap_alloc_new _ _)).mono ?_
  rintro e w1 ⟨rfl, hb1⟩
  rw [show decide (Num.n ⟨ny, ay, n2, c2⟩ ≤ 8) = true from HY8.out]
  have hb2 : Below W.heap.size W w1 := Below.trans (by go_grown) (hb1.mono (by go_size))
  clear hb1 y0 y1
  have sx := (hb2.block w.heap.size (by omega)).trans rx
  have sy := (hb2.block (w.heap.size + 1) (by omega)).trans ry
  have hz1 : w.heap.size + 1 + 1 ≤ w1.heap.size := Nat.le_trans hsW hb2.size
  obtain ⟨x0, x1, -, -⟩ := blk2 sx
  go_wp2_with fail
  refine (short_one _ _ ⟨nx, ax, n1, c1⟩ 2 (heap_alloc_new _ _)).mono ?_
  rintro e w2 ⟨rfl, hb1⟩
  rw [show decide (Num.n ⟨nx, ax, n1, c1⟩ ≤ 2) = false from HX2.out]
  have hb3 : Below w1.heap.size w1 w2 := Below.trans (by go_grown) (hb1.mono (by go_size))
  clear hb1 x0 x1
  go_wp2_with fail
  refine (awake_any _).mono ?_
  rintro e we ⟨rfl, hbe⟩
  go_wp2_with fail
  go_ret
  exact ⟨rfl, ((hbW.trans (hb2.mono hbW.size)).trans (hb3.mono (Nat.le_trans hbW.size hb2.size))).trans (hbe.mono (Nat.le_trans (Nat.le_trans hbW.size hb2.size) hb3.size))⟩

theorem rlen_is (w : World) (nx : Bool) (ao : Option Addr) (n cap : Nat) (xs : List Int) (x : Int) (L : Nat) (hx : RefAt w nx ao n cap xs x) (hn : n ≤ 4294967296) (h : blen (cpl x).toNat = L) :
    Calls Try.prog 27 #[.agg #[.bool nx, .slice ao n cap]] w (RetV w (.int .i64 (L : Int))) := by
  rw [← h]; exact rlength_any w nx ao n cap xs x hx hn

theorem blen_abs {X : Int} : 1 < blen (cpl (X.natAbs : Int)).toNat ↔ 1 < X.natAbs := by
  have e : (cpl (X.natAbs : Int)).toNat = X.natAbs := by unfold cpl; rw [if_neg (by omega)]; omega
  rw [e]
  have h := @blen_lt2 X.natAbs
  omega

set_option maxRecDepth 100000 in
set_option maxHeartbeats 4000000 in
theorem powers_C (w : World) (n : Int) (nx ny : Bool) (ax ay : Option Addr) (n1 c1 n2 c2 : Nat) (zx zy : List Int) (hx : Sl w ax n1 c1 zx) (lx : Lim zx) (hy : Sl w ay n2 c2 zy) (ly : Lim zy) (h1 : n1 ≤ 2) (h2 : n2 ≤ 8) (hlo : -9223372036854775808 ≤ n) (hhi : n ≤ 9223372036854775807) (hn : n ≤ 40) :
    Calls Try.prog 5 #[.agg #[.bool nx, .slice ax n1 c1], .int .i64 n, .agg #[.bool ny, .slice ay n2 c2]] w (RetV w (.bool true)) := by
  have HX := Lib.hid hx
  have HY := Lib.hid hy
  obtain ⟨X, hX⟩ : ∃ X, sgn nx (val zx) = X := ⟨_, rfl⟩
  obtain ⟨Y, hY⟩ : ∃ Y, sgn ny (val zy) = Y := ⟨_, rfl⟩
  have HXV := Lib.hid hX
  have HYV := Lib.hid hY
  have HY8 : Hid (decide (n2 ≤ 8) = true) := Lib.hid (decide_eq_true h2)
  have HX2 : Hid (decide (n1 ≤ 2) = true) := Lib.hid (decide_eq_true h1)
  have HHI := Lib.hid hhi
  have hn40 : ¬ (40 : Int) < n := by omega
  have HCASE : Hid (n < 0 ∨ X.natAbs ≤ 1 ∨ n ≤ 40) := Lib.hid (.inr (.inr (by omega)))
  clear hx hy hX hY hlo hhi
  go_enter Try.func5, Try.ntmps5
  go_upto_region 1 with (fail)
  obtain ⟨W, hW⟩ : ∃ W, W = (w.alloc (.cells #[.bool nx, .slice ax n1 c1] 24)).alloc (.cells #[.bool ny, .slice ay n2 c2] 24) := ⟨_, rfl⟩
  have hbW : Below w.heap.size w W := by rw [hW]; go_grown
  have hsW : w.heap.size + 1 + 1 ≤ W.heap.size := by rw [hW]; go_size
  have rx : W.heap[w.heap.size]? = some (.cells #[.bool nx, .slice ax n1 c1] 24 (0, 0)) := by rw [hW]; exact (heap_alloc2 w _ _).2
  have ry : W.heap[w.heap.size + 1]? = some (.cells #[.bool ny, .slice ay n2 c2] 24 (0, 0)) := by rw [hW]; exact (heap_alloc2 w _ _).1
  rw [← hW]
  clear hW
  obtain ⟨y0, y1, -, -⟩ := blk2 ry
  go_wp2_with fail
  refine (short_one _ _ ⟨ny, ay, n2, c2⟩ 8 (heap_alloc_new _ _)).mono ?_
  rintro e w1 ⟨rfl, hb1⟩
  rw [show decide (Num.n ⟨ny, ay, n2, c2⟩ ≤ 8) = true from HY8.out]
  have hb2 : Below W.heap.size W w1 := Below.trans (by go_grown) (hb1.mono (by go_size))
  clear hb1 y0 y1
  have sx := (hb2.block w.heap.size (by omega)).trans rx
  have sy := (hb2.block (w.heap.size + 1) (by omega)).trans ry
  have hz1 : w.heap.size + 1 + 1 ≤ w1.heap.size := Nat.le_trans hsW hb2.size
  obtain ⟨x0, x1, -, -⟩ := blk2 sx
  go_wp2_with fail
  refine (short_one _ _ ⟨nx, ax, n1, c1⟩ 2 (heap_alloc_new _ _)).mono ?_
  rintro e w2 ⟨rfl, hb1⟩
  rw [show decide (Num.n ⟨nx, ax, n1, c1⟩ ≤ 2) = true from HX2.out]
  have hb3 : Below w1.heap.size w1 w2 := Below.trans (by go_grown) (hb1.mono (by go_size))
  clear hb1 x0 x1
  have HW := Lib.hid ((hbW.trans (hb2.mono hbW.size)).trans (hb3.mono (Nat.le_trans hbW.size hb2.size)))
  have rx1 := (hb3.block w.heap.size (by omega)).trans sx
  have ry1 := (hb3.block (w.heap.size + 1) (by omega)).trans sy
  obtain ⟨bxp, hbxp⟩ : ∃ p, p = w.heap.size := ⟨_, rfl⟩
  obtain ⟨byp, hbyp⟩ : ∃ p, p = w.heap.size + 1 := ⟨_, rfl⟩
  rw [← hbyp] at ry1 ⊢
  rw [← hbxp] at rx1 ⊢
  obtain ⟨bxc0, bxc1, -, -⟩ := blk2 rx1
  obtain ⟨byc0, byc1, -, -⟩ := blk2 ry1
  have bxl : bxp < w2.heap.size := World.block_lt_of_cell? _ _ bxc0
  have byl : byp < w2.heap.size := World.block_lt_of_cell? _ _ byc0
  replace HX := Lib.hid (HX.out.below HW.out)
  replace HY := Lib.hid (HY.out.below HW.out)
  clear rx ry sx sy rx1 ry1 hbxp hbyp hbW hsW hb2 hb3 hz1
  go_wp2_with fail
  refine (of_any _ nx ax n1 c1 zx HX.out lx (by omega)).mono ?_
  rintro e wg1 ⟨s1, a1, m1, k1, z1, t1, d1, j1, e1, y1, rfl, hI1, hm1, hR1, hj1, hbwg1⟩
  rw [HXV.out] at hI1 hR1
  replace HX := Lib.hid (HX.out.below hbwg1)
  replace HY := Lib.hid (HY.out.below hbwg1)
  replace bxc0 := (hbwg1.cell (p := ⟨bxp, 0, none⟩) bxl).trans bxc0
  replace bxc1 := (hbwg1.cell (p := ⟨bxp, 1, none⟩) bxl).trans bxc1
  replace bxl := Nat.lt_of_lt_of_le bxl hbwg1.size
  replace byc0 := (hbwg1.cell (p := ⟨byp, 0, none⟩) byl).trans byc0
  replace byc1 := (hbwg1.cell (p := ⟨byp, 1, none⟩) byl).trans byc1
  replace byl := Nat.lt_of_lt_of_le byl hbwg1.size
  replace HW := Lib.hid (HW.out.trans (hbwg1.mono HW.out.size))
  have I1 := Lib.hid hI1
  clear hI1
  have R1 := Lib.hid hR1
  clear hR1
  clear hbwg1
  go_wp2_with fail
  obtain ⟨wg2, hwg2⟩ : ∃ wg2, wg2 = ((wg1.alloc (.cells #[.bool s1, .slice a1 m1 k1] 28)).alloc (.cells #[.bool t1, .slice d1 j1 e1] 31)) := ⟨_, rfl⟩
  have hbawg2 : Below wg1.heap.size wg1 wg2 := by rw [hwg2]; go_grown
  have hrb1 : wg2.heap[wg1.heap.size]? = some (.cells #[.bool s1, .slice a1 m1 k1] 28 (0, 0)) := by rw [hwg2]; exact (heap_alloc2 wg1 _ _).2
  have hrr1 : wg2.heap[wg1.heap.size + 1]? = some (.cells #[.bool t1, .slice d1 j1 e1] 31 (0, 0)) := by rw [hwg2]; exact (heap_alloc2 wg1 _ _).1
  rw [← hwg2]
  clear hwg2
  obtain ⟨b1p, hb1p⟩ : ∃ p, p = wg1.heap.size := ⟨_, rfl⟩
  obtain ⟨r1p, hr1p⟩ : ∃ p, p = wg1.heap.size + 1 := ⟨_, rfl⟩
  rw [← hr1p] at hrr1 ⊢
  rw [← hb1p] at hrb1 ⊢
  obtain ⟨b1c0, b1c1, -, -⟩ := blk2 hrb1
  have b1l : b1p < wg2.heap.size := World.block_lt_of_cell? _ _ b1c0
  clear hb1p hrb1
  obtain ⟨r1c0, r1c1, -, -⟩ := blk2 hrr1
  have r1l : r1p < wg2.heap.size := World.block_lt_of_cell? _ _ r1c0
  clear hr1p hrr1
  replace HX := Lib.hid (HX.out.below hbawg2)
  replace HY := Lib.hid (HY.out.below hbawg2)
  replace I1 := Lib.hid (I1.out.below hbawg2)
  replace R1 := Lib.hid (R1.out.below hbawg2)
  replace bxc0 := (hbawg2.cell (p := ⟨bxp, 0, none⟩) bxl).trans bxc0
  replace bxc1 := (hbawg2.cell (p := ⟨bxp, 1, none⟩) bxl).trans bxc1
  replace bxl := Nat.lt_of_lt_of_le bxl hbawg2.size
  replace byc0 := (hbawg2.cell (p := ⟨byp, 0, none⟩) byl).trans byc0
  replace byc1 := (hbawg2.cell (p := ⟨byp, 1, none⟩) byl).trans byc1
  replace byl := Nat.lt_of_lt_of_le byl hbawg2.size
  replace HW := Lib.hid (HW.out.trans (hbawg2.mono HW.out.size))
  clear hbawg2
  obtain ⟨P, c, hP, hQ⟩ := both_power n s1 t1 a1 d1 m1 j1 k1 e1 z1 y1 X wg2 I1.out R1.out (by omega) (by omega) HCASE.out HHI.out
  have HP := Lib.hid hP
  clear hP
  have HQ := Lib.hid hQ
  clear hQ
  clear I1 R1 HHI HCASE
  refine (HP.out _ (.refl _ _)).mono ?_
  clear HP
  rintro e wg3 ⟨s3, a3, m3, k3, z3, rfl, hI3, hm3, hbwg3⟩
  replace HX := Lib.hid (HX.out.below hbwg3)
  replace HY := Lib.hid (HY.out.below hbwg3)
  replace bxc0 := (hbwg3.cell (p := ⟨bxp, 0, none⟩) bxl).trans bxc0
  replace bxc1 := (hbwg3.cell (p := ⟨bxp, 1, none⟩) bxl).trans bxc1
  replace bxl := Nat.lt_of_lt_of_le bxl hbwg3.size
  replace byc0 := (hbwg3.cell (p := ⟨byp, 0, none⟩) byl).trans byc0
  replace byc1 := (hbwg3.cell (p := ⟨byp, 1, none⟩) byl).trans byc1
  replace byl := Nat.lt_of_lt_of_le byl hbwg3.size
  replace b1c0 := (hbwg3.cell (p := ⟨b1p, 0, none⟩) b1l).trans b1c0
  replace b1c1 := (hbwg3.cell (p := ⟨b1p, 1, none⟩) b1l).trans b1c1
  replace b1l := Nat.lt_of_lt_of_le b1l hbwg3.size
  replace r1c0 := (hbwg3.cell (p := ⟨r1p, 0, none⟩) r1l).trans r1c0
  replace r1c1 := (hbwg3.cell (p := ⟨r1p, 1, none⟩) r1l).trans r1c1
  replace r1l := Nat.lt_of_lt_of_le r1l hbwg3.size
  replace HW := Lib.hid (HW.out.trans (hbwg3.mono HW.out.size))
  replace HQ : Hid (∀ w', Below _ _ w' → _) := Lib.hid (fun w' hb' => HQ.out w' (hbwg3.trans (hb'.mono hbwg3.size)))
  have I3 := Lib.hid hI3
  clear hI3 hbwg3
  go_wp2_with fail
  obtain ⟨wg4, hwg4⟩ : ∃ wg4, wg4 = (wg3.alloc (.cells #[.bool s3, .slice a3 m3 k3] 28)) := ⟨_, rfl⟩
  have hbawg4 : Below wg3.heap.size wg3 wg4 := by rw [hwg4]; go_grown
  have hrb3 : wg4.heap[wg3.heap.size]? = some (.cells #[.bool s3, .slice a3 m3 k3] 28 (0, 0)) := by rw [hwg4]; exact heap_alloc_new wg3 _
  rw [← hwg4]
  clear hwg4
  obtain ⟨b3p, hb3p⟩ : ∃ p, p = wg3.heap.size := ⟨_, rfl⟩
  rw [← hb3p] at hrb3 ⊢
  obtain ⟨b3c0, b3c1, -, -⟩ := blk2 hrb3
  have b3l : b3p < wg4.heap.size := World.block_lt_of_cell? _ _ b3c0
  clear hb3p hrb3
  replace HX := Lib.hid (HX.out.below hbawg4)
  replace HY := Lib.hid (HY.out.below hbawg4)
  replace I3 := Lib.hid (I3.out.below hbawg4)
  replace bxc0 := (hbawg4.cell (p := ⟨bxp, 0, none⟩) bxl).trans bxc0
  replace bxc1 := (hbawg4.cell (p := ⟨bxp, 1, none⟩) bxl).trans bxc1
  replace bxl := Nat.lt_of_lt_of_le bxl hbawg4.size
  replace byc0 := (hbawg4.cell (p := ⟨byp, 0, none⟩) byl).trans byc0
  replace byc1 := (hbawg4.cell (p := ⟨byp, 1, none⟩) byl).trans byc1
  replace byl := Nat.lt_of_lt_of_le byl hbawg4.size
  replace b1c0 := (hbawg4.cell (p := ⟨b1p, 0, none⟩) b1l).trans b1c0
  replace b1c1 := (hbawg4.cell (p := ⟨b1p, 1, none⟩) b1l).trans b1c1
  replace b1l := Nat.lt_of_lt_of_le b1l hbawg4.size
  replace r1c0 := (hbawg4.cell (p := ⟨r1p, 0, none⟩) r1l).trans r1c0
  replace r1c1 := (hbawg4.cell (p := ⟨r1p, 1, none⟩) r1l).trans r1c1
  replace r1l := Nat.lt_of_lt_of_le r1l hbawg4.size
  replace HW := Lib.hid (HW.out.trans (hbawg4.mono HW.out.size))
  replace HQ : Hid (∀ w', Below _ _ w' → _) := Lib.hid (fun w' hb' => HQ.out w' (hbawg4.trans (hb'.mono hbawg4.size)))
  clear hbawg4
  refine (HQ.out _ (.refl _ _)).mono ?_
  clear HQ
  rintro e wg5 ⟨s4, a4, m4, k4, z4, rfl, hR4, hm4, hbwg5⟩
  replace HX := Lib.hid (HX.out.below hbwg5)
  replace HY := Lib.hid (HY.out.below hbwg5)
  replace I3 := Lib.hid (I3.out.below hbwg5)
  replace bxc0 := (hbwg5.cell (p := ⟨bxp, 0, none⟩) bxl).trans bxc0
  replace bxc1 := (hbwg5.cell (p := ⟨bxp, 1, none⟩) bxl).trans bxc1
  replace bxl := Nat.lt_of_lt_of_le bxl hbwg5.size
  replace byc0 := (hbwg5.cell (p := ⟨byp, 0, none⟩) byl).trans byc0
  replace byc1 := (hbwg5.cell (p := ⟨byp, 1, none⟩) byl).trans byc1
  replace byl := Nat.lt_of_lt_of_le byl hbwg5.size
  replace b1c0 := (hbwg5.cell (p := ⟨b1p, 0, none⟩) b1l).trans b1c0
  replace b1c1 := (hbwg5.cell (p := ⟨b1p, 1, none⟩) b1l).trans b1c1
  replace b1l := Nat.lt_of_lt_of_le b1l hbwg5.size
  replace r1c0 := (hbwg5.cell (p := ⟨r1p, 0, none⟩) r1l).trans r1c0
  replace r1c1 := (hbwg5.cell (p := ⟨r1p, 1, none⟩) r1l).trans r1c1
  replace r1l := Nat.lt_of_lt_of_le r1l hbwg5.size
  replace b3c0 := (hbwg5.cell (p := ⟨b3p, 0, none⟩) b3l).trans b3c0
  replace b3c1 := (hbwg5.cell (p := ⟨b3p, 1, none⟩) b3l).trans b3c1
  replace b3l := Nat.lt_of_lt_of_le b3l hbwg5.size
  replace HW := Lib.hid (HW.out.trans (hbwg5.mono HW.out.size))
  have R4 := Lib.hid hR4
  clear hR4 hbwg5
  go_wp2_with fail
  obtain ⟨wg6, hwg6⟩ : ∃ wg6, wg6 = (wg5.alloc (.cells #[.bool s4, .slice a4 m4 k4] 31)) := ⟨_, rfl⟩
  have hbawg6 : Below wg5.heap.size wg5 wg6 := by rw [hwg6]; go_grown
  have hrr4 : wg6.heap[wg5.heap.size]? = some (.cells #[.bool s4, .slice a4 m4 k4] 31 (0, 0)) := by rw [hwg6]; exact heap_alloc_new wg5 _
  rw [← hwg6]
  clear hwg6
  obtain ⟨r4p, hr4p⟩ : ∃ p, p = wg5.heap.size := ⟨_, rfl⟩
  rw [← hr4p] at hrr4 ⊢
  obtain ⟨r4c0, r4c1, -, -⟩ := blk2 hrr4
  have r4l : r4p < wg6.heap.size := World.block_lt_of_cell? _ _ r4c0
  clear hr4p hrr4
  replace HX := Lib.hid (HX.out.below hbawg6)
  replace HY := Lib.hid (HY.out.below hbawg6)
  replace I3 := Lib.hid (I3.out.below hbawg6)
  replace R4 := Lib.hid (R4.out.below hbawg6)
  replace bxc0 := (hbawg6.cell (p := ⟨bxp, 0, none⟩) bxl).trans bxc0
  replace bxc1 := (hbawg6.cell (p := ⟨bxp, 1, none⟩) bxl).trans bxc1
  replace bxl := Nat.lt_of_lt_of_le bxl hbawg6.size
  replace byc0 := (hbawg6.cell (p := ⟨byp, 0, none⟩) byl).trans byc0
  replace byc1 := (hbawg6.cell (p := ⟨byp, 1, none⟩) byl).trans byc1
  replace byl := Nat.lt_of_lt_of_le byl hbawg6.size
  replace b1c0 := (hbawg6.cell (p := ⟨b1p, 0, none⟩) b1l).trans b1c0
  replace b1c1 := (hbawg6.cell (p := ⟨b1p, 1, none⟩) b1l).trans b1c1
  replace b1l := Nat.lt_of_lt_of_le b1l hbawg6.size
  replace r1c0 := (hbawg6.cell (p := ⟨r1p, 0, none⟩) r1l).trans r1c0
  replace r1c1 := (hbawg6.cell (p := ⟨r1p, 1, none⟩) r1l).trans r1c1
  replace r1l := Nat.lt_of_lt_of_le r1l hbawg6.size
  replace b3c0 := (hbawg6.cell (p := ⟨b3p, 0, none⟩) b3l).trans b3c0
  replace b3c1 := (hbawg6.cell (p := ⟨b3p, 1, none⟩) b3l).trans b3c1
  replace b3l := Nat.lt_of_lt_of_le b3l hbawg6.size
  replace HW := Lib.hid (HW.out.trans (hbawg6.mono HW.out.size))
  clear hbawg6
  refine (of_any _ ny ay n2 c2 zy HY.out ly (by omega)).mono ?_
  rintro e wg7 ⟨s2, a2, m2, k2, z2, t2, d2, j2, e2, y2, rfl, hI2, hm2, hR2, hj2, hbwg7⟩
  rw [HYV.out] at hI2 hR2
  replace HX := Lib.hid (HX.out.below hbwg7)
  replace HY := Lib.hid (HY.out.below hbwg7)
  replace I3 := Lib.hid (I3.out.below hbwg7)
  replace R4 := Lib.hid (R4.out.below hbwg7)
  replace bxc0 := (hbwg7.cell (p := ⟨bxp, 0, none⟩) bxl).trans bxc0
  replace bxc1 := (hbwg7.cell (p := ⟨bxp, 1, none⟩) bxl).trans bxc1
  replace bxl := Nat.lt_of_lt_of_le bxl hbwg7.size
  replace byc0 := (hbwg7.cell (p := ⟨byp, 0, none⟩) byl).trans byc0
  replace byc1 := (hbwg7.cell (p := ⟨byp, 1, none⟩) byl).trans byc1
  replace byl := Nat.lt_of_lt_of_le byl hbwg7.size
  replace b1c0 := (hbwg7.cell (p := ⟨b1p, 0, none⟩) b1l).trans b1c0
  replace b1c1 := (hbwg7.cell (p := ⟨b1p, 1, none⟩) b1l).trans b1c1
  replace b1l := Nat.lt_of_lt_of_le b1l hbwg7.size
  replace r1c0 := (hbwg7.cell (p := ⟨r1p, 0, none⟩) r1l).trans r1c0
  replace r1c1 := (hbwg7.cell (p := ⟨r1p, 1, none⟩) r1l).trans r1c1
  replace r1l := Nat.lt_of_lt_of_le r1l hbwg7.size
  replace b3c0 := (hbwg7.cell (p := ⟨b3p, 0, none⟩) b3l).trans b3c0
  replace b3c1 := (hbwg7.cell (p := ⟨b3p, 1, none⟩) b3l).trans b3c1
  replace b3l := Nat.lt_of_lt_of_le b3l hbwg7.size
  replace r4c0 := (hbwg7.cell (p := ⟨r4p, 0, none⟩) r4l).trans r4c0
  replace r4c1 := (hbwg7.cell (p := ⟨r4p, 1, none⟩) r4l).trans r4c1
  replace r4l := Nat.lt_of_lt_of_le r4l hbwg7.size
  replace HW := Lib.hid (HW.out.trans (hbwg7.mono HW.out.size))
  have I2 := Lib.hid hI2
  clear hI2
  have R2 := Lib.hid hR2
  clear hR2
  clear hbwg7
  go_wp2_with fail
  obtain ⟨wg8, hwg8⟩ : ∃ wg8, wg8 = ((wg7.alloc (.cells #[.bool s2, .slice a2 m2 k2] 28)).alloc (.cells #[.bool t2, .slice d2 j2 e2] 31)) := ⟨_, rfl⟩
  have hbawg8 : Below wg7.heap.size wg7 wg8 := by rw [hwg8]; go_grown
  have hrb2 : wg8.heap[wg7.heap.size]? = some (.cells #[.bool s2, .slice a2 m2 k2] 28 (0, 0)) := by rw [hwg8]; exact (heap_alloc2 wg7 _ _).2
  have hrr2 : wg8.heap[wg7.heap.size + 1]? = some (.cells #[.bool t2, .slice d2 j2 e2] 31 (0, 0)) := by rw [hwg8]; exact (heap_alloc2 wg7 _ _).1
  rw [← hwg8]
  clear hwg8
  obtain ⟨b2p, hb2p⟩ : ∃ p, p = wg7.heap.size := ⟨_, rfl⟩
  obtain ⟨r2p, hr2p⟩ : ∃ p, p = wg7.heap.size + 1 := ⟨_, rfl⟩
  rw [← hr2p] at hrr2 ⊢
  rw [← hb2p] at hrb2 ⊢
  obtain ⟨b2c0, b2c1, -, -⟩ := blk2 hrb2
  have b2l : b2p < wg8.heap.size := World.block_lt_of_cell? _ _ b2c0
  clear hb2p hrb2
  obtain ⟨r2c0, r2c1, -, -⟩ := blk2 hrr2
  have r2l : r2p < wg8.heap.size := World.block_lt_of_cell? _ _ r2c0
  clear hr2p hrr2
  replace HX := Lib.hid (HX.out.below hbawg8)
  replace HY := Lib.hid (HY.out.below hbawg8)
  replace I3 := Lib.hid (I3.out.below hbawg8)
  replace R4 := Lib.hid (R4.out.below hbawg8)
  replace I2 := Lib.hid (I2.out.below hbawg8)
  replace R2 := Lib.hid (R2.out.below hbawg8)
  replace bxc0 := (hbawg8.cell (p := ⟨bxp, 0, none⟩) bxl).trans bxc0
  replace bxc1 := (hbawg8.cell (p := ⟨bxp, 1, none⟩) bxl).trans bxc1
  replace bxl := Nat.lt_of_lt_of_le bxl hbawg8.size
  replace byc0 := (hbawg8.cell (p := ⟨byp, 0, none⟩) byl).trans byc0
  replace byc1 := (hbawg8.cell (p := ⟨byp, 1, none⟩) byl).trans byc1
  replace byl := Nat.lt_of_lt_of_le byl hbawg8.size
  replace b1c0 := (hbawg8.cell (p := ⟨b1p, 0, none⟩) b1l).trans b1c0
  replace b1c1 := (hbawg8.cell (p := ⟨b1p, 1, none⟩) b1l).trans b1c1
  replace b1l := Nat.lt_of_lt_of_le b1l hbawg8.size
  replace r1c0 := (hbawg8.cell (p := ⟨r1p, 0, none⟩) r1l).trans r1c0
  replace r1c1 := (hbawg8.cell (p := ⟨r1p, 1, none⟩) r1l).trans r1c1
  replace r1l := Nat.lt_of_lt_of_le r1l hbawg8.size
  replace b3c0 := (hbawg8.cell (p := ⟨b3p, 0, none⟩) b3l).trans b3c0
  replace b3c1 := (hbawg8.cell (p := ⟨b3p, 1, none⟩) b3l).trans b3c1
  replace b3l := Nat.lt_of_lt_of_le b3l hbawg8.size
  replace r4c0 := (hbawg8.cell (p := ⟨r4p, 0, none⟩) r4l).trans r4c0
  replace r4c1 := (hbawg8.cell (p := ⟨r4p, 1, none⟩) r4l).trans r4c1
  replace r4l := Nat.lt_of_lt_of_le r4l hbawg8.size
  replace HW := Lib.hid (HW.out.trans (hbawg8.mono HW.out.size))
  clear hbawg8
  clear bxc0 bxc1 bxl
  clear byc0 byc1 byl
  clear b1c0 b1c1 b1l
  clear r1c0 r1c1 r1l
  clear HX HY HXV HYV lx ly
  obtain ⟨P', c', hP, hQ⟩ := both_root s2 t2 a2 d2 m2 j2 k2 e2 z2 y2 Y wg8 I2.out R2.out (by omega) (by omega)
  have HPF := Lib.hid hP
  clear hP
  have HQF := Lib.hid hQ
  clear hQ
  clear I2 R2
  refine (HPF.out _ (.refl _ _)).mono ?_
  clear HPF
  rintro e wg9 ⟨s5, a5, m5, k5, z5, rfl, hI5, hm5, hbwg9⟩
  replace I3 := Lib.hid (I3.out.below hbwg9)
  replace R4 := Lib.hid (R4.out.below hbwg9)
  replace b3c0 := (hbwg9.cell (p := ⟨b3p, 0, none⟩) b3l).trans b3c0
  replace b3c1 := (hbwg9.cell (p := ⟨b3p, 1, none⟩) b3l).trans b3c1
  replace b3l := Nat.lt_of_lt_of_le b3l hbwg9.size
  replace r4c0 := (hbwg9.cell (p := ⟨r4p, 0, none⟩) r4l).trans r4c0
  replace r4c1 := (hbwg9.cell (p := ⟨r4p, 1, none⟩) r4l).trans r4c1
  replace r4l := Nat.lt_of_lt_of_le r4l hbwg9.size
  replace b2c0 := (hbwg9.cell (p := ⟨b2p, 0, none⟩) b2l).trans b2c0
  replace b2c1 := (hbwg9.cell (p := ⟨b2p, 1, none⟩) b2l).trans b2c1
  replace b2l := Nat.lt_of_lt_of_le b2l hbwg9.size
  replace r2c0 := (hbwg9.cell (p := ⟨r2p, 0, none⟩) r2l).trans r2c0
  replace r2c1 := (hbwg9.cell (p := ⟨r2p, 1, none⟩) r2l).trans r2c1
  replace r2l := Nat.lt_of_lt_of_le r2l hbwg9.size
  replace HW := Lib.hid (HW.out.trans (hbwg9.mono HW.out.size))
  replace HQF : Hid (∀ w', Below _ _ w' → _) := Lib.hid (fun w' hb' => HQF.out w' (hbwg9.trans (hb'.mono hbwg9.size)))
  have I5 := Lib.hid hI5
  clear hI5 hbwg9
  go_wp2_with fail
  obtain ⟨wg10, hwg10⟩ : ∃ wg10, wg10 = (wg9.alloc (.cells #[.bool s5, .slice a5 m5 k5] 28)) := ⟨_, rfl⟩
  have hbawg10 : Below wg9.heap.size wg9 wg10 := by rw [hwg10]; go_grown
  have hrb5 : wg10.heap[wg9.heap.size]? = some (.cells #[.bool s5, .slice a5 m5 k5] 28 (0, 0)) := by rw [hwg10]; exact heap_alloc_new wg9 _
  rw [← hwg10]
  clear hwg10
  obtain ⟨b5p, hb5p⟩ : ∃ p, p = wg9.heap.size := ⟨_, rfl⟩
  rw [← hb5p] at hrb5 ⊢
  obtain ⟨b5c0, b5c1, -, -⟩ := blk2 hrb5
  have b5l : b5p < wg10.heap.size := World.block_lt_of_cell? _ _ b5c0
  clear hb5p hrb5
  replace I3 := Lib.hid (I3.out.below hbawg10)
  replace R4 := Lib.hid (R4.out.below hbawg10)
  replace I5 := Lib.hid (I5.out.below hbawg10)
  replace b3c0 := (hbawg10.cell (p := ⟨b3p, 0, none⟩) b3l).trans b3c0
  replace b3c1 := (hbawg10.cell (p := ⟨b3p, 1, none⟩) b3l).trans b3c1
  replace b3l := Nat.lt_of_lt_of_le b3l hbawg10.size
  replace r4c0 := (hbawg10.cell (p := ⟨r4p, 0, none⟩) r4l).trans r4c0
  replace r4c1 := (hbawg10.cell (p := ⟨r4p, 1, none⟩) r4l).trans r4c1
  replace r4l := Nat.lt_of_lt_of_le r4l hbawg10.size
  replace b2c0 := (hbawg10.cell (p := ⟨b2p, 0, none⟩) b2l).trans b2c0
  replace b2c1 := (hbawg10.cell (p := ⟨b2p, 1, none⟩) b2l).trans b2c1
  replace b2l := Nat.lt_of_lt_of_le b2l hbawg10.size
  replace r2c0 := (hbawg10.cell (p := ⟨r2p, 0, none⟩) r2l).trans r2c0
  replace r2c1 := (hbawg10.cell (p := ⟨r2p, 1, none⟩) r2l).trans r2c1
  replace r2l := Nat.lt_of_lt_of_le r2l hbawg10.size
  replace HW := Lib.hid (HW.out.trans (hbawg10.mono HW.out.size))
  replace HQF : Hid (∀ w', Below _ _ w' → _) := Lib.hid (fun w' hb' => HQF.out w' (hbawg10.trans (hb'.mono hbawg10.size)))
  clear hbawg10
  refine (HQF.out _ (.refl _ _)).mono ?_
  clear HQF
  rintro e wg11 ⟨s6, a6, m6, k6, z6, rfl, hR6, hm6, hbwg11⟩
  replace I3 := Lib.hid (I3.out.below hbwg11)
  replace R4 := Lib.hid (R4.out.below hbwg11)
  replace I5 := Lib.hid (I5.out.below hbwg11)
  replace b3c0 := (hbwg11.cell (p := ⟨b3p, 0, none⟩) b3l).trans b3c0
  replace b3c1 := (hbwg11.cell (p := ⟨b3p, 1, none⟩) b3l).trans b3c1
  replace b3l := Nat.lt_of_lt_of_le b3l hbwg11.size
  replace r4c0 := (hbwg11.cell (p := ⟨r4p, 0, none⟩) r4l).trans r4c0
  replace r4c1 := (hbwg11.cell (p := ⟨r4p, 1, none⟩) r4l).trans r4c1
  replace r4l := Nat.lt_of_lt_of_le r4l hbwg11.size
  replace b2c0 := (hbwg11.cell (p := ⟨b2p, 0, none⟩) b2l).trans b2c0
  replace b2c1 := (hbwg11.cell (p := ⟨b2p, 1, none⟩) b2l).trans b2c1
  replace b2l := Nat.lt_of_lt_of_le b2l hbwg11.size
  replace r2c0 := (hbwg11.cell (p := ⟨r2p, 0, none⟩) r2l).trans r2c0
  replace r2c1 := (hbwg11.cell (p := ⟨r2p, 1, none⟩) r2l).trans r2c1
  replace r2l := Nat.lt_of_lt_of_le r2l hbwg11.size
  replace b5c0 := (hbwg11.cell (p := ⟨b5p, 0, none⟩) b5l).trans b5c0
  replace b5c1 := (hbwg11.cell (p := ⟨b5p, 1, none⟩) b5l).trans b5c1
  replace b5l := Nat.lt_of_lt_of_le b5l hbwg11.size
  replace HW := Lib.hid (HW.out.trans (hbwg11.mono HW.out.size))
  have R6 := Lib.hid hR6
  clear hR6 hbwg11
  go_wp2_with fail
  obtain ⟨wg12, hwg12⟩ : ∃ wg12, wg12 = (wg11.alloc (.cells #[.bool s6, .slice a6 m6 k6] 31)) := ⟨_, rfl⟩
  have hbawg12 : Below wg11.heap.size wg11 wg12 := by rw [hwg12]; go_grown
  have hrr6 : wg12.heap[wg11.heap.size]? = some (.cells #[.bool s6, .slice a6 m6 k6] 31 (0, 0)) := by rw [hwg12]; exact heap_alloc_new wg11 _
  rw [← hwg12]
  clear hwg12
  obtain ⟨r6p, hr6p⟩ : ∃ p, p = wg11.heap.size := ⟨_, rfl⟩
  rw [← hr6p] at hrr6 ⊢
  obtain ⟨r6c0, r6c1, -, -⟩ := blk2 hrr6
  have r6l : r6p < wg12.heap.size := World.block_lt_of_cell? _ _ r6c0
  clear hr6p hrr6
  replace I3 := Lib.hid (I3.out.below hbawg12)
  replace R4 := Lib.hid (R4.out.below hbawg12)
  replace I5 := Lib.hid (I5.out.below hbawg12)
  replace R6 := Lib.hid (R6.out.below hbawg12)
  replace b3c0 := (hbawg12.cell (p := ⟨b3p, 0, none⟩) b3l).trans b3c0
  replace b3c1 := (hbawg12.cell (p := ⟨b3p, 1, none⟩) b3l).trans b3c1
  replace b3l := Nat.lt_of_lt_of_le b3l hbawg12.size
  replace r4c0 := (hbawg12.cell (p := ⟨r4p, 0, none⟩) r4l).trans r4c0
  replace r4c1 := (hbawg12.cell (p := ⟨r4p, 1, none⟩) r4l).trans r4c1
  replace r4l := Nat.lt_of_lt_of_le r4l hbawg12.size
  replace b2c0 := (hbawg12.cell (p := ⟨b2p, 0, none⟩) b2l).trans b2c0
  replace b2c1 := (hbawg12.cell (p := ⟨b2p, 1, none⟩) b2l).trans b2c1
  replace b2l := Nat.lt_of_lt_of_le b2l hbawg12.size
  replace r2c0 := (hbawg12.cell (p := ⟨r2p, 0, none⟩) r2l).trans r2c0
  replace r2c1 := (hbawg12.cell (p := ⟨r2p, 1, none⟩) r2l).trans r2c1
  replace r2l := Nat.lt_of_lt_of_le r2l hbawg12.size
  replace b5c0 := (hbawg12.cell (p := ⟨b5p, 0, none⟩) b5l).trans b5c0
  replace b5c1 := (hbawg12.cell (p := ⟨b5p, 1, none⟩) b5l).trans b5c1
  replace b5l := Nat.lt_of_lt_of_le b5l hbawg12.size
  replace HW := Lib.hid (HW.out.trans (hbawg12.mono HW.out.size))
  clear hbawg12
  clear b2c0 b2c1 b2l
  clear r2c0 r2c1 r2l
  have hIS3 := is_any wg12 s3 s4 a3 a4 m3 m4 k3 k4 z3 z4 P P I3.out R4.out (by omega) (by omega)
  rw [decide_eq_true rfl] at hIS3
  refine hIS3.mono ?_
  clear hIS3
  rintro e wg13 ⟨rfl, hbwg13⟩
  replace I3 := Lib.hid (I3.out.below hbwg13)
  replace R4 := Lib.hid (R4.out.below hbwg13)
  replace I5 := Lib.hid (I5.out.below hbwg13)
  replace R6 := Lib.hid (R6.out.below hbwg13)
  replace b3c0 := (hbwg13.cell (p := ⟨b3p, 0, none⟩) b3l).trans b3c0
  replace b3c1 := (hbwg13.cell (p := ⟨b3p, 1, none⟩) b3l).trans b3c1
  replace b3l := Nat.lt_of_lt_of_le b3l hbwg13.size
  replace r4c0 := (hbwg13.cell (p := ⟨r4p, 0, none⟩) r4l).trans r4c0
  replace r4c1 := (hbwg13.cell (p := ⟨r4p, 1, none⟩) r4l).trans r4c1
  replace r4l := Nat.lt_of_lt_of_le r4l hbwg13.size
  replace b5c0 := (hbwg13.cell (p := ⟨b5p, 0, none⟩) b5l).trans b5c0
  replace b5c1 := (hbwg13.cell (p := ⟨b5p, 1, none⟩) b5l).trans b5c1
  replace b5l := Nat.lt_of_lt_of_le b5l hbwg13.size
  replace r6c0 := (hbwg13.cell (p := ⟨r6p, 0, none⟩) r6l).trans r6c0
  replace r6c1 := (hbwg13.cell (p := ⟨r6p, 1, none⟩) r6l).trans r6c1
  replace r6l := Nat.lt_of_lt_of_le r6l hbwg13.size
  replace HW := Lib.hid (HW.out.trans (hbwg13.mono HW.out.size))
  clear hbwg13
  go_wp2_with fail
  have hIS5 := is_any wg13 s5 s6 a5 a6 m5 m6 k5 k6 z5 z6 P' P' I5.out R6.out (by omega) (by omega)
  rw [decide_eq_true rfl] at hIS5
  refine hIS5.mono ?_
  clear hIS5
  rintro e wg14 ⟨rfl, hbwg14⟩
  replace I3 := Lib.hid (I3.out.below hbwg14)
  replace R4 := Lib.hid (R4.out.below hbwg14)
  replace I5 := Lib.hid (I5.out.below hbwg14)
  replace R6 := Lib.hid (R6.out.below hbwg14)
  replace b3c0 := (hbwg14.cell (p := ⟨b3p, 0, none⟩) b3l).trans b3c0
  replace b3c1 := (hbwg14.cell (p := ⟨b3p, 1, none⟩) b3l).trans b3c1
  replace b3l := Nat.lt_of_lt_of_le b3l hbwg14.size
  replace r4c0 := (hbwg14.cell (p := ⟨r4p, 0, none⟩) r4l).trans r4c0
  replace r4c1 := (hbwg14.cell (p := ⟨r4p, 1, none⟩) r4l).trans r4c1
  replace r4l := Nat.lt_of_lt_of_le r4l hbwg14.size
  replace b5c0 := (hbwg14.cell (p := ⟨b5p, 0, none⟩) b5l).trans b5c0
  replace b5c1 := (hbwg14.cell (p := ⟨b5p, 1, none⟩) b5l).trans b5c1
  replace b5l := Nat.lt_of_lt_of_le b5l hbwg14.size
  replace r6c0 := (hbwg14.cell (p := ⟨r6p, 0, none⟩) r6l).trans r6c0
  replace r6c1 := (hbwg14.cell (p := ⟨r6p, 1, none⟩) r6l).trans r6c1
  replace r6l := Nat.lt_of_lt_of_le r6l hbwg14.size
  replace HW := Lib.hid (HW.out.trans (hbwg14.mono HW.out.size))
  clear hbwg14
  go_wp2_with fail
  refine (awake_any _).mono ?_
  rintro e we ⟨rfl, hbe⟩
  go_wp2_with fail
  go_ret
  exact ⟨rfl, HW.out.trans (hbe.mono HW.out.size)⟩

set_option maxRecDepth 100000 in
set_option maxHeartbeats 4000000 in
theorem powers_A (w : World) (n : Int) (nx ny : Bool) (ax ay : Option Addr) (n1 c1 n2 c2 : Nat) (zx zy : List Int) (hx : Sl w ax n1 c1 zx) (lx : Lim zx) (hy : Sl w ay n2 c2 zy) (ly : Lim zy) (h1 : n1 ≤ 2) (h2 : n2 ≤ 8) (hlo : -9223372036854775808 ≤ n) (hhi : n ≤ 9223372036854775807) (hn : 40 < n) (hs : 1 < (sgn nx (val zx)).natAbs) :
    Calls Try.prog 5 #[.agg #[.bool nx, .slice ax n1 c1], .int .i64 n, .agg #[.bool ny, .slice ay n2 c2]] w (RetV w (.bool true)) := by
  have HX := Lib.hid hx
  have HY := Lib.hid hy
  obtain ⟨X, hX⟩ : ∃ X, sgn nx (val zx) = X := ⟨_, rfl⟩
  obtain ⟨Y, hY⟩ : ∃ Y, sgn ny (val zy) = Y := ⟨_, rfl⟩
  have HXV := Lib.hid hX
  have HYV := Lib.hid hY
  have HY8 : Hid (decide (n2 ≤ 8) = true) := Lib.hid (decide_eq_true h2)
  have HX2 : Hid (decide (n1 ≤ 2) = true) := Lib.hid (decide_eq_true h1)
  have HHI := Lib.hid hhi
  obtain ⟨L, hL⟩ : ∃ L, blen (cpl (X.natAbs : Int)).toNat = L := ⟨_, rfl⟩
  have HL := Lib.hid hL
  have hLs : (1 : Int) < (L : Int) := by rw [hX] at hs; have := blen_abs (X := X); rw [hL] at this; omega
  have HCASE : Hid ((40 : Int) < 0 ∨ X.natAbs ≤ 1 ∨ (40 : Int) ≤ 40) := Lib.hid (.inr (.inr (by omega)))
  clear hs hL
  clear hx hy hX hY hlo hhi
  go_enter Try.func5, Try.ntmps5
  go_upto_region 1 with (fail)
  obtain ⟨W, hW⟩ : ∃ W, W = (w.alloc (.cells #[.bool nx, .slice ax n1 c1] 24)).alloc (.cells #[.bool ny, .slice ay n2 c2] 24) := ⟨_, rfl⟩
  have hbW : Below w.heap.size w W := by rw [hW]; go_grown
  have hsW : w.heap.size + 1 + 1 ≤ W.heap.size := by rw [hW]; go_size
  have rx : W.heap[w.heap.size]? = some (.cells #[.bool nx, .slice ax n1 c1] 24 (0, 0)) := by rw [hW]; exact (heap_alloc2 w _ _).2
  have ry : W.heap[w.heap.size + 1]? = some (.cells #[.bool ny, .slice ay n2 c2] 24 (0, 0)) := by rw [hW]; exact (heap_alloc2 w _ _).1
  rw [← hW]
  clear hW
  obtain ⟨y0, y1, -, -⟩ := blk2 ry
  go_wp2_with fail
  refine (short_one _ _ ⟨ny, ay, n2, c2⟩ 8 (heap_alloc_new _ _)).mono ?_
  rintro e w1 ⟨rfl, hb1⟩
  rw [show decide (Num.n ⟨ny, ay, n2, c2⟩ ≤ 8) = true from HY8.out]
  have hb2 : Below W.heap.size W w1 := Below.trans (by go_grown) (hb1.mono (by go_size))
  clear hb1 y0 y1
  have sx := (hb2.block w.heap.size (by omega)).trans rx
  have sy := (hb2.block (w.heap.size + 1) (by omega)).trans ry
  have hz1 : w.heap.size + 1 + 1 ≤ w1.heap.size := Nat.le_trans hsW hb2.size
  obtain ⟨x0, x1, -, -⟩ := blk2 sx
  go_wp2_with fail
  refine (short_one _ _ ⟨nx, ax, n1, c1⟩ 2 (heap_alloc_new _ _)).mono ?_
  rintro e w2 ⟨rfl, hb1⟩
  rw [show decide (Num.n ⟨nx, ax, n1, c1⟩ ≤ 2) = true from HX2.out]
  have hb3 : Below w1.heap.size w1 w2 := Below.trans (by go_grown) (hb1.mono (by go_size))
  clear hb1 x0 x1
  have HW := Lib.hid ((hbW.trans (hb2.mono hbW.size)).trans (hb3.mono (Nat.le_trans hbW.size hb2.size)))
  have rx1 := (hb3.block w.heap.size (by omega)).trans sx
  have ry1 := (hb3.block (w.heap.size + 1) (by omega)).trans sy
  obtain ⟨bxp, hbxp⟩ : ∃ p, p = w.heap.size := ⟨_, rfl⟩
  obtain ⟨byp, hbyp⟩ : ∃ p, p = w.heap.size + 1 := ⟨_, rfl⟩
  rw [← hbyp] at ry1 ⊢
  rw [← hbxp] at rx1 ⊢
  obtain ⟨bxc0, bxc1, -, -⟩ := blk2 rx1
  obtain ⟨byc0, byc1, -, -⟩ := blk2 ry1
  have bxl : bxp < w2.heap.size := World.block_lt_of_cell? _ _ bxc0
  have byl : byp < w2.heap.size := World.block_lt_of_cell? _ _ byc0
  replace HX := Lib.hid (HX.out.below HW.out)
  replace HY := Lib.hid (HY.out.below HW.out)
  clear rx ry sx sy rx1 ry1 hbxp hbyp hbW hsW hb2 hb3 hz1
  go_wp2_with fail
  refine (of_any _ nx ax n1 c1 zx HX.out lx (by omega)).mono ?_
  rintro e wg1 ⟨s1, a1, m1, k1, z1, t1, d1, j1, e1, y1, rfl, hI1, hm1, hR1, hj1, hbwg1⟩
  rw [HXV.out] at hI1 hR1
  replace HX := Lib.hid (HX.out.below hbwg1)
  replace HY := Lib.hid (HY.out.below hbwg1)
  replace bxc0 := (hbwg1.cell (p := ⟨bxp, 0, none⟩) bxl).trans bxc0
  replace bxc1 := (hbwg1.cell (p := ⟨bxp, 1, none⟩) bxl).trans bxc1
  replace bxl := Nat.lt_of_lt_of_le bxl hbwg1.size
  replace byc0 := (hbwg1.cell (p := ⟨byp, 0, none⟩) byl).trans byc0
  replace byc1 := (hbwg1.cell (p := ⟨byp, 1, none⟩) byl).trans byc1
  replace byl := Nat.lt_of_lt_of_le byl hbwg1.size
  replace HW := Lib.hid (HW.out.trans (hbwg1.mono HW.out.size))
  have I1 := Lib.hid hI1
  clear hI1
  have R1 := Lib.hid hR1
  clear hR1
  clear hbwg1
  go_wp2_with fail
  obtain ⟨wg2, hwg2⟩ : ∃ wg2, wg2 = ((wg1.alloc (.cells #[.bool s1, .slice a1 m1 k1] 28)).alloc (.cells #[.bool t1, .slice d1 j1 e1] 31)) := ⟨_, rfl⟩
  have hbawg2 : Below wg1.heap.size wg1 wg2 := by rw [hwg2]; go_grown
  have hrb1 : wg2.heap[wg1.heap.size]? = some (.cells #[.bool s1, .slice a1 m1 k1] 28 (0, 0)) := by rw [hwg2]; exact (heap_alloc2 wg1 _ _).2
  have hrr1 : wg2.heap[wg1.heap.size + 1]? = some (.cells #[.bool t1, .slice d1 j1 e1] 31 (0, 0)) := by rw [hwg2]; exact (heap_alloc2 wg1 _ _).1
  rw [← hwg2]
  clear hwg2
  obtain ⟨b1p, hb1p⟩ : ∃ p, p = wg1.heap.size := ⟨_, rfl⟩
  obtain ⟨r1p, hr1p⟩ : ∃ p, p = wg1.heap.size + 1 := ⟨_, rfl⟩
  rw [← hr1p] at hrr1 ⊢
  rw [← hb1p] at hrb1 ⊢
  obtain ⟨b1c0, b1c1, -, -⟩ := blk2 hrb1
  have b1l : b1p < wg2.heap.size := World.block_lt_of_cell? _ _ b1c0
  clear hb1p hrb1
  obtain ⟨r1c0, r1c1, -, -⟩ := blk2 hrr1
  have r1l : r1p < wg2.heap.size := World.block_lt_of_cell? _ _ r1c0
  clear hr1p hrr1
  replace HX := Lib.hid (HX.out.below hbawg2)
  replace HY := Lib.hid (HY.out.below hbawg2)
  replace I1 := Lib.hid (I1.out.below hbawg2)
  replace R1 := Lib.hid (R1.out.below hbawg2)
  replace bxc0 := (hbawg2.cell (p := ⟨bxp, 0, none⟩) bxl).trans bxc0
  replace bxc1 := (hbawg2.cell (p := ⟨bxp, 1, none⟩) bxl).trans bxc1
  replace bxl := Nat.lt_of_lt_of_le bxl hbawg2.size
  replace byc0 := (hbawg2.cell (p := ⟨byp, 0, none⟩) byl).trans byc0
  replace byc1 := (hbawg2.cell (p := ⟨byp, 1, none⟩) byl).trans byc1
  replace byl := Nat.lt_of_lt_of_le byl hbawg2.size
  replace HW := Lib.hid (HW.out.trans (hbawg2.mono HW.out.size))
  clear hbawg2
  refine (rabs_any _ t1 d1 j1 e1 y1 X R1.out).mono ?_
  rintro e wg3 ⟨tA, dA, jA, eA, yA, rfl, hRA, hjA, hbwg3⟩
  replace HX := Lib.hid (HX.out.below hbwg3)
  replace HY := Lib.hid (HY.out.below hbwg3)
  replace I1 := Lib.hid (I1.out.below hbwg3)
  replace R1 := Lib.hid (R1.out.below hbwg3)
  replace bxc0 := (hbwg3.cell (p := ⟨bxp, 0, none⟩) bxl).trans bxc0
  replace bxc1 := (hbwg3.cell (p := ⟨bxp, 1, none⟩) bxl).trans bxc1
  replace bxl := Nat.lt_of_lt_of_le bxl hbwg3.size
  replace byc0 := (hbwg3.cell (p := ⟨byp, 0, none⟩) byl).trans byc0
  replace byc1 := (hbwg3.cell (p := ⟨byp, 1, none⟩) byl).trans byc1
  replace byl := Nat.lt_of_lt_of_le byl hbwg3.size
  replace b1c0 := (hbwg3.cell (p := ⟨b1p, 0, none⟩) b1l).trans b1c0
  replace b1c1 := (hbwg3.cell (p := ⟨b1p, 1, none⟩) b1l).trans b1c1
  replace b1l := Nat.lt_of_lt_of_le b1l hbwg3.size
  replace r1c0 := (hbwg3.cell (p := ⟨r1p, 0, none⟩) r1l).trans r1c0
  replace r1c1 := (hbwg3.cell (p := ⟨r1p, 1, none⟩) r1l).trans r1c1
  replace r1l := Nat.lt_of_lt_of_le r1l hbwg3.size
  replace HW := Lib.hid (HW.out.trans (hbwg3.mono HW.out.size))
  have RA := Lib.hid hRA
  clear hRA
  clear hbwg3
  go_wp2_with fail
  refine (rlen_is _ tA dA jA eA yA _ L RA.out (by omega) HL.out).mono ?_
  rintro e wg4 ⟨rfl, hbwg4⟩
  replace HX := Lib.hid (HX.out.below hbwg4)
  replace HY := Lib.hid (HY.out.below hbwg4)
  replace I1 := Lib.hid (I1.out.below hbwg4)
  replace R1 := Lib.hid (R1.out.below hbwg4)
  replace RA := Lib.hid (RA.out.below hbwg4)
  replace bxc0 := (hbwg4.cell (p := ⟨bxp, 0, none⟩) bxl).trans bxc0
  replace bxc1 := (hbwg4.cell (p := ⟨bxp, 1, none⟩) bxl).trans bxc1
  replace bxl := Nat.lt_of_lt_of_le bxl hbwg4.size
  replace byc0 := (hbwg4.cell (p := ⟨byp, 0, none⟩) byl).trans byc0
  replace byc1 := (hbwg4.cell (p := ⟨byp, 1, none⟩) byl).trans byc1
  replace byl := Nat.lt_of_lt_of_le byl hbwg4.size
  replace b1c0 := (hbwg4.cell (p := ⟨b1p, 0, none⟩) b1l).trans b1c0
  replace b1c1 := (hbwg4.cell (p := ⟨b1p, 1, none⟩) b1l).trans b1c1
  replace b1l := Nat.lt_of_lt_of_le b1l hbwg4.size
  replace r1c0 := (hbwg4.cell (p := ⟨r1p, 0, none⟩) r1l).trans r1c0
  replace r1c1 := (hbwg4.cell (p := ⟨r1p, 1, none⟩) r1l).trans r1c1
  replace r1l := Nat.lt_of_lt_of_le r1l hbwg4.size
  replace HW := Lib.hid (HW.out.trans (hbwg4.mono HW.out.size))
  clear hbwg4 RA
  go_wp2_with fail
  obtain ⟨P, c, hP, hQ⟩ := both_power (40 : Int) s1 t1 a1 d1 m1 j1 k1 e1 z1 y1 X wg4 I1.out R1.out (by omega) (by omega) HCASE.out (by omega)
  have HP := Lib.hid hP
  clear hP
  have HQ := Lib.hid hQ
  clear hQ
  clear I1 R1 HHI HCASE
  refine (HP.out _ (.refl _ _)).mono ?_
  clear HP
  rintro e wg5 ⟨s3, a3, m3, k3, z3, rfl, hI3, hm3, hbwg5⟩
  replace HX := Lib.hid (HX.out.below hbwg5)
  replace HY := Lib.hid (HY.out.below hbwg5)
  replace bxc0 := (hbwg5.cell (p := ⟨bxp, 0, none⟩) bxl).trans bxc0
  replace bxc1 := (hbwg5.cell (p := ⟨bxp, 1, none⟩) bxl).trans bxc1
  replace bxl := Nat.lt_of_lt_of_le bxl hbwg5.size
  replace byc0 := (hbwg5.cell (p := ⟨byp, 0, none⟩) byl).trans byc0
  replace byc1 := (hbwg5.cell (p := ⟨byp, 1, none⟩) byl).trans byc1
  replace byl := Nat.lt_of_lt_of_le byl hbwg5.size
  replace b1c0 := (hbwg5.cell (p := ⟨b1p, 0, none⟩) b1l).trans b1c0
  replace b1c1 := (hbwg5.cell (p := ⟨b1p, 1, none⟩) b1l).trans b1c1
  replace b1l := Nat.lt_of_lt_of_le b1l hbwg5.size
  replace r1c0 := (hbwg5.cell (p := ⟨r1p, 0, none⟩) r1l).trans r1c0
  replace r1c1 := (hbwg5.cell (p := ⟨r1p, 1, none⟩) r1l).trans r1c1
  replace r1l := Nat.lt_of_lt_of_le r1l hbwg5.size
  replace HW := Lib.hid (HW.out.trans (hbwg5.mono HW.out.size))
  replace HQ : Hid (∀ w', Below _ _ w' → _) := Lib.hid (fun w' hb' => HQ.out w' (hbwg5.trans (hb'.mono hbwg5.size)))
  have I3 := Lib.hid hI3
  clear hI3 hbwg5
  go_wp2_with fail
  obtain ⟨wg6, hwg6⟩ : ∃ wg6, wg6 = (wg5.alloc (.cells #[.bool s3, .slice a3 m3 k3] 28)) := ⟨_, rfl⟩
  have hbawg6 : Below wg5.heap.size wg5 wg6 := by rw [hwg6]; go_grown
  have hrb3 : wg6.heap[wg5.heap.size]? = some (.cells #[.bool s3, .slice a3 m3 k3] 28 (0, 0)) := by rw [hwg6]; exact heap_alloc_new wg5 _
  rw [← hwg6]
  clear hwg6
  obtain ⟨b3p, hb3p⟩ : ∃ p, p = wg5.heap.size := ⟨_, rfl⟩
  rw [← hb3p] at hrb3 ⊢
  obtain ⟨b3c0, b3c1, -, -⟩ := blk2 hrb3
  have b3l : b3p < wg6.heap.size := World.block_lt_of_cell? _ _ b3c0
  clear hb3p hrb3
  replace HX := Lib.hid (HX.out.below hbawg6)
  replace HY := Lib.hid (HY.out.below hbawg6)
  replace I3 := Lib.hid (I3.out.below hbawg6)
  replace bxc0 := (hbawg6.cell (p := ⟨bxp, 0, none⟩) bxl).trans bxc0
  replace bxc1 := (hbawg6.cell (p := ⟨bxp, 1, none⟩) bxl).trans bxc1
  replace bxl := Nat.lt_of_lt_of_le bxl hbawg6.size
  replace byc0 := (hbawg6.cell (p := ⟨byp, 0, none⟩) byl).trans byc0
  replace byc1 := (hbawg6.cell (p := ⟨byp, 1, none⟩) byl).trans byc1
  replace byl := Nat.lt_of_lt_of_le byl hbawg6.size
  replace b1c0 := (hbawg6.cell (p := ⟨b1p, 0, none⟩) b1l).trans b1c0
  replace b1c1 := (hbawg6.cell (p := ⟨b1p, 1, none⟩) b1l).trans b1c1
  replace b1l := Nat.lt_of_lt_of_le b1l hbawg6.size
  replace r1c0 := (hbawg6.cell (p := ⟨r1p, 0, none⟩) r1l).trans r1c0
  replace r1c1 := (hbawg6.cell (p := ⟨r1p, 1, none⟩) r1l).trans r1c1
  replace r1l := Nat.lt_of_lt_of_le r1l hbawg6.size
  replace HW := Lib.hid (HW.out.trans (hbawg6.mono HW.out.size))
  replace HQ : Hid (∀ w', Below _ _ w' → _) := Lib.hid (fun w' hb' => HQ.out w' (hbawg6.trans (hb'.mono hbawg6.size)))
  clear hbawg6
  refine (HQ.out _ (.refl _ _)).mono ?_
  clear HQ
  rintro e wg7 ⟨s4, a4, m4, k4, z4, rfl, hR4, hm4, hbwg7⟩
  replace HX := Lib.hid (HX.out.below hbwg7)
  replace HY := Lib.hid (HY.out.below hbwg7)
  replace I3 := Lib.hid (I3.out.below hbwg7)
  replace bxc0 := (hbwg7.cell (p := ⟨bxp, 0, none⟩) bxl).trans bxc0
  replace bxc1 := (hbwg7.cell (p := ⟨bxp, 1, none⟩) bxl).trans bxc1
  replace bxl := Nat.lt_of_lt_of_le bxl hbwg7.size
  replace byc0 := (hbwg7.cell (p := ⟨byp, 0, none⟩) byl).trans byc0
  replace byc1 := (hbwg7.cell (p := ⟨byp, 1, none⟩) byl).trans byc1
  replace byl := Nat.lt_of_lt_of_le byl hbwg7.size
  replace b1c0 := (hbwg7.cell (p := ⟨b1p, 0, none⟩) b1l).trans b1c0
  replace b1c1 := (hbwg7.cell (p := ⟨b1p, 1, none⟩) b1l).trans b1c1
  replace b1l := Nat.lt_of_lt_of_le b1l hbwg7.size
  replace r1c0 := (hbwg7.cell (p := ⟨r1p, 0, none⟩) r1l).trans r1c0
  replace r1c1 := (hbwg7.cell (p := ⟨r1p, 1, none⟩) r1l).trans r1c1
  replace r1l := Nat.lt_of_lt_of_le r1l hbwg7.size
  replace b3c0 := (hbwg7.cell (p := ⟨b3p, 0, none⟩) b3l).trans b3c0
  replace b3c1 := (hbwg7.cell (p := ⟨b3p, 1, none⟩) b3l).trans b3c1
  replace b3l := Nat.lt_of_lt_of_le b3l hbwg7.size
  replace HW := Lib.hid (HW.out.trans (hbwg7.mono HW.out.size))
  have R4 := Lib.hid hR4
  clear hR4 hbwg7
  go_wp2_with fail
  obtain ⟨wg8, hwg8⟩ : ∃ wg8, wg8 = (wg7.alloc (.cells #[.bool s4, .slice a4 m4 k4] 31)) := ⟨_, rfl⟩
  have hbawg8 : Below wg7.heap.size wg7 wg8 := by rw [hwg8]; go_grown
  have hrr4 : wg8.heap[wg7.heap.size]? = some (.cells #[.bool s4, .slice a4 m4 k4] 31 (0, 0)) := by rw [hwg8]; exact heap_alloc_new wg7 _
  rw [← hwg8]
  clear hwg8
  obtain ⟨r4p, hr4p⟩ : ∃ p, p = wg7.heap.size := ⟨_, rfl⟩
  rw [← hr4p] at hrr4 ⊢
  obtain ⟨r4c0, r4c1, -, -⟩ := blk2 hrr4
  have r4l : r4p < wg8.heap.size := World.block_lt_of_cell? _ _ r4c0
  clear hr4p hrr4
  replace HX := Lib.hid (HX.out.below hbawg8)
  replace HY := Lib.hid (HY.out.below hbawg8)
  replace I3 := Lib.hid (I3.out.below hbawg8)
  replace R4 := Lib.hid (R4.out.below hbawg8)
  replace bxc0 := (hbawg8.cell (p := ⟨bxp, 0, none⟩) bxl).trans bxc0
  replace bxc1 := (hbawg8.cell (p := ⟨bxp, 1, none⟩) bxl).trans bxc1
  replace bxl := Nat.lt_of_lt_of_le bxl hbawg8.size
  replace byc0 := (hbawg8.cell (p := ⟨byp, 0, none⟩) byl).trans byc0
  replace byc1 := (hbawg8.cell (p := ⟨byp, 1, none⟩) byl).trans byc1
  replace byl := Nat.lt_of_lt_of_le byl hbawg8.size
  replace b1c0 := (hbawg8.cell (p := ⟨b1p, 0, none⟩) b1l).trans b1c0
  replace b1c1 := (hbawg8.cell (p := ⟨b1p, 1, none⟩) b1l).trans b1c1
  replace b1l := Nat.lt_of_lt_of_le b1l hbawg8.size
  replace r1c0 := (hbawg8.cell (p := ⟨r1p, 0, none⟩) r1l).trans r1c0
  replace r1c1 := (hbawg8.cell (p := ⟨r1p, 1, none⟩) r1l).trans r1c1
  replace r1l := Nat.lt_of_lt_of_le r1l hbawg8.size
  replace b3c0 := (hbawg8.cell (p := ⟨b3p, 0, none⟩) b3l).trans b3c0
  replace b3c1 := (hbawg8.cell (p := ⟨b3p, 1, none⟩) b3l).trans b3c1
  replace b3l := Nat.lt_of_lt_of_le b3l hbawg8.size
  replace HW := Lib.hid (HW.out.trans (hbawg8.mono HW.out.size))
  clear hbawg8
  refine (of_any _ ny ay n2 c2 zy HY.out ly (by omega)).mono ?_
  rintro e wg9 ⟨s2, a2, m2, k2, z2, t2, d2, j2, e2, y2, rfl, hI2, hm2, hR2, hj2, hbwg9⟩
  rw [HYV.out] at hI2 hR2
  replace HX := Lib.hid (HX.out.below hbwg9)
  replace HY := Lib.hid (HY.out.below hbwg9)
  replace I3 := Lib.hid (I3.out.below hbwg9)
  replace R4 := Lib.hid (R4.out.below hbwg9)
  replace bxc0 := (hbwg9.cell (p := ⟨bxp, 0, none⟩) bxl).trans bxc0
  replace bxc1 := (hbwg9.cell (p := ⟨bxp, 1, none⟩) bxl).trans bxc1
  replace bxl := Nat.lt_of_lt_of_le bxl hbwg9.size
  replace byc0 := (hbwg9.cell (p := ⟨byp, 0, none⟩) byl).trans byc0
  replace byc1 := (hbwg9.cell (p := ⟨byp, 1, none⟩) byl).trans byc1
  replace byl := Nat.lt_of_lt_of_le byl hbwg9.size
  replace b1c0 := (hbwg9.cell (p := ⟨b1p, 0, none⟩) b1l).trans b1c0
  replace b1c1 := (hbwg9.cell (p := ⟨b1p, 1, none⟩) b1l).trans b1c1
  replace b1l := Nat.lt_of_lt_of_le b1l hbwg9.size
  replace r1c0 := (hbwg9.cell (p := ⟨r1p, 0, none⟩) r1l).trans r1c0
  replace r1c1 := (hbwg9.cell (p := ⟨r1p, 1, none⟩) r1l).trans r1c1
  replace r1l := Nat.lt_of_lt_of_le r1l hbwg9.size
  replace b3c0 := (hbwg9.cell (p := ⟨b3p, 0, none⟩) b3l).trans b3c0
  replace b3c1 := (hbwg9.cell (p := ⟨b3p, 1, none⟩) b3l).trans b3c1
  replace b3l := Nat.lt_of_lt_of_le b3l hbwg9.size
  replace r4c0 := (hbwg9.cell (p := ⟨r4p, 0, none⟩) r4l).trans r4c0
  replace r4c1 := (hbwg9.cell (p := ⟨r4p, 1, none⟩) r4l).trans r4c1
  replace r4l := Nat.lt_of_lt_of_le r4l hbwg9.size
  replace HW := Lib.hid (HW.out.trans (hbwg9.mono HW.out.size))
  have I2 := Lib.hid hI2
  clear hI2
  have R2 := Lib.hid hR2
  clear hR2
  clear hbwg9
  go_wp2_with fail
  obtain ⟨wg10, hwg10⟩ : ∃ wg10, wg10 = ((wg9.alloc (.cells #[.bool s2, .slice a2 m2 k2] 28)).alloc (.cells #[.bool t2, .slice d2 j2 e2] 31)) := ⟨_, rfl⟩
  have hbawg10 : Below wg9.heap.size wg9 wg10 := by rw [hwg10]; go_grown
  have hrb2 : wg10.heap[wg9.heap.size]? = some (.cells #[.bool s2, .slice a2 m2 k2] 28 (0, 0)) := by rw [hwg10]; exact (heap_alloc2 wg9 _ _).2
  have hrr2 : wg10.heap[wg9.heap.size + 1]? = some (.cells #[.bool t2, .slice d2 j2 e2] 31 (0, 0)) := by rw [hwg10]; exact (heap_alloc2 wg9 _ _).1
  rw [← hwg10]
  clear hwg10
  obtain ⟨b2p, hb2p⟩ : ∃ p, p = wg9.heap.size := ⟨_, rfl⟩
  obtain ⟨r2p, hr2p⟩ : ∃ p, p = wg9.heap.size + 1 := ⟨_, rfl⟩
  rw [← hr2p] at hrr2 ⊢
  rw [← hb2p] at hrb2 ⊢
  obtain ⟨b2c0, b2c1, -, -⟩ := blk2 hrb2
  have b2l : b2p < wg10.heap.size := World.block_lt_of_cell? _ _ b2c0
  clear hb2p hrb2
  obtain ⟨r2c0, r2c1, -, -⟩ := blk2 hrr2
  have r2l : r2p < wg10.heap.size := World.block_lt_of_cell? _ _ r2c0
  clear hr2p hrr2
  replace HX := Lib.hid (HX.out.below hbawg10)
  replace HY := Lib.hid (HY.out.below hbawg10)
  replace I3 := Lib.hid (I3.out.below hbawg10)
  replace R4 := Lib.hid (R4.out.below hbawg10)
  replace I2 := Lib.hid (I2.out.below hbawg10)
  replace R2 := Lib.hid (R2.out.below hbawg10)
  replace bxc0 := (hbawg10.cell (p := ⟨bxp, 0, none⟩) bxl).trans bxc0
  replace bxc1 := (hbawg10.cell (p := ⟨bxp, 1, none⟩) bxl).trans bxc1
  replace bxl := Nat.lt_of_lt_of_le bxl hbawg10.size
  replace byc0 := (hbawg10.cell (p := ⟨byp, 0, none⟩) byl).trans byc0
  replace byc1 := (hbawg10.cell (p := ⟨byp, 1, none⟩) byl).trans byc1
  replace byl := Nat.lt_of_lt_of_le byl hbawg10.size
  replace b1c0 := (hbawg10.cell (p := ⟨b1p, 0, none⟩) b1l).trans b1c0
  replace b1c1 := (hbawg10.cell (p := ⟨b1p, 1, none⟩) b1l).trans b1c1
  replace b1l := Nat.lt_of_lt_of_le b1l hbawg10.size
  replace r1c0 := (hbawg10.cell (p := ⟨r1p, 0, none⟩) r1l).trans r1c0
  replace r1c1 := (hbawg10.cell (p := ⟨r1p, 1, none⟩) r1l).trans r1c1
  replace r1l := Nat.lt_of_lt_of_le r1l hbawg10.size
  replace b3c0 := (hbawg10.cell (p := ⟨b3p, 0, none⟩) b3l).trans b3c0
  replace b3c1 := (hbawg10.cell (p := ⟨b3p, 1, none⟩) b3l).trans b3c1
  replace b3l := Nat.lt_of_lt_of_le b3l hbawg10.size
  replace r4c0 := (hbawg10.cell (p := ⟨r4p, 0, none⟩) r4l).trans r4c0
  replace r4c1 := (hbawg10.cell (p := ⟨r4p, 1, none⟩) r4l).trans r4c1
  replace r4l := Nat.lt_of_lt_of_le r4l hbawg10.size
  replace HW := Lib.hid (HW.out.trans (hbawg10.mono HW.out.size))
  clear hbawg10
  clear bxc0 bxc1 bxl
  clear byc0 byc1 byl
  clear b1c0 b1c1 b1l
  clear r1c0 r1c1 r1l
  clear HX HY HXV HYV lx ly
  obtain ⟨P', c', hP, hQ⟩ := both_root s2 t2 a2 d2 m2 j2 k2 e2 z2 y2 Y wg10 I2.out R2.out (by omega) (by omega)
  have HPF := Lib.hid hP
  clear hP
  have HQF := Lib.hid hQ
  clear hQ
  clear I2 R2
  refine (HPF.out _ (.refl _ _)).mono ?_
  clear HPF
  rintro e wg11 ⟨s5, a5, m5, k5, z5, rfl, hI5, hm5, hbwg11⟩
  replace I3 := Lib.hid (I3.out.below hbwg11)
  replace R4 := Lib.hid (R4.out.below hbwg11)
  replace b3c0 := (hbwg11.cell (p := ⟨b3p, 0, none⟩) b3l).trans b3c0
  replace b3c1 := (hbwg11.cell (p := ⟨b3p, 1, none⟩) b3l).trans b3c1
  replace b3l := Nat.lt_of_lt_of_le b3l hbwg11.size
  replace r4c0 := (hbwg11.cell (p := ⟨r4p, 0, none⟩) r4l).trans r4c0
  replace r4c1 := (hbwg11.cell (p := ⟨r4p, 1, none⟩) r4l).trans r4c1
  replace r4l := Nat.lt_of_lt_of_le r4l hbwg11.size
  replace b2c0 := (hbwg11.cell (p := ⟨b2p, 0, none⟩) b2l).trans b2c0
  replace b2c1 := (hbwg11.cell (p := ⟨b2p, 1, none⟩) b2l).trans b2c1
  replace b2l := Nat.lt_of_lt_of_le b2l hbwg11.size
  replace r2c0 := (hbwg11.cell (p := ⟨r2p, 0, none⟩) r2l).trans r2c0
  replace r2c1 := (hbwg11.cell (p := ⟨r2p, 1, none⟩) r2l).trans r2c1
  replace r2l := Nat.lt_of_lt_of_le r2l hbwg11.size
  replace HW := Lib.hid (HW.out.trans (hbwg11.mono HW.out.size))
  replace HQF : Hid (∀ w', Below _ _ w' → _) := Lib.hid (fun w' hb' => HQF.out w' (hbwg11.trans (hb'.mono hbwg11.size)))
  have I5 := Lib.hid hI5
  clear hI5 hbwg11
  go_wp2_with fail
  obtain ⟨wg12, hwg12⟩ : ∃ wg12, wg12 = (wg11.alloc (.cells #[.bool s5, .slice a5 m5 k5] 28)) := ⟨_, rfl⟩
  have hbawg12 : Below wg11.heap.size wg11 wg12 := by rw [hwg12]; go_grown
  have hrb5 : wg12.heap[wg11.heap.size]? = some (.cells #[.bool s5, .slice a5 m5 k5] 28 (0, 0)) := by rw [hwg12]; exact heap_alloc_new wg11 _
  rw [← hwg12]
  clear hwg12
  obtain ⟨b5p, hb5p⟩ : ∃ p, p = wg11.heap.size := ⟨_, rfl⟩
  rw [← hb5p] at hrb5 ⊢
  obtain ⟨b5c0, b5c1, -, -⟩ := blk2 hrb5
  have b5l : b5p < wg12.heap.size := World.block_lt_of_cell? _ _ b5c0
  clear hb5p hrb5
  replace I3 := Lib.hid (I3.out.below hbawg12)
  replace R4 := Lib.hid (R4.out.below hbawg12)
  replace I5 := Lib.hid (I5.out.below hbawg12)
  replace b3c0 := (hbawg12.cell (p := ⟨b3p, 0, none⟩) b3l).trans b3c0
  replace b3c1 := (hbawg12.cell (p := ⟨b3p, 1, none⟩) b3l).trans b3c1
  replace b3l := Nat.lt_of_lt_of_le b3l hbawg12.size
  replace r4c0 := (hbawg12.cell (p := ⟨r4p, 0, none⟩) r4l).trans r4c0
  replace r4c1 := (hbawg12.cell (p := ⟨r4p, 1, none⟩) r4l).trans r4c1
  replace r4l := Nat.lt_of_lt_of_le r4l hbawg12.size
  replace b2c0 := (hbawg12.cell (p := ⟨b2p, 0, none⟩) b2l).trans b2c0
  replace b2c1 := (hbawg12.cell (p := ⟨b2p, 1, none⟩) b2l).trans b2c1
  replace b2l := Nat.lt_of_lt_of_le b2l hbawg12.size
  replace r2c0 := (hbawg12.cell (p := ⟨r2p, 0, none⟩) r2l).trans r2c0
  replace r2c1 := (hbawg12.cell (p := ⟨r2p, 1, none⟩) r2l).trans r2c1
  replace r2l := Nat.lt_of_lt_of_le r2l hbawg12.size
  replace HW := Lib.hid (HW.out.trans (hbawg12.mono HW.out.size))
  replace HQF : Hid (∀ w', Below _ _ w' → _) := Lib.hid (fun w' hb' => HQF.out w' (hbawg12.trans (hb'.mono hbawg12.size)))
  clear hbawg12
  refine (HQF.out _ (.refl _ _)).mono ?_
  clear HQF
  rintro e wg13 ⟨s6, a6, m6, k6, z6, rfl, hR6, hm6, hbwg13⟩
  replace I3 := Lib.hid (I3.out.below hbwg13)
  replace R4 := Lib.hid (R4.out.below hbwg13)
  replace I5 := Lib.hid (I5.out.below hbwg13)
  replace b3c0 := (hbwg13.cell (p := ⟨b3p, 0, none⟩) b3l).trans b3c0
  replace b3c1 := (hbwg13.cell (p := ⟨b3p, 1, none⟩) b3l).trans b3c1
  replace b3l := Nat.lt_of_lt_of_le b3l hbwg13.size
  replace r4c0 := (hbwg13.cell (p := ⟨r4p, 0, none⟩) r4l).trans r4c0
  replace r4c1 := (hbwg13.cell (p := ⟨r4p, 1, none⟩) r4l).trans r4c1
  replace r4l := Nat.lt_of_lt_of_le r4l hbwg13.size
  replace b2c0 := (hbwg13.cell (p := ⟨b2p, 0, none⟩) b2l).trans b2c0
  replace b2c1 := (hbwg13.cell (p := ⟨b2p, 1, none⟩) b2l).trans b2c1
  replace b2l := Nat.lt_of_lt_of_le b2l hbwg13.size
  replace r2c0 := (hbwg13.cell (p := ⟨r2p, 0, none⟩) r2l).trans r2c0
  replace r2c1 := (hbwg13.cell (p := ⟨r2p, 1, none⟩) r2l).trans r2c1
  replace r2l := Nat.lt_of_lt_of_le r2l hbwg13.size
  replace b5c0 := (hbwg13.cell (p := ⟨b5p, 0, none⟩) b5l).trans b5c0
  replace b5c1 := (hbwg13.cell (p := ⟨b5p, 1, none⟩) b5l).trans b5c1
  replace b5l := Nat.lt_of_lt_of_le b5l hbwg13.size
  replace HW := Lib.hid (HW.out.trans (hbwg13.mono HW.out.size))
  have R6 := Lib.hid hR6
  clear hR6 hbwg13
  go_wp2_with fail
  obtain ⟨wg14, hwg14⟩ : ∃ wg14, wg14 = (wg13.alloc (.cells #[.bool s6, .slice a6 m6 k6] 31)) := ⟨_, rfl⟩
  have hbawg14 : Below wg13.heap.size wg13 wg14 := by rw [hwg14]; go_grown
  have hrr6 : wg14.heap[wg13.heap.size]? = some (.cells #[.bool s6, .slice a6 m6 k6] 31 (0, 0)) := by rw [hwg14]; exact heap_alloc_new wg13 _
  rw [← hwg14]
  clear hwg14
  obtain ⟨r6p, hr6p⟩ : ∃ p, p = wg13.heap.size := ⟨_, rfl⟩
  rw [← hr6p] at hrr6 ⊢
  obtain ⟨r6c0, r6c1, -, -⟩ := blk2 hrr6
  have r6l : r6p < wg14.heap.size := World.block_lt_of_cell? _ _ r6c0
  clear hr6p hrr6
  replace I3 := Lib.hid (I3.out.below hbawg14)
  replace R4 := Lib.hid (R4.out.below hbawg14)
  replace I5 := Lib.hid (I5.out.below hbawg14)
  replace R6 := Lib.hid (R6.out.below hbawg14)
  replace b3c0 := (hbawg14.cell (p := ⟨b3p, 0, none⟩) b3l).trans b3c0
  replace b3c1 := (hbawg14.cell (p := ⟨b3p, 1, none⟩) b3l).trans b3c1
  replace b3l := Nat.lt_of_lt_of_le b3l hbawg14.size
  replace r4c0 := (hbawg14.cell (p := ⟨r4p, 0, none⟩) r4l).trans r4c0
  replace r4c1 := (hbawg14.cell (p := ⟨r4p, 1, none⟩) r4l).trans r4c1
  replace r4l := Nat.lt_of_lt_of_le r4l hbawg14.size
  replace b2c0 := (hbawg14.cell (p := ⟨b2p, 0, none⟩) b2l).trans b2c0
  replace b2c1 := (hbawg14.cell (p := ⟨b2p, 1, none⟩) b2l).trans b2c1
  replace b2l := Nat.lt_of_lt_of_le b2l hbawg14.size
  replace r2c0 := (hbawg14.cell (p := ⟨r2p, 0, none⟩) r2l).trans r2c0
  replace r2c1 := (hbawg14.cell (p := ⟨r2p, 1, none⟩) r2l).trans r2c1
  replace r2l := Nat.lt_of_lt_of_le r2l hbawg14.size
  replace b5c0 := (hbawg14.cell (p := ⟨b5p, 0, none⟩) b5l).trans b5c0
  replace b5c1 := (hbawg14.cell (p := ⟨b5p, 1, none⟩) b5l).trans b5c1
  replace b5l := Nat.lt_of_lt_of_le b5l hbawg14.size
  replace HW := Lib.hid (HW.out.trans (hbawg14.mono HW.out.size))
  clear hbawg14
  clear b2c0 b2c1 b2l
  clear r2c0 r2c1 r2l
  have hIS3 := is_any wg14 s3 s4 a3 a4 m3 m4 k3 k4 z3 z4 P P I3.out R4.out (by omega) (by omega)
  rw [decide_eq_true rfl] at hIS3
  refine hIS3.mono ?_
  clear hIS3
  rintro e wg15 ⟨rfl, hbwg15⟩
  replace I3 := Lib.hid (I3.out.below hbwg15)
  replace R4 := Lib.hid (R4.out.below hbwg15)
  replace I5 := Lib.hid (I5.out.below hbwg15)
  replace R6 := Lib.hid (R6.out.below hbwg15)
  replace b3c0 := (hbwg15.cell (p := ⟨b3p, 0, none⟩) b3l).trans b3c0
  replace b3c1 := (hbwg15.cell (p := ⟨b3p, 1, none⟩) b3l).trans b3c1
  replace b3l := Nat.lt_of_lt_of_le b3l hbwg15.size
  replace r4c0 := (hbwg15.cell (p := ⟨r4p, 0, none⟩) r4l).trans r4c0
  replace r4c1 := (hbwg15.cell (p := ⟨r4p, 1, none⟩) r4l).trans r4c1
  replace r4l := Nat.lt_of_lt_of_le r4l hbwg15.size
  replace b5c0 := (hbwg15.cell (p := ⟨b5p, 0, none⟩) b5l).trans b5c0
  replace b5c1 := (hbwg15.cell (p := ⟨b5p, 1, none⟩) b5l).trans b5c1
  replace b5l := Nat.lt_of_lt_of_le b5l hbwg15.size
  replace r6c0 := (hbwg15.cell (p := ⟨r6p, 0, none⟩) r6l).trans r6c0
  replace r6c1 := (hbwg15.cell (p := ⟨r6p, 1, none⟩) r6l).trans r6c1
  replace r6l := Nat.lt_of_lt_of_le r6l hbwg15.size
  replace HW := Lib.hid (HW.out.trans (hbwg15.mono HW.out.size))
  clear hbwg15
  go_wp2_with fail
  have hIS5 := is_any wg15 s5 s6 a5 a6 m5 m6 k5 k6 z5 z6 P' P' I5.out R6.out (by omega) (by omega)
  rw [decide_eq_true rfl] at hIS5
  refine hIS5.mono ?_
  clear hIS5
  rintro e wg16 ⟨rfl, hbwg16⟩
  replace I3 := Lib.hid (I3.out.below hbwg16)
  replace R4 := Lib.hid (R4.out.below hbwg16)
  replace I5 := Lib.hid (I5.out.below hbwg16)
  replace R6 := Lib.hid (R6.out.below hbwg16)
  replace b3c0 := (hbwg16.cell (p := ⟨b3p, 0, none⟩) b3l).trans b3c0
  replace b3c1 := (hbwg16.cell (p := ⟨b3p, 1, none⟩) b3l).trans b3c1
  replace b3l := Nat.lt_of_lt_of_le b3l hbwg16.size
  replace r4c0 := (hbwg16.cell (p := ⟨r4p, 0, none⟩) r4l).trans r4c0
  replace r4c1 := (hbwg16.cell (p := ⟨r4p, 1, none⟩) r4l).trans r4c1
  replace r4l := Nat.lt_of_lt_of_le r4l hbwg16.size
  replace b5c0 := (hbwg16.cell (p := ⟨b5p, 0, none⟩) b5l).trans b5c0
  replace b5c1 := (hbwg16.cell (p := ⟨b5p, 1, none⟩) b5l).trans b5c1
  replace b5l := Nat.lt_of_lt_of_le b5l hbwg16.size
  replace r6c0 := (hbwg16.cell (p := ⟨r6p, 0, none⟩) r6l).trans r6c0
  replace r6c1 := (hbwg16.cell (p := ⟨r6p, 1, none⟩) r6l).trans r6c1
  replace r6l := Nat.lt_of_lt_of_le r6l hbwg16.size
  replace HW := Lib.hid (HW.out.trans (hbwg16.mono HW.out.size))
  clear hbwg16
  go_wp2_with fail
  refine (awake_any _).mono ?_
  rintro e we ⟨rfl, hbe⟩
  go_wp2_with fail
  go_ret
  exact ⟨rfl, HW.out.trans (hbe.mono HW.out.size)⟩

set_option maxRecDepth 100000 in
set_option maxHeartbeats 4000000 in
theorem powers_B (w : World) (n : Int) (nx ny : Bool) (ax ay : Option Addr) (n1 c1 n2 c2 : Nat) (zx zy : List Int) (hx : Sl w ax n1 c1 zx) (lx : Lim zx) (hy : Sl w ay n2 c2 zy) (ly : Lim zy) (h1 : n1 ≤ 2) (h2 : n2 ≤ 8) (hlo : -9223372036854775808 ≤ n) (hhi : n ≤ 9223372036854775807) (hn : 40 < n) (hs : ¬ 1 < (sgn nx (val zx)).natAbs) :
    Calls Try.prog 5 #[.agg #[.bool nx, .slice ax n1 c1], .int .i64 n, .agg #[.bool ny, .slice ay n2 c2]] w (RetV w (.bool true)) := by
  have HX := Lib.hid hx
  have HY := Lib.hid hy
  obtain ⟨X, hX⟩ : ∃ X, sgn nx (val zx) = X := ⟨_, rfl⟩
  obtain ⟨Y, hY⟩ : ∃ Y, sgn ny (val zy) = Y := ⟨_, rfl⟩
  have HXV := Lib.hid hX
  have HYV := Lib.hid hY
  have HY8 : Hid (decide (n2 ≤ 8) = true) := Lib.hid (decide_eq_true h2)
  have HX2 : Hid (decide (n1 ≤ 2) = true) := Lib.hid (decide_eq_true h1)
  have HHI := Lib.hid hhi
  obtain ⟨L, hL⟩ : ∃ L, blen (cpl (X.natAbs : Int)).toNat = L := ⟨_, rfl⟩
  have HL := Lib.hid hL
  rw [hX] at hs
  have hLs : ¬ (1 : Int) < (L : Int) := by have := blen_abs (X := X); rw [hL] at this; omega
  have HCASE : Hid (n < 0 ∨ X.natAbs ≤ 1 ∨ n ≤ 40) := Lib.hid (.inr (.inl (by omega)))
  clear hs hL
  clear hx hy hX hY hlo hhi
  go_enter Try.func5, Try.ntmps5
  go_upto_region 1 with (fail)
  obtain ⟨W, hW⟩ : ∃ W, W = (w.alloc (.cells #[.bool nx, .slice ax n1 c1] 24)).alloc (.cells #[.bool ny, .slice ay n2 c2] 24) := ⟨_, rfl⟩
  have hbW : Below w.heap.size w W := by rw [hW]; go_grown
  have hsW : w.heap.size + 1 + 1 ≤ W.heap.size := by rw [hW]; go_size
  have rx : W.heap[w.heap.size]? = some (.cells #[.bool nx, .slice ax n1 c1] 24 (0, 0)) := by rw [hW]; exact (heap_alloc2 w _ _).2
  have ry : W.heap[w.heap.size + 1]? = some (.cells #[.bool ny, .slice ay n2 c2] 24 (0, 0)) := by rw [hW]; exact (heap_alloc2 w _ _).1
  rw [← hW]
  clear hW
  obtain ⟨y0, y1, -, -⟩ := blk2 ry
  go_wp2_with fail
  refine (short_one _ _ ⟨ny, ay, n2, c2⟩ 8 (heap_alloc_new _ _)).mono ?_
  rintro e w1 ⟨rfl, hb1⟩
  rw [show decide (Num.n ⟨ny, ay, n2, c2⟩ ≤ 8) = true from HY8.out]
  have hb2 : Below W.heap.size W w1 := Below.trans (by go_grown) (hb1.mono (by go_size))
  clear hb1 y0 y1
  have sx := (hb2.block w.heap.size (by omega)).trans rx
  have sy := (hb2.block (w.heap.size + 1) (by omega)).trans ry
  have hz1 : w.heap.size + 1 + 1 ≤ w1.heap.size := Nat.le_trans hsW hb2.size
  obtain ⟨x0, x1, -, -⟩ := blk2 sx
  go_wp2_with fail
  refine (short_one _ _ ⟨nx, ax, n1, c1⟩ 2 (heap_alloc_new _ _)).mono ?_
  rintro e w2 ⟨rfl, hb1⟩
  rw [show decide (Num.n ⟨nx, ax, n1, c1⟩ ≤ 2) = true from HX2.out]
  have hb3 : Below w1.heap.size w1 w2 := Below.trans (by go_grown) (hb1.mono (by go_size))
  clear hb1 x0 x1
  have HW := Lib.hid ((hbW.trans (hb2.mono hbW.size)).trans (hb3.mono (Nat.le_trans hbW.size hb2.size)))
  have rx1 := (hb3.block w.heap.size (by omega)).trans sx
  have ry1 := (hb3.block (w.heap.size + 1) (by omega)).trans sy
  obtain ⟨bxp, hbxp⟩ : ∃ p, p = w.heap.size := ⟨_, rfl⟩
  obtain ⟨byp, hbyp⟩ : ∃ p, p = w.heap.size + 1 := ⟨_, rfl⟩
  rw [← hbyp] at ry1 ⊢
  rw [← hbxp] at rx1 ⊢
  obtain ⟨bxc0, bxc1, -, -⟩ := blk2 rx1
  obtain ⟨byc0, byc1, -, -⟩ := blk2 ry1
  have bxl : bxp < w2.heap.size := World.block_lt_of_cell? _ _ bxc0
  have byl : byp < w2.heap.size := World.block_lt_of_cell? _ _ byc0
  replace HX := Lib.hid (HX.out.below HW.out)
  replace HY := Lib.hid (HY.out.below HW.out)
  clear rx ry sx sy rx1 ry1 hbxp hbyp hbW hsW hb2 hb3 hz1
  go_wp2_with fail
  refine (of_any _ nx ax n1 c1 zx HX.out lx (by omega)).mono ?_
  rintro e wg1 ⟨s1, a1, m1, k1, z1, t1, d1, j1, e1, y1, rfl, hI1, hm1, hR1, hj1, hbwg1⟩
  rw [HXV.out] at hI1 hR1
  replace HX := Lib.hid (HX.out.below hbwg1)
  replace HY := Lib.hid (HY.out.below hbwg1)
  replace bxc0 := (hbwg1.cell (p := ⟨bxp, 0, none⟩) bxl).trans bxc0
  replace bxc1 := (hbwg1.cell (p := ⟨bxp, 1, none⟩) bxl).trans bxc1
  replace bxl := Nat.lt_of_lt_of_le bxl hbwg1.size
  replace byc0 := (hbwg1.cell (p := ⟨byp, 0, none⟩) byl).trans byc0
  replace byc1 := (hbwg1.cell (p := ⟨byp, 1, none⟩) byl).trans byc1
  replace byl := Nat.lt_of_lt_of_le byl hbwg1.size
  replace HW := Lib.hid (HW.out.trans (hbwg1.mono HW.out.size))
  have I1 := Lib.hid hI1
  clear hI1
  have R1 := Lib.hid hR1
  clear hR1
  clear hbwg1
  go_wp2_with fail
  obtain ⟨wg2, hwg2⟩ : ∃ wg2, wg2 = ((wg1.alloc (.cells #[.bool s1, .slice a1 m1 k1] 28)).alloc (.cells #[.bool t1, .slice d1 j1 e1] 31)) := ⟨_, rfl⟩
  have hbawg2 : Below wg1.heap.size wg1 wg2 := by rw [hwg2]; go_grown
  have hrb1 : wg2.heap[wg1.heap.size]? = some (.cells #[.bool s1, .slice a1 m1 k1] 28 (0, 0)) := by rw [hwg2]; exact (heap_alloc2 wg1 _ _).2
  have hrr1 : wg2.heap[wg1.heap.size + 1]? = some (.cells #[.bool t1, .slice d1 j1 e1] 31 (0, 0)) := by rw [hwg2]; exact (heap_alloc2 wg1 _ _).1
  rw [← hwg2]
  clear hwg2
  obtain ⟨b1p, hb1p⟩ : ∃ p, p = wg1.heap.size := ⟨_, rfl⟩
  obtain ⟨r1p, hr1p⟩ : ∃ p, p = wg1.heap.size + 1 := ⟨_, rfl⟩
  rw [← hr1p] at hrr1 ⊢
  rw [← hb1p] at hrb1 ⊢
  obtain ⟨b1c0, b1c1, -, -⟩ := blk2 hrb1
  have b1l : b1p < wg2.heap.size := World.block_lt_of_cell? _ _ b1c0
  clear hb1p hrb1
  obtain ⟨r1c0, r1c1, -, -⟩ := blk2 hrr1
  have r1l : r1p < wg2.heap.size := World.block_lt_of_cell? _ _ r1c0
  clear hr1p hrr1
  replace HX := Lib.hid (HX.out.below hbawg2)
  replace HY := Lib.hid (HY.out.below hbawg2)
  replace I1 := Lib.hid (I1.out.below hbawg2)
  replace R1 := Lib.hid (R1.out.below hbawg2)
  replace bxc0 := (hbawg2.cell (p := ⟨bxp, 0, none⟩) bxl).trans bxc0
  replace bxc1 := (hbawg2.cell (p := ⟨bxp, 1, none⟩) bxl).trans bxc1
  replace bxl := Nat.lt_of_lt_of_le bxl hbawg2.size
  replace byc0 := (hbawg2.cell (p := ⟨byp, 0, none⟩) byl).trans byc0
  replace byc1 := (hbawg2.cell (p := ⟨byp, 1, none⟩) byl).trans byc1
  replace byl := Nat.lt_of_lt_of_le byl hbawg2.size
  replace HW := Lib.hid (HW.out.trans (hbawg2.mono HW.out.size))
  clear hbawg2
  refine (rabs_any _ t1 d1 j1 e1 y1 X R1.out).mono ?_
  rintro e wg3 ⟨tA, dA, jA, eA, yA, rfl, hRA, hjA, hbwg3⟩
  replace HX := Lib.hid (HX.out.below hbwg3)
  replace HY := Lib.hid (HY.out.below hbwg3)
  replace I1 := Lib.hid (I1.out.below hbwg3)
  replace R1 := Lib.hid (R1.out.below hbwg3)
  replace bxc0 := (hbwg3.cell (p := ⟨bxp, 0, none⟩) bxl).trans bxc0
  replace bxc1 := (hbwg3.cell (p := ⟨bxp, 1, none⟩) bxl).trans bxc1
  replace bxl := Nat.lt_of_lt_of_le bxl hbwg3.size
  replace byc0 := (hbwg3.cell (p := ⟨byp, 0, none⟩) byl).trans byc0
  replace byc1 := (hbwg3.cell (p := ⟨byp, 1, none⟩) byl).trans byc1
  replace byl := Nat.lt_of_lt_of_le byl hbwg3.size
  replace b1c0 := (hbwg3.cell (p := ⟨b1p, 0, none⟩) b1l).trans b1c0
  replace b1c1 := (hbwg3.cell (p := ⟨b1p, 1, none⟩) b1l).trans b1c1
  replace b1l := Nat.lt_of_lt_of_le b1l hbwg3.size
  replace r1c0 := (hbwg3.cell (p := ⟨r1p, 0, none⟩) r1l).trans r1c0
  replace r1c1 := (hbwg3.cell (p := ⟨r1p, 1, none⟩) r1l).trans r1c1
  replace r1l := Nat.lt_of_lt_of_le r1l hbwg3.size
  replace HW := Lib.hid (HW.out.trans (hbwg3.mono HW.out.size))
  have RA := Lib.hid hRA
  clear hRA
  clear hbwg3
  go_wp2_with fail
  refine (rlen_is _ tA dA jA eA yA _ L RA.out (by omega) HL.out).mono ?_
  rintro e wg4 ⟨rfl, hbwg4⟩
  replace HX := Lib.hid (HX.out.below hbwg4)
  replace HY := Lib.hid (HY.out.below hbwg4)
  replace I1 := Lib.hid (I1.out.below hbwg4)
  replace R1 := Lib.hid (R1.out.below hbwg4)
  replace RA := Lib.hid (RA.out.below hbwg4)
  replace bxc0 := (hbwg4.cell (p := ⟨bxp, 0, none⟩) bxl).trans bxc0
  replace bxc1 := (hbwg4.cell (p := ⟨bxp, 1, none⟩) bxl).trans bxc1
  replace bxl := Nat.lt_of_lt_of_le bxl hbwg4.size
  replace byc0 := (hbwg4.cell (p := ⟨byp, 0, none⟩) byl).trans byc0
  replace byc1 := (hbwg4.cell (p := ⟨byp, 1, none⟩) byl).trans byc1
  replace byl := Nat.lt_of_lt_of_le byl hbwg4.size
  replace b1c0 := (hbwg4.cell (p := ⟨b1p, 0, none⟩) b1l).trans b1c0
  replace b1c1 := (hbwg4.cell (p := ⟨b1p, 1, none⟩) b1l).trans b1c1
  replace b1l := Nat.lt_of_lt_of_le b1l hbwg4.size
  replace r1c0 := (hbwg4.cell (p := ⟨r1p, 0, none⟩) r1l).trans r1c0
  replace r1c1 := (hbwg4.cell (p := ⟨r1p, 1, none⟩) r1l).trans r1c1
  replace r1l := Nat.lt_of_lt_of_le r1l hbwg4.size
  replace HW := Lib.hid (HW.out.trans (hbwg4.mono HW.out.size))
  clear hbwg4 RA
  go_wp2_with fail
  obtain ⟨P, c, hP, hQ⟩ := both_power n s1 t1 a1 d1 m1 j1 k1 e1 z1 y1 X wg4 I1.out R1.out (by omega) (by omega) HCASE.out HHI.out
  have HP := Lib.hid hP
  clear hP
  have HQ := Lib.hid hQ
  clear hQ
  clear I1 R1 HHI HCASE
  refine (HP.out _ (.refl _ _)).mono ?_
  clear HP
  rintro e wg5 ⟨s3, a3, m3, k3, z3, rfl, hI3, hm3, hbwg5⟩
  replace HX := Lib.hid (HX.out.below hbwg5)
  replace HY := Lib.hid (HY.out.below hbwg5)
  replace bxc0 := (hbwg5.cell (p := ⟨bxp, 0, none⟩) bxl).trans bxc0
  replace bxc1 := (hbwg5.cell (p := ⟨bxp, 1, none⟩) bxl).trans bxc1
  replace bxl := Nat.lt_of_lt_of_le bxl hbwg5.size
  replace byc0 := (hbwg5.cell (p := ⟨byp, 0, none⟩) byl).trans byc0
  replace byc1 := (hbwg5.cell (p := ⟨byp, 1, none⟩) byl).trans byc1
  replace byl := Nat.lt_of_lt_of_le byl hbwg5.size
  replace b1c0 := (hbwg5.cell (p := ⟨b1p, 0, none⟩) b1l).trans b1c0
  replace b1c1 := (hbwg5.cell (p := ⟨b1p, 1, none⟩) b1l).trans b1c1
  replace b1l := Nat.lt_of_lt_of_le b1l hbwg5.size
  replace r1c0 := (hbwg5.cell (p := ⟨r1p, 0, none⟩) r1l).trans r1c0
  replace r1c1 := (hbwg5.cell (p := ⟨r1p, 1, none⟩) r1l).trans r1c1
  replace r1l := Nat.lt_of_lt_of_le r1l hbwg5.size
  replace HW := Lib.hid (HW.out.trans (hbwg5.mono HW.out.size))
  replace HQ : Hid (∀ w', Below _ _ w' → _) := Lib.hid (fun w' hb' => HQ.out w' (hbwg5.trans (hb'.mono hbwg5.size)))
  have I3 := Lib.hid hI3
  clear hI3 hbwg5
  go_wp2_with fail
  obtain ⟨wg6, hwg6⟩ : ∃ wg6, wg6 = (wg5.alloc (.cells #[.bool s3, .slice a3 m3 k3] 28)) := ⟨_, rfl⟩
  have hbawg6 : Below wg5.heap.size wg5 wg6 := by rw [hwg6]; go_grown
  have hrb3 : wg6.heap[wg5.heap.size]? = some (.cells #[.bool s3, .slice a3 m3 k3] 28 (0, 0)) := by rw [hwg6]; exact heap_alloc_new wg5 _
  rw [← hwg6]
  clear hwg6
  obtain ⟨b3p, hb3p⟩ : ∃ p, p = wg5.heap.size := ⟨_, rfl⟩
  rw [← hb3p] at hrb3 ⊢
  obtain ⟨b3c0, b3c1, -, -⟩ := blk2 hrb3
  have b3l : b3p < wg6.heap.size := World.block_lt_of_cell? _ _ b3c0
  clear hb3p hrb3
  replace HX := Lib.hid (HX.out.below hbawg6)
  replace HY := Lib.hid (HY.out.below hbawg6)
  replace I3 := Lib.hid (I3.out.below hbawg6)
  replace bxc0 := (hbawg6.cell (p := ⟨bxp, 0, none⟩) bxl).trans bxc0
  replace bxc1 := (hbawg6.cell (p := ⟨bxp, 1, none⟩) bxl).trans bxc1
  replace bxl := Nat.lt_of_lt_of_le bxl hbawg6.size
  replace byc0 := (hbawg6.cell (p := ⟨byp, 0, none⟩) byl).trans byc0
  replace byc1 := (hbawg6.cell (p := ⟨byp, 1, none⟩) byl).trans byc1
  replace byl := Nat.lt_of_lt_of_le byl hbawg6.size
  replace b1c0 := (hbawg6.cell (p := ⟨b1p, 0, none⟩) b1l).trans b1c0
  replace b1c1 := (hbawg6.cell (p := ⟨b1p, 1, none⟩) b1l).trans b1c1
  replace b1l := Nat.lt_of_lt_of_le b1l hbawg6.size
  replace r1c0 := (hbawg6.cell (p := ⟨r1p, 0, none⟩) r1l).trans r1c0
  replace r1c1 := (hbawg6.cell (p := ⟨r1p, 1, none⟩) r1l).trans r1c1
  replace r1l := Nat.lt_of_lt_of_le r1l hbawg6.size
  replace HW := Lib.hid (HW.out.trans (hbawg6.mono HW.out.size))
  replace HQ : Hid (∀ w', Below _ _ w' → _) := Lib.hid (fun w' hb' => HQ.out w' (hbawg6.trans (hb'.mono hbawg6.size)))
  clear hbawg6
  refine (HQ.out _ (.refl _ _)).mono ?_
  clear HQ
  rintro e wg7 ⟨s4, a4, m4, k4, z4, rfl, hR4, hm4, hbwg7⟩
  replace HX := Lib.hid (HX.out.below hbwg7)
  replace HY := Lib.hid (HY.out.below hbwg7)
  replace I3 := Lib.hid (I3.out.below hbwg7)
  replace bxc0 := (hbwg7.cell (p := ⟨bxp, 0, none⟩) bxl).trans bxc0
  replace bxc1 := (hbwg7.cell (p := ⟨bxp, 1, none⟩) bxl).trans bxc1
  replace bxl := Nat.lt_of_lt_of_le bxl hbwg7.size
  replace byc0 := (hbwg7.cell (p := ⟨byp, 0, none⟩) byl).trans byc0
  replace byc1 := (hbwg7.cell (p := ⟨byp, 1, none⟩) byl).trans byc1
  replace byl := Nat.lt_of_lt_of_le byl hbwg7.size
  replace b1c0 := (hbwg7.cell (p := ⟨b1p, 0, none⟩) b1l).trans b1c0
  replace b1c1 := (hbwg7.cell (p := ⟨b1p, 1, none⟩) b1l).trans b1c1
  replace b1l := Nat.lt_of_lt_of_le b1l hbwg7.size
  replace r1c0 := (hbwg7.cell (p := ⟨r1p, 0, none⟩) r1l).trans r1c0
  replace r1c1 := (hbwg7.cell (p := ⟨r1p, 1, none⟩) r1l).trans r1c1
  replace r1l := Nat.lt_of_lt_of_le r1l hbwg7.size
  replace b3c0 := (hbwg7.cell (p := ⟨b3p, 0, none⟩) b3l).trans b3c0
  replace b3c1 := (hbwg7.cell (p := ⟨b3p, 1, none⟩) b3l).trans b3c1
  replace b3l := Nat.lt_of_lt_of_le b3l hbwg7.size
  replace HW := Lib.hid (HW.out.trans (hbwg7.mono HW.out.size))
  have R4 := Lib.hid hR4
  clear hR4 hbwg7
  go_wp2_with fail
  obtain ⟨wg8, hwg8⟩ : ∃ wg8, wg8 = (wg7.alloc (.cells #[.bool s4, .slice a4 m4 k4] 31)) := ⟨_, rfl⟩
  have hbawg8 : Below wg7.heap.size wg7 wg8 := by rw [hwg8]; go_grown
  have hrr4 : wg8.heap[wg7.heap.size]? = some (.cells #[.bool s4, .slice a4 m4 k4] 31 (0, 0)) := by rw [hwg8]; exact heap_alloc_new wg7 _
  rw [← hwg8]
  clear hwg8
  obtain ⟨r4p, hr4p⟩ : ∃ p, p = wg7.heap.size := ⟨_, rfl⟩
  rw [← hr4p] at hrr4 ⊢
  obtain ⟨r4c0, r4c1, -, -⟩ := blk2 hrr4
  have r4l : r4p < wg8.heap.size := World.block_lt_of_cell? _ _ r4c0
  clear hr4p hrr4
  replace HX := Lib.hid (HX.out.below hbawg8)
  replace HY := Lib.hid (HY.out.below hbawg8)
  replace I3 := Lib.hid (I3.out.below hbawg8)
  replace R4 := Lib.hid (R4.out.below hbawg8)
  replace bxc0 := (hbawg8.cell (p := ⟨bxp, 0, none⟩) bxl).trans bxc0
  replace bxc1 := (hbawg8.cell (p := ⟨bxp, 1, none⟩) bxl).trans bxc1
  replace bxl := Nat.lt_of_lt_of_le bxl hbawg8.size
  replace byc0 := (hbawg8.cell (p := ⟨byp, 0, none⟩) byl).trans byc0
  replace byc1 := (hbawg8.cell (p := ⟨byp, 1, none⟩) byl).trans byc1
  replace byl := Nat.lt_of_lt_of_le byl hbawg8.size
  replace b1c0 := (hbawg8.cell (p := ⟨b1p, 0, none⟩) b1l).trans b1c0
  replace b1c1 := (hbawg8.cell (p := ⟨b1p, 1, none⟩) b1l).trans b1c1
  replace b1l := Nat.lt_of_lt_of_le b1l hbawg8.size
  replace r1c0 := (hbawg8.cell (p := ⟨r1p, 0, none⟩) r1l).trans r1c0
  replace r1c1 := (hbawg8.cell (p := ⟨r1p, 1, none⟩) r1l).trans r1c1
  replace r1l := Nat.lt_of_lt_of_le r1l hbawg8.size
  replace b3c0 := (hbawg8.cell (p := ⟨b3p, 0, none⟩) b3l).trans b3c0
  replace b3c1 := (hbawg8.cell (p := ⟨b3p, 1, none⟩) b3l).trans b3c1
  replace b3l := Nat.lt_of_lt_of_le b3l hbawg8.size
  replace HW := Lib.hid (HW.out.trans (hbawg8.mono HW.out.size))
  clear hbawg8
  refine (of_any _ ny ay n2 c2 zy HY.out ly (by omega)).mono ?_
  rintro e wg9 ⟨s2, a2, m2, k2, z2, t2, d2, j2, e2, y2, rfl, hI2, hm2, hR2, hj2, hbwg9⟩
  rw [HYV.out] at hI2 hR2
  replace HX := Lib.hid (HX.out.below hbwg9)
  replace HY := Lib.hid (HY.out.below hbwg9)
  replace I3 := Lib.hid (I3.out.below hbwg9)
  replace R4 := Lib.hid (R4.out.below hbwg9)
  replace bxc0 := (hbwg9.cell (p := ⟨bxp, 0, none⟩) bxl).trans bxc0
  replace bxc1 := (hbwg9.cell (p := ⟨bxp, 1, none⟩) bxl).trans bxc1
  replace bxl := Nat.lt_of_lt_of_le bxl hbwg9.size
  replace byc0 := (hbwg9.cell (p := ⟨byp, 0, none⟩) byl).trans byc0
  replace byc1 := (hbwg9.cell (p := ⟨byp, 1, none⟩) byl).trans byc1
  replace byl := Nat.lt_of_lt_of_le byl hbwg9.size
  replace b1c0 := (hbwg9.cell (p := ⟨b1p, 0, none⟩) b1l).trans b1c0
  replace b1c1 := (hbwg9.cell (p := ⟨b1p, 1, none⟩) b1l).trans b1c1
  replace b1l := Nat.lt_of_lt_of_le b1l hbwg9.size
  replace r1c0 := (hbwg9.cell (p := ⟨r1p, 0, none⟩) r1l).trans r1c0
  replace r1c1 := (hbwg9.cell (p := ⟨r1p, 1, none⟩) r1l).trans r1c1
  replace r1l := Nat.lt_of_lt_of_le r1l hbwg9.size
  replace b3c0 := (hbwg9.cell (p := ⟨b3p, 0, none⟩) b3l).trans b3c0
  replace b3c1 := (hbwg9.cell (p := ⟨b3p, 1, none⟩) b3l).trans b3c1
  replace b3l := Nat.lt_of_lt_of_le b3l hbwg9.size
  replace r4c0 := (hbwg9.cell (p := ⟨r4p, 0, none⟩) r4l).trans r4c0
  replace r4c1 := (hbwg9.cell (p := ⟨r4p, 1, none⟩) r4l).trans r4c1
  replace r4l := Nat.lt_of_lt_of_le r4l hbwg9.size
  replace HW := Lib.hid (HW.out.trans (hbwg9.mono HW.out.size))
  have I2 := Lib.hid hI2
  clear hI2
  have R2 := Lib.hid hR2
  clear hR2
  clear hbwg9
  go_wp2_with fail
  obtain ⟨wg10, hwg10⟩ : ∃ wg10, wg10 = ((wg9.alloc (.cells #[.bool s2, .slice a2 m2 k2] 28)).alloc (.cells #[.bool t2, .slice d2 j2 e2] 31)) := ⟨_, rfl⟩
  have hbawg10 : Below wg9.heap.size wg9 wg10 := by rw [hwg10]; go_grown
  have hrb2 : wg10.heap[wg9.heap.size]? = some (.cells #[.bool s2, .slice a2 m2 k2] 28 (0, 0)) := by rw [hwg10]; exact (heap_alloc2 wg9 _ _).2
  have hrr2 : wg10.heap[wg9.heap.size + 1]? = some (.cells #[.bool t2, .slice d2 j2 e2] 31 (0, 0)) := by rw [hwg10]; exact (heap_alloc2 wg9 _ _).1
  rw [← hwg10]
  clear hwg10
  obtain ⟨b2p, hb2p⟩ : ∃ p, p = wg9.heap.size := ⟨_, rfl⟩
  obtain ⟨r2p, hr2p⟩ : ∃ p, p = wg9.heap.size + 1 := ⟨_, rfl⟩
  rw [← hr2p] at hrr2 ⊢
  rw [← hb2p] at hrb2 ⊢
  obtain ⟨b2c0, b2c1, -, -⟩ := blk2 hrb2
  have b2l : b2p < wg10.heap.size := World.block_lt_of_cell? _ _ b2c0
  clear hb2p hrb2
  obtain ⟨r2c0, r2c1, -, -⟩ := blk2 hrr2
  have r2l : r2p < wg10.heap.size := World.block_lt_of_cell? _ _ r2c0
  clear hr2p hrr2
  replace HX := Lib.hid (HX.out.below hbawg10)
  replace HY := Lib.hid (HY.out.below hbawg10)
  replace I3 := Lib.hid (I3.out.below hbawg10)
  replace R4 := Lib.hid (R4.out.below hbawg10)
  replace I2 := Lib.hid (I2.out.below hbawg10)
  replace R2 := Lib.hid (R2.out.below hbawg10)
  replace bxc0 := (hbawg10.cell (p := ⟨bxp, 0, none⟩) bxl).trans bxc0
  replace bxc1 := (hbawg10.cell (p := ⟨bxp, 1, none⟩) bxl).trans bxc1
  replace bxl := Nat.lt_of_lt_of_le bxl hbawg10.size
  replace byc0 := (hbawg10.cell (p := ⟨byp, 0, none⟩) byl).trans byc0
  replace byc1 := (hbawg10.cell (p := ⟨byp, 1, none⟩) byl).trans byc1
  replace byl := Nat.lt_of_lt_of_le byl hbawg10.size
  replace b1c0 := (hbawg10.cell (p := ⟨b1p, 0, none⟩) b1l).trans b1c0
  replace b1c1 := (hbawg10.cell (p := ⟨b1p, 1, none⟩) b1l).trans b1c1
  replace b1l := Nat.lt_of_lt_of_le b1l hbawg10.size
  replace r1c0 := (hbawg10.cell (p := ⟨r1p, 0, none⟩) r1l).trans r1c0
  replace r1c1 := (hbawg10.cell (p := ⟨r1p, 1, none⟩) r1l).trans r1c1
  replace r1l := Nat.lt_of_lt_of_le r1l hbawg10.size
  replace b3c0 := (hbawg10.cell (p := ⟨b3p, 0, none⟩) b3l).trans b3c0
  replace b3c1 := (hbawg10.cell (p := ⟨b3p, 1, none⟩) b3l).trans b3c1
  replace b3l := Nat.lt_of_lt_of_le b3l hbawg10.size
  replace r4c0 := (hbawg10.cell (p := ⟨r4p, 0, none⟩) r4l).trans r4c0
  replace r4c1 := (hbawg10.cell (p := ⟨r4p, 1, none⟩) r4l).trans r4c1
  replace r4l := Nat.lt_of_lt_of_le r4l hbawg10.size
  replace HW := Lib.hid (HW.out.trans (hbawg10.mono HW.out.size))
  clear hbawg10
  clear bxc0 bxc1 bxl
  clear byc0 byc1 byl
  clear b1c0 b1c1 b1l
  clear r1c0 r1c1 r1l
  clear HX HY HXV HYV lx ly
  obtain ⟨P', c', hP, hQ⟩ := both_root s2 t2 a2 d2 m2 j2 k2 e2 z2 y2 Y wg10 I2.out R2.out (by omega) (by omega)
  have HPF := Lib.hid hP
  clear hP
  have HQF := Lib.hid hQ
  clear hQ
  clear I2 R2
  refine (HPF.out _ (.refl _ _)).mono ?_
  clear HPF
  rintro e wg11 ⟨s5, a5, m5, k5, z5, rfl, hI5, hm5, hbwg11⟩
  replace I3 := Lib.hid (I3.out.below hbwg11)
  replace R4 := Lib.hid (R4.out.below hbwg11)
  replace b3c0 := (hbwg11.cell (p := ⟨b3p, 0, none⟩) b3l).trans b3c0
  replace b3c1 := (hbwg11.cell (p := ⟨b3p, 1, none⟩) b3l).trans b3c1
  replace b3l := Nat.lt_of_lt_of_le b3l hbwg11.size
  replace r4c0 := (hbwg11.cell (p := ⟨r4p, 0, none⟩) r4l).trans r4c0
  replace r4c1 := (hbwg11.cell (p := ⟨r4p, 1, none⟩) r4l).trans r4c1
  replace r4l := Nat.lt_of_lt_of_le r4l hbwg11.size
  replace b2c0 := (hbwg11.cell (p := ⟨b2p, 0, none⟩) b2l).trans b2c0
  replace b2c1 := (hbwg11.cell (p := ⟨b2p, 1, none⟩) b2l).trans b2c1
  replace b2l := Nat.lt_of_lt_of_le b2l hbwg11.size
  replace r2c0 := (hbwg11.cell (p := ⟨r2p, 0, none⟩) r2l).trans r2c0
  replace r2c1 := (hbwg11.cell (p := ⟨r2p, 1, none⟩) r2l).trans r2c1
  replace r2l := Nat.lt_of_lt_of_le r2l hbwg11.size
  replace HW := Lib.hid (HW.out.trans (hbwg11.mono HW.out.size))
  replace HQF : Hid (∀ w', Below _ _ w' → _) := Lib.hid (fun w' hb' => HQF.out w' (hbwg11.trans (hb'.mono hbwg11.size)))
  have I5 := Lib.hid hI5
  clear hI5 hbwg11
  go_wp2_with fail
  obtain ⟨wg12, hwg12⟩ : ∃ wg12, wg12 = (wg11.alloc (.cells #[.bool s5, .slice a5 m5 k5] 28)) := ⟨_, rfl⟩
  have hbawg12 : Below wg11.heap.size wg11 wg12 := by rw [hwg12]; go_grown
  have hrb5 : wg12.heap[wg11.heap.size]? = some (.cells #[.bool s5, .slice a5 m5 k5] 28 (0, 0)) := by rw [hwg12]; exact heap_alloc_new wg11 _
  rw [← hwg12]
  clear hwg12
  obtain ⟨b5p, hb5p⟩ : ∃ p, p = wg11.heap.size := ⟨_, rfl⟩
  rw [← hb5p] at hrb5 ⊢
  obtain ⟨b5c0, b5c1, -, -⟩ := blk2 hrb5
  have b5l : b5p < wg12.heap.size := World.block_lt_of_cell? _ _ b5c0
  clear hb5p hrb5
  replace I3 := Lib.hid (I3.out.below hbawg12)
  replace R4 := Lib.hid (R4.out.below hbawg12)
  replace I5 := Lib.hid (I5.out.below hbawg12)
  replace b3c0 := (hbawg12.cell (p := ⟨b3p, 0, none⟩) b3l).trans b3c0
  replace b3c1 := (hbawg12.cell (p := ⟨b3p, 1, none⟩) b3l).trans b3c1
  replace b3l := Nat.lt_of_lt_of_le b3l hbawg12.size
  replace r4c0 := (hbawg12.cell (p := ⟨r4p, 0, none⟩) r4l).trans r4c0
  replace r4c1 := (hbawg12.cell (p := ⟨r4p, 1, none⟩) r4l).trans r4c1
  replace r4l := Nat.lt_of_lt_of_le r4l hbawg12.size
  replace b2c0 := (hbawg12.cell (p := ⟨b2p, 0, none⟩) b2l).trans b2c0
  replace b2c1 := (hbawg12.cell (p := ⟨b2p, 1, none⟩) b2l).trans b2c1
  replace b2l := Nat.lt_of_lt_of_le b2l hbawg12.size
  replace r2c0 := (hbawg12.cell (p := ⟨r2p, 0, none⟩) r2l).trans r2c0
  replace r2c1 := (hbawg12.cell (p := ⟨r2p, 1, none⟩) r2l).trans r2c1
  replace r2l := Nat.lt_of_lt_of_le r2l hbawg12.size
  replace HW := Lib.hid (HW.out.trans (hbawg12.mono HW.out.size))
  replace HQF : Hid (∀ w', Below _ _ w' → _) := Lib.hid (fun w' hb' => HQF.out w' (hbawg12.trans (hb'.mono hbawg12.size)))
  clear hbawg12
  refine (HQF.out _ (.refl _ _)).mono ?_
  clear HQF
  rintro e wg13 ⟨s6, a6, m6, k6, z6, rfl, hR6, hm6, hbwg13⟩
  replace I3 := Lib.hid (I3.out.below hbwg13)
  replace R4 := Lib.hid (R4.out.below hbwg13)
  replace I5 := Lib.hid (I5.out.below hbwg13)
  replace b3c0 := (hbwg13.cell (p := ⟨b3p, 0, none⟩) b3l).trans b3c0
  replace b3c1 := (hbwg13.cell (p := ⟨b3p, 1, none⟩) b3l).trans b3c1
  replace b3l := Nat.lt_of_lt_of_le b3l hbwg13.size
  replace r4c0 := (hbwg13.cell (p := ⟨r4p, 0, none⟩) r4l).trans r4c0
  replace r4c1 := (hbwg13.cell (p := ⟨r4p, 1, none⟩) r4l).trans r4c1
  replace r4l := Nat.lt_of_lt_of_le r4l hbwg13.size
  replace b2c0 := (hbwg13.cell (p := ⟨b2p, 0, none⟩) b2l).trans b2c0
  replace b2c1 := (hbwg13.cell (p := ⟨b2p, 1, none⟩) b2l).trans b2c1
  replace b2l := Nat.lt_of_lt_of_le b2l hbwg13.size
  replace r2c0 := (hbwg13.cell (p := ⟨r2p, 0, none⟩) r2l).trans r2c0
  replace r2c1 := (hbwg13.cell (p := ⟨r2p, 1, none⟩) r2l).trans r2c1
  replace r2l := Nat.lt_of_lt_of_le r2l hbwg13.size
  replace b5c0 := (hbwg13.cell (p := ⟨b5p, 0, none⟩) b5l).trans b5c0
  replace b5c1 := (hbwg13.cell (p := ⟨b5p, 1, none⟩) b5l).trans b5c1
  replace b5l := Nat.lt_of_lt_of_le b5l hbwg13.size
  replace HW := Lib.hid (HW.out.trans (hbwg13.mono HW.out.size))
  have R6 := Lib.hid hR6
  clear hR6 hbwg13
  go_wp2_with fail
  obtain ⟨wg14, hwg14⟩ : ∃ wg14, wg14 = (wg13.alloc (.cells #[.bool s6, .slice a6 m6 k6] 31)) := ⟨_, rfl⟩
  have hbawg14 : Below wg13.heap.size wg13 wg14 := by rw [hwg14]; go_grown
  have hrr6 : wg14.heap[wg13.heap.size]? = some (.cells #[.bool s6, .slice a6 m6 k6] 31 (0, 0)) := by rw [hwg14]; exact heap_alloc_new wg13 _
  rw [← hwg14]
  clear hwg14
  obtain ⟨r6p, hr6p⟩ : ∃ p, p = wg13.heap.size := ⟨_, rfl⟩
  rw [← hr6p] at hrr6 ⊢
  obtain ⟨r6c0, r6c1, -, -⟩ := blk2 hrr6
  have r6l : r6p < wg14.heap.size := World.block_lt_of_cell? _ _ r6c0
  clear hr6p hrr6
  replace I3 := Lib.hid (I3.out.below hbawg14)
  replace R4 := Lib.hid (R4.out.below hbawg14)
  replace I5 := Lib.hid (I5.out.below hbawg14)
  replace R6 := Lib.hid (R6.out.below hbawg14)
  replace b3c0 := (hbawg14.cell (p := ⟨b3p, 0, none⟩) b3l).trans b3c0
  replace b3c1 := (hbawg14.cell (p := ⟨b3p, 1, none⟩) b3l).trans b3c1
  replace b3l := Nat.lt_of_lt_of_le b3l hbawg14.size
  replace r4c0 := (hbawg14.cell (p := ⟨r4p, 0, none⟩) r4l).trans r4c0
  replace r4c1 := (hbawg14.cell (p := ⟨r4p, 1, none⟩) r4l).trans r4c1
  replace r4l := Nat.lt_of_lt_of_le r4l hbawg14.size
  replace b2c0 := (hbawg14.cell (p := ⟨b2p, 0, none⟩) b2l).trans b2c0
  replace b2c1 := (hbawg14.cell (p := ⟨b2p, 1, none⟩) b2l).trans b2c1
  replace b2l := Nat.lt_of_lt_of_le b2l hbawg14.size
  replace r2c0 := (hbawg14.cell (p := ⟨r2p, 0, none⟩) r2l).trans r2c0
  replace r2c1 := (hbawg14.cell (p := ⟨r2p, 1, none⟩) r2l).trans r2c1
  replace r2l := Nat.lt_of_lt_of_le r2l hbawg14.size
  replace b5c0 := (hbawg14.cell (p := ⟨b5p, 0, none⟩) b5l).trans b5c0
  replace b5c1 := (hbawg14.cell (p := ⟨b5p, 1, none⟩) b5l).trans b5c1
  replace b5l := Nat.lt_of_lt_of_le b5l hbawg14.size
  replace HW := Lib.hid (HW.out.trans (hbawg14.mono HW.out.size))
  clear hbawg14
  clear b2c0 b2c1 b2l
  clear r2c0 r2c1 r2l
  have hIS3 := is_any wg14 s3 s4 a3 a4 m3 m4 k3 k4 z3 z4 P P I3.out R4.out (by omega) (by omega)
  rw [decide_eq_true rfl] at hIS3
  refine hIS3.mono ?_
  clear hIS3
  rintro e wg15 ⟨rfl, hbwg15⟩
  replace I3 := Lib.hid (I3.out.below hbwg15)
  replace R4 := Lib.hid (R4.out.below hbwg15)
  replace I5 := Lib.hid (I5.out.below hbwg15)
  replace R6 := Lib.hid (R6.out.below hbwg15)
  replace b3c0 := (hbwg15.cell (p := ⟨b3p, 0, none⟩) b3l).trans b3c0
  replace b3c1 := (hbwg15.cell (p := ⟨b3p, 1, none⟩) b3l).trans b3c1
  replace b3l := Nat.lt_of_lt_of_le b3l hbwg15.size
  replace r4c0 := (hbwg15.cell (p := ⟨r4p, 0, none⟩) r4l).trans r4c0
  replace r4c1 := (hbwg15.cell (p := ⟨r4p, 1, none⟩) r4l).trans r4c1
  replace r4l := Nat.lt_of_lt_of_le r4l hbwg15.size
  replace b5c0 := (hbwg15.cell (p := ⟨b5p, 0, none⟩) b5l).trans b5c0
  replace b5c1 := (hbwg15.cell (p := ⟨b5p, 1, none⟩) b5l).trans b5c1
  replace b5l := Nat.lt_of_lt_of_le b5l hbwg15.size
  replace r6c0 := (hbwg15.cell (p := ⟨r6p, 0, none⟩) r6l).trans r6c0
  replace r6c1 := (hbwg15.cell (p := ⟨r6p, 1, none⟩) r6l).trans r6c1
  replace r6l := Nat.lt_of_lt_of_le r6l hbwg15.size
  replace HW := Lib.hid (HW.out.trans (hbwg15.mono HW.out.size))
  clear hbwg15
  go_wp2_with fail
  have hIS5 := is_any wg15 s5 s6 a5 a6 m5 m6 k5 k6 z5 z6 P' P' I5.out R6.out (by omega) (by omega)
  rw [decide_eq_true rfl] at hIS5
  refine hIS5.mono ?_
  clear hIS5
  rintro e wg16 ⟨rfl, hbwg16⟩
  replace I3 := Lib.hid (I3.out.below hbwg16)
  replace R4 := Lib.hid (R4.out.below hbwg16)
  replace I5 := Lib.hid (I5.out.below hbwg16)
  replace R6 := Lib.hid (R6.out.below hbwg16)
  replace b3c0 := (hbwg16.cell (p := ⟨b3p, 0, none⟩) b3l).trans b3c0
  replace b3c1 := (hbwg16.cell (p := ⟨b3p, 1, none⟩) b3l).trans b3c1
  replace b3l := Nat.lt_of_lt_of_le b3l hbwg16.size
  replace r4c0 := (hbwg16.cell (p := ⟨r4p, 0, none⟩) r4l).trans r4c0
  replace r4c1 := (hbwg16.cell (p := ⟨r4p, 1, none⟩) r4l).trans r4c1
  replace r4l := Nat.lt_of_lt_of_le r4l hbwg16.size
  replace b5c0 := (hbwg16.cell (p := ⟨b5p, 0, none⟩) b5l).trans b5c0
  replace b5c1 := (hbwg16.cell (p := ⟨b5p, 1, none⟩) b5l).trans b5c1
  replace b5l := Nat.lt_of_lt_of_le b5l hbwg16.size
  replace r6c0 := (hbwg16.cell (p := ⟨r6p, 0, none⟩) r6l).trans r6c0
  replace r6c1 := (hbwg16.cell (p := ⟨r6p, 1, none⟩) r6l).trans r6c1
  replace r6l := Nat.lt_of_lt_of_le r6l hbwg16.size
  replace HW := Lib.hid (HW.out.trans (hbwg16.mono HW.out.size))
  clear hbwg16
  go_wp2_with fail
  refine (awake_any _).mono ?_
  rintro e we ⟨rfl, hbe⟩
  go_wp2_with fail
  go_ret
  exact ⟨rfl, HW.out.trans (hbe.mono HW.out.size)⟩

theorem powers_law (w : World) (n : Int) (nx ny : Bool) (ax ay : Option Addr) (n1 c1 n2 c2 : Nat) (zx zy : List Int) (hx : Sl w ax n1 c1 zx) (lx : Lim zx) (hy : Sl w ay n2 c2 zy) (ly : Lim zy) (hlo : -9223372036854775808 ≤ n) (hhi : n ≤ 9223372036854775807) :
    Calls Try.prog 5 #[.agg #[.bool nx, .slice ax n1 c1], .int .i64 n, .agg #[.bool ny, .slice ay n2 c2]] w (RetV w (.bool true)) := by
  by_cases h2 : n2 ≤ 8
  · by_cases h1 : n1 ≤ 2
    · by_cases hn : n ≤ 40
      · exact powers_C w n nx ny ax ay n1 c1 n2 c2 zx zy hx lx hy ly h1 h2 hlo hhi hn
      · by_cases hs : 1 < (sgn nx (val zx)).natAbs
        · exact powers_A w n nx ny ax ay n1 c1 n2 c2 zx zy hx lx hy ly h1 h2 hlo hhi (by omega) hs
        · exact powers_B w n nx ny ax ay n1 c1 n2 c2 zx zy hx lx hy ly h1 h2 hlo hhi (by omega) hs
    · exact powers_longX w n nx ny ax ay n1 c1 n2 c2 h2 h1
  · exact powers_longY w n nx ny ax ay n1 c1 n2 c2 h2
end Go.Proofs.Ytpakfknacmcohaa
