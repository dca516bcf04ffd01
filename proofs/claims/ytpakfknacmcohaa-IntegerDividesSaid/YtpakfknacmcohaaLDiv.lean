/- IntegerDivides: the walk. -/
import Derived.Test.YtpakfknacmcohaaActs1
import Derived.Deep.DeepCutAuto
namespace Go.Proofs.Ytpakfknacmcohaa
open Go.RowKit
set_option autoImplicit false
set_option linter.unusedVariables false

theorem IntAt.drew {w : World} {neg : Bool} {ao : Option Addr} {n cap : Nat} {zs : List Int} {x : Int} (h : IntAt w neg ao n cap zs x) : IntAt w.drew neg ao n cap zs x := ⟨h.sl.drew, h.lim, h.top, h.sign, h.val⟩
theorem cell_top (w : World) (a b : Obj) (u v : Value) (t : TypeId) : (W3 w a b (.cells #[u, v] t)).drew.cell? ⟨w.heap.size + 1 + 1, 0, none⟩ = some u ∧ (W3 w a b (.cells #[u, v] t)).drew.cell? ⟨w.heap.size + 1 + 1, 1, none⟩ = some v :=
  ⟨cell_of_row (W3 w a b (.cells #[u, v] t)).drew (w.heap.size + 1 + 1) 0 #[u, v] t (0, 0) (heap_alloc3 w a b _), cell_of_row (W3 w a b (.cells #[u, v] t)).drew (w.heap.size + 1 + 1) 1 #[u, v] t (0, 0) (heap_alloc3 w a b _)⟩

theorem sign_is (w : World) (nx : Bool) (ao : Option Addr) (n capa : Nat) (xs : List Int) (x c : Int) (hx : IntAt w nx ao n capa xs x) (hc : cmpI x 0 = c) :
    Calls Try.prog 22 #[.agg #[.bool nx, .slice ao n capa]] w (RetV w (.int .i64 c)) := by rw [← hc]; exact sign_int w nx ao n capa xs x hx
theorem sign_not {x c : Int} (hc : cmpI x 0 = c) (h : x ≠ 0) : (c == 0) = false := by
  rw [← hc]; unfold cmpI; by_cases h1 : x < 0 <;> by_cases h2 : 0 < x <;> simp [h1, h2] <;> omega
theorem cmpI_is (w : World) (nx ny : Bool) (ao bo : Option Addr) (n m capa capb : Nat) (xs ys : List Int) (x y c : Int) (hx : IntAt w nx ao n capa xs x) (hy : IntAt w ny bo m capb ys y) (hc : cmpI x y = c) :
    Calls Try.prog 32 #[.agg #[.bool nx, .slice ao n capa], .agg #[.bool ny, .slice bo m capb]] w (RetV w (.int .i64 c)) := by
  rw [← hc]; exact cmp_int w nx ny ao bo n m capa capb xs ys x y hx hy
theorem rem_small {X Y : Int} (h : Y ≠ 0) : cmpI ((X.tmod Y).natAbs : Int) (Y.natAbs : Int) = -1 := by
  apply cmpI_lt
  rw [Int.natAbs_tmod]
  have := Nat.mod_lt X.natAbs (show 0 < Y.natAbs by omega)
  omega
theorem rem_sign {X Y : Int} (h : X.tmod Y ≠ 0) : cmpI (X.tmod Y) 0 = cmpI X 0 := by
  rcases Int.lt_or_le X 0 with hx | hx
  · have h1 := Int.tmod_nonneg Y (show 0 ≤ -X by omega)
    rw [Int.neg_tmod] at h1
    rw [cmpI_lt (by omega), cmpI_lt hx]
  · have h1 := Int.tmod_nonneg Y hx
    have hx0 : X ≠ 0 := by rintro rfl; apply h; simp
    rw [cmpI_gt (by omega), cmpI_gt (by omega)]
theorem sign_three (x : Int) : (cmpI x 0 = 0 ∧ x = 0) ∨ (cmpI x 0 = 1 ∧ x ≠ 0) ∨ (cmpI x 0 = -1 ∧ x ≠ 0) := by
  rcases Int.lt_trichotomy x 0 with h | h | h
  · exact .inr (.inr ⟨cmpI_lt h, by omega⟩)
  · exact .inl ⟨cmpI_eq h, h⟩
  · exact .inr (.inl ⟨cmpI_gt h, by omega⟩)
theorem gcd_rem {X : Int} {g : Nat} (h : g ∣ X.natAbs) : X.tmod (g : Int) = 0 := by
  apply Int.tmod_eq_zero_of_dvd
  first | exact Int.ofNat_dvd_left.2 h | exact Int.natCast_dvd.2 h
theorem gcd_scale (X Y Z : Int) : ((Nat.gcd (X * Z).natAbs (Y * Z).natAbs : Nat) : Int) = (Nat.gcd X.natAbs Y.natAbs : Int) * (Z.natAbs : Int) := by
  rw [Int.natAbs_mul, Int.natAbs_mul, Nat.gcd_mul_right]; simp
theorem gcd_both {X Y Z : Int} (h1 : X.tmod Z = 0) (h2 : Y.tmod Z = 0) : ((Nat.gcd X.natAbs Y.natAbs : Nat) : Int).tmod Z = 0 := by
  apply Int.tmod_eq_zero_of_dvd
  have d1 := Int.dvd_of_tmod_eq_zero h1
  have d2 := Int.dvd_of_tmod_eq_zero h2
  rw [← Int.natAbs_dvd_natAbs] at d1 d2 ⊢
  simpa using Nat.dvd_gcd d1 d2

set_option maxRecDepth 100000 in
theorem divs_long (w : World) (nx ny nz : Bool) (ax ay az : Option Addr) (n1 c1 n2 c2 n3 c3 : Nat) (h : ¬ (n1 ≤ 6 ∧ n2 ≤ 6 ∧ n3 ≤ 6)) :
    Calls Try.prog 11 #[.agg #[.bool nx, .slice ax n1 c1], .agg #[.bool ny, .slice ay n2 c2], .agg #[.bool nz, .slice az n3 c3]] w (RetV w (.bool true)) := by
  have hd : decide (n1 ≤ 6 ∧ n2 ≤ 6 ∧ n3 ≤ 6) = false := decide_eq_false h
  have HD := Lib.hid hd
  clear hd
  go_enter Try.func11, Try.ntmps11
  go_wp2_with fail
  refine (short3 _ _ ⟨nx, ax, n1, c1⟩ ⟨ny, ay, n2, c2⟩ ⟨nz, az, n3, c3⟩ 6 (heap_alloc4 _ _ _ _ _)).mono ?_
  rintro e w1 ⟨rfl, hb1⟩
  rw [show decide (Num.n ⟨nx, ax, n1, c1⟩ ≤ 6 ∧ Num.n ⟨ny, ay, n2, c2⟩ ≤ 6 ∧ Num.n ⟨nz, az, n3, c3⟩ ≤ 6) = false from HD.out]
  have hb2 : Below w.heap.size w w1 := Below.trans (by go_grown) (hb1.mono (by go_size))
  clear hb1
  go_wp2_with fail
  refine (awake_any _).mono ?_
  rintro e w2 ⟨rfl, hb3⟩
  go_wp2_with fail
  go_ret
  exact ⟨rfl, hb2.trans (hb3.mono hb2.size)⟩

set_option maxRecDepth 100000 in
set_option maxHeartbeats 4000000 in
theorem divs_short (w : World) (nx ny nz : Bool) (ax ay az : Option Addr) (n1 c1 n2 c2 n3 c3 : Nat) (zx zy zz : List Int) (hx : Sl w ax n1 c1 zx) (lx : Lim zx) (hy : Sl w ay n2 c2 zy) (ly : Lim zy) (hz : Sl w az n3 c3 zz) (lz : Lim zz) (h : n1 ≤ 6 ∧ n2 ≤ 6 ∧ n3 ≤ 6) :
    Calls Try.prog 11 #[.agg #[.bool nx, .slice ax n1 c1], .agg #[.bool ny, .slice ay n2 c2], .agg #[.bool nz, .slice az n3 c3]] w (RetV w (.bool true)) := by
  have hd : decide (n1 ≤ 6 ∧ n2 ≤ 6 ∧ n3 ≤ 6) = true := decide_eq_true h
  have HD := Lib.hid hd
  have HX := Lib.hid hx
  have HY := Lib.hid hy
  have HZ := Lib.hid hz
  clear hd hx hy hz
  go_enter Try.func11, Try.ntmps11
  go_wp2_with fail
  refine (short3 _ _ ⟨nx, ax, n1, c1⟩ ⟨ny, ay, n2, c2⟩ ⟨nz, az, n3, c3⟩ 6 (heap_alloc4 _ _ _ _ _)).mono ?_
  rintro e w1 ⟨rfl, hb1⟩
  rw [show decide (Num.n ⟨nx, ax, n1, c1⟩ ≤ 6 ∧ Num.n ⟨ny, ay, n2, c2⟩ ≤ 6 ∧ Num.n ⟨nz, az, n3, c3⟩ ≤ 6) = true from HD.out]
  have hf := FourO.below (show FourO w.heap.size ((((w.alloc (.cells #[.bool nx, .slice ax n1 c1] 24)).alloc (.cells #[.bool ny, .slice ay n2 c2] 24)).alloc (.cells #[.bool nz, .slice az n3 c3] 24)).alloc (.cells #[.bool nx, .slice ax n1 c1, .bool ny, .slice ay n2 c2, .bool nz, .slice az n3 c3] 24)) _ _ _ _ from FourO.made w _ _ _ _) hb1 (by go_size)
  have x0 := cell_of_row _ _ 0 _ 24 (0, 0) hf.1
  have x1 := cell_of_row _ _ 1 _ 24 (0, 0) hf.1
  have y0 := cell_of_row _ _ 0 _ 24 (0, 0) hf.2.1
  have y1 := cell_of_row _ _ 1 _ 24 (0, 0) hf.2.1
  have z0 := cell_of_row _ _ 0 _ 24 (0, 0) hf.2.2.1
  have z1 := cell_of_row _ _ 1 _ 24 (0, 0) hf.2.2.1
  simp at x0 x1 y0 y1 z0 z1
  clear hf
  have hb2 : Below w.heap.size w w1 := Below.trans (by go_grown) (hb1.mono (by go_size))
  clear hb1
  go_wp2_with fail
  refine (made3 _ w1.heap.size ⟨nx, ax, n1, c1⟩ ⟨ny, ay, n2, c2⟩ ⟨nz, az, n3, c3⟩ _ _ _ zx zy zz (heap_alloc_new _ _) ⟨HX.out.below (hb2.alloc hb2.size _), lx, rfl, by dsimp only; omega⟩ ⟨HY.out.below (hb2.alloc hb2.size _), ly, rfl, by dsimp only; omega⟩ ⟨HZ.out.below (hb2.alloc hb2.size _), lz, rfl, by dsimp only; omega⟩).mono ?_
  rintro e w2 ⟨g, cap, ⟨sx, bx, m1, k1⟩, ⟨sy, by', m2, k2⟩, ⟨sz, bz, m3, k3⟩, zr, zs, zt, rfl, hcap, hmx, ⟨g0, g1, g2, g3, g4, g5⟩, ix, iy, iz, lx1, ly1, lz1, hb3⟩
  dsimp only at g0 g1 g2 g3 g4 g5 ix iy iz lx1 ly1 lz1
  obtain ⟨X, hX⟩ : ∃ X, X = sgn nx (val zx) := ⟨_, rfl⟩
  obtain ⟨Y, hY⟩ : ∃ Y, Y = sgn ny (val zy) := ⟨_, rfl⟩
  obtain ⟨Z, hZ⟩ : ∃ Z, Z = sgn nz (val zz) := ⟨_, rfl⟩
  rw [← hX] at ix
  rw [← hY] at iy
  rw [← hZ] at iz
  have IX := Lib.hid ix
  have IY := Lib.hid iy
  have IZ := Lib.hid iz
  have HW := Lib.hid (show Below w.heap.size w w2 from (hb2.alloc hb2.size _).trans (hb3.mono (by have := hb2.size; simp; omega)))
  have hm1 : m1 ≤ 6 := by omega
  have hm2 : m2 ≤ 6 := by omega
  have hm3 : m3 ≤ 6 := by omega
  clear ix iy iz hX hY hZ hb2 hb3 x0 x1 y0 y1 z0 z1 HX HY HZ HD lx1 ly1 lz1 h
  go_wp2_with fail
  have hg : g < w2.heap.size := World.block_lt_of_cell? w2 _ g0
  have e0 : g ≠ w2.heap.size := by omega
  have e1 : g ≠ w2.heap.size + 1 := by omega
  have e2 : g ≠ w2.heap.size + 1 + 1 := by omega
  go_cut [8, 9, 10] (fun p q r wx => ∃ b1 b2 b3 : Nat, p = .pointer (some ⟨b1, 0, none⟩) ∧ q = .pointer (some ⟨b2, 0, none⟩) ∧ r = .pointer (some ⟨b3, 0, none⟩) ∧
    (wx.cell? ⟨b1, 0, none⟩ = some (.bool sx) ∧ wx.cell? ⟨b1, 1, none⟩ = some (.slice bx m1 k1) ∧ wx.cell? ⟨b2, 0, none⟩ = some (.bool sy) ∧ wx.cell? ⟨b2, 1, none⟩ = some (.slice by' m2 k2) ∧
      wx.cell? ⟨b3, 0, none⟩ = some (.bool sz) ∧ wx.cell? ⟨b3, 1, none⟩ = some (.slice bz m3 k3)) ∧ Below w2.heap.size w2 wx)
  case first =>
    go_region_held3 (fun w' => w'.cell? ⟨g, 0, none⟩ = some (.bool sx) ∧ w'.cell? ⟨g, 1, none⟩ = some (.slice bx m1 k1) ∧ w'.cell? ⟨g, 2, none⟩ = some (.bool sy) ∧ w'.cell? ⟨g, 3, none⟩ = some (.slice by' m2 k2) ∧ w'.cell? ⟨g, 4, none⟩ = some (.bool sz) ∧ w'.cell? ⟨g, 5, none⟩ = some (.slice bz m3 k3)) (((try dsimp only); (repeat' apply And.intro) <;> (first | (go_keep; done) | (simp (maxDischargeDepth := 12) [*, World.cell?_alloc_some]; done) | (simp (maxDischargeDepth := 12) [g0, g1, g2, g3, g4, g5, e0, e1, e2, e0.symm, e1.symm, e2.symm, World.cell?_alloc_some, World.cell?_setCell_far]; done)))) (fail)
    all_goals (go_wp2; go_meet; (refine ⟨_, _, _, rfl, rfl, rfl, ⟨?_, ?_, ?_, ?_, ?_, ?_⟩, ?_⟩ <;> first | (exact (cell_top _ _ _ _ _ _).1) | (exact (cell_top _ _ _ _ _ _).2) | (go_keep; done) | (exact ent3D _ _ _ _)))
  case rest =>
    obtain ⟨b1, b2, b3, rfl, rfl, rfl, ⟨q0, q1, q2, q3, q4, q5⟩, hbw⟩ := hcut
    have IX1 := Lib.hid (IX.out.below hbw)
    have IY1 := Lib.hid (IY.out.below hbw)
    have IZ1 := Lib.hid (IZ.out.below hbw)
    replace HW := Lib.hid (HW.out.trans (hbw.mono HW.out.size))
    clear IX IY IZ g0 g1 g2 g3 g4 g5 hg e0 e1 e2 hbw
    have Xc0 := q0
    have Xc1 := q1
    clear q0 q1
    have Xl : b1 < wc.heap.size := World.block_lt_of_cell? wc _ Xc0
    have Yc0 := q2
    have Yc1 := q3
    clear q2 q3
    have Yl : b2 < wc.heap.size := World.block_lt_of_cell? wc _ Yc0
    have Zc0 := q4
    have Zc1 := q5
    clear q4 q5
    have Zl : b3 < wc.heap.size := World.block_lt_of_cell? wc _ Zc0
    by_cases hy0 : Y = 0
    · subst hy0
      go_wp2_with fail
      refine (divide_zero _ sx sy bx by' m1 m2 k1 k2 zs IY1.out).mono ?_
      rintro e wg1 ⟨sq, aq, mq, kq, zq, sr, ar, mr, kr, zr', rfl, hIq, hIr, hmq, hmr, hbwg1⟩
      replace IX1 := Lib.hid (IX1.out.below hbwg1)
      replace IY1 := Lib.hid (IY1.out.below hbwg1)
      replace IZ1 := Lib.hid (IZ1.out.below hbwg1)
      replace Xc0 := (hbwg1.cell (p := ⟨b1, 0, none⟩) Xl).trans Xc0
      replace Xc1 := (hbwg1.cell (p := ⟨b1, 1, none⟩) Xl).trans Xc1
      replace Xl := Nat.lt_of_lt_of_le Xl hbwg1.size
      replace Yc0 := (hbwg1.cell (p := ⟨b2, 0, none⟩) Yl).trans Yc0
      replace Yc1 := (hbwg1.cell (p := ⟨b2, 1, none⟩) Yl).trans Yc1
      replace Yl := Nat.lt_of_lt_of_le Yl hbwg1.size
      replace Zc0 := (hbwg1.cell (p := ⟨b3, 0, none⟩) Zl).trans Zc0
      replace Zc1 := (hbwg1.cell (p := ⟨b3, 1, none⟩) Zl).trans Zc1
      replace Zl := Nat.lt_of_lt_of_le Zl hbwg1.size
      replace HW := Lib.hid (HW.out.trans (hbwg1.mono HW.out.size))
      have Iq := Lib.hid hIq
      clear hIq
      have Ir := Lib.hid hIr
      clear hIr
      clear hbwg1
      go_wp2_with fail
      obtain ⟨wg2, hwg2⟩ : ∃ wg2, wg2 = ((wg1.alloc (.cells #[.bool sq, .slice aq mq kq] 28)).alloc (.cells #[.bool sr, .slice ar mr kr] 28)) := ⟨_, rfl⟩
      have hbawg2 : Below wg1.heap.size wg1 wg2 := by rw [hwg2]; go_grown
      have hrBq : wg2.heap[wg1.heap.size]? = some (.cells #[.bool sq, .slice aq mq kq] 28 (0, 0)) := by rw [hwg2]; exact (heap_alloc2 wg1 _ _).2
      have hrBr : wg2.heap[wg1.heap.size + 1]? = some (.cells #[.bool sr, .slice ar mr kr] 28 (0, 0)) := by rw [hwg2]; exact (heap_alloc2 wg1 _ _).1
      rw [← hwg2]
      clear hwg2
      obtain ⟨Bqp, hBqp⟩ : ∃ p, p = wg1.heap.size := ⟨_, rfl⟩
      obtain ⟨Brp, hBrp⟩ : ∃ p, p = wg1.heap.size + 1 := ⟨_, rfl⟩
      rw [← hBrp] at hrBr ⊢
      rw [← hBqp] at hrBq ⊢
      obtain ⟨Bqc0, Bqc1, -, -⟩ := blk2 hrBq
      have Bql : Bqp < wg2.heap.size := World.block_lt_of_cell? _ _ Bqc0
      clear hBqp hrBq
      obtain ⟨Brc0, Brc1, -, -⟩ := blk2 hrBr
      have Brl : Brp < wg2.heap.size := World.block_lt_of_cell? _ _ Brc0
      clear hBrp hrBr
      replace IX1 := Lib.hid (IX1.out.below hbawg2)
      replace IY1 := Lib.hid (IY1.out.below hbawg2)
      replace IZ1 := Lib.hid (IZ1.out.below hbawg2)
      replace Iq := Lib.hid (Iq.out.below hbawg2)
      replace Ir := Lib.hid (Ir.out.below hbawg2)
      replace Xc0 := (hbawg2.cell (p := ⟨b1, 0, none⟩) Xl).trans Xc0
      replace Xc1 := (hbawg2.cell (p := ⟨b1, 1, none⟩) Xl).trans Xc1
      replace Xl := Nat.lt_of_lt_of_le Xl hbawg2.size
      replace Yc0 := (hbawg2.cell (p := ⟨b2, 0, none⟩) Yl).trans Yc0
      replace Yc1 := (hbawg2.cell (p := ⟨b2, 1, none⟩) Yl).trans Yc1
      replace Yl := Nat.lt_of_lt_of_le Yl hbawg2.size
      replace Zc0 := (hbawg2.cell (p := ⟨b3, 0, none⟩) Zl).trans Zc0
      replace Zc1 := (hbawg2.cell (p := ⟨b3, 1, none⟩) Zl).trans Zc1
      replace Zl := Nat.lt_of_lt_of_le Zl hbawg2.size
      replace HW := Lib.hid (HW.out.trans (hbawg2.mono HW.out.size))
      clear hbawg2
      refine (sign_is _ sy by' m2 k2 zs 0 0 IY1.out (cmpI_eq rfl)).mono ?_
      rintro e wg3 ⟨rfl, hbwg3⟩
      replace IX1 := Lib.hid (IX1.out.below hbwg3)
      replace IY1 := Lib.hid (IY1.out.below hbwg3)
      replace IZ1 := Lib.hid (IZ1.out.below hbwg3)
      replace Iq := Lib.hid (Iq.out.below hbwg3)
      replace Ir := Lib.hid (Ir.out.below hbwg3)
      replace Xc0 := (hbwg3.cell (p := ⟨b1, 0, none⟩) Xl).trans Xc0
      replace Xc1 := (hbwg3.cell (p := ⟨b1, 1, none⟩) Xl).trans Xc1
      replace Xl := Nat.lt_of_lt_of_le Xl hbwg3.size
      replace Yc0 := (hbwg3.cell (p := ⟨b2, 0, none⟩) Yl).trans Yc0
      replace Yc1 := (hbwg3.cell (p := ⟨b2, 1, none⟩) Yl).trans Yc1
      replace Yl := Nat.lt_of_lt_of_le Yl hbwg3.size
      replace Zc0 := (hbwg3.cell (p := ⟨b3, 0, none⟩) Zl).trans Zc0
      replace Zc1 := (hbwg3.cell (p := ⟨b3, 1, none⟩) Zl).trans Zc1
      replace Zl := Nat.lt_of_lt_of_le Zl hbwg3.size
      replace Bqc0 := (hbwg3.cell (p := ⟨Bqp, 0, none⟩) Bql).trans Bqc0
      replace Bqc1 := (hbwg3.cell (p := ⟨Bqp, 1, none⟩) Bql).trans Bqc1
      replace Bql := Nat.lt_of_lt_of_le Bql hbwg3.size
      replace Brc0 := (hbwg3.cell (p := ⟨Brp, 0, none⟩) Brl).trans Brc0
      replace Brc1 := (hbwg3.cell (p := ⟨Brp, 1, none⟩) Brl).trans Brc1
      replace Brl := Nat.lt_of_lt_of_le Brl hbwg3.size
      replace HW := Lib.hid (HW.out.trans (hbwg3.mono HW.out.size))
      clear hbwg3
      go_wp2_with fail
      refine (awake_any _).mono ?_
      rintro e we ⟨rfl, hbe⟩
      go_wp2_with fail
      go_ret
      exact ⟨rfl, HW.out.trans (hbe.mono HW.out.size)⟩
    · skip
      have HY0 := Lib.hid hy0
      clear hy0
      go_wp2_with fail
      refine (divide_int _ sx sy bx by' m1 m2 k1 k2 zr zs X Y IX1.out IY1.out HY0.out (by omega)).mono ?_
      rintro e wg4 ⟨sq, aq, mq, kq, zq, sR, aR, mR, kR, zR, rfl, hIq, hmq, hIR, hmR, hbwg4⟩
      replace IX1 := Lib.hid (IX1.out.below hbwg4)
      replace IY1 := Lib.hid (IY1.out.below hbwg4)
      replace IZ1 := Lib.hid (IZ1.out.below hbwg4)
      replace Xc0 := (hbwg4.cell (p := ⟨b1, 0, none⟩) Xl).trans Xc0
      replace Xc1 := (hbwg4.cell (p := ⟨b1, 1, none⟩) Xl).trans Xc1
      replace Xl := Nat.lt_of_lt_of_le Xl hbwg4.size
      replace Yc0 := (hbwg4.cell (p := ⟨b2, 0, none⟩) Yl).trans Yc0
      replace Yc1 := (hbwg4.cell (p := ⟨b2, 1, none⟩) Yl).trans Yc1
      replace Yl := Nat.lt_of_lt_of_le Yl hbwg4.size
      replace Zc0 := (hbwg4.cell (p := ⟨b3, 0, none⟩) Zl).trans Zc0
      replace Zc1 := (hbwg4.cell (p := ⟨b3, 1, none⟩) Zl).trans Zc1
      replace Zl := Nat.lt_of_lt_of_le Zl hbwg4.size
      replace HW := Lib.hid (HW.out.trans (hbwg4.mono HW.out.size))
      have Iq := Lib.hid hIq
      clear hIq
      have IR := Lib.hid hIR
      clear hIR
      clear hbwg4
      obtain ⟨cy, hcy⟩ : ∃ c, cmpI Y 0 = c := ⟨_, rfl⟩
      have hcy0 := sign_not hcy HY0.out
      have HCY := Lib.hid hcy
      clear hcy
      go_wp2_with fail
      obtain ⟨wg5, hwg5⟩ : ∃ wg5, wg5 = ((wg4.alloc (.cells #[.bool sq, .slice aq mq kq] 28)).alloc (.cells #[.bool sR, .slice aR mR kR] 28)) := ⟨_, rfl⟩
      have hbawg5 : Below wg4.heap.size wg4 wg5 := by rw [hwg5]; go_grown
      have hrBq : wg5.heap[wg4.heap.size]? = some (.cells #[.bool sq, .slice aq mq kq] 28 (0, 0)) := by rw [hwg5]; exact (heap_alloc2 wg4 _ _).2
      have hrBR : wg5.heap[wg4.heap.size + 1]? = some (.cells #[.bool sR, .slice aR mR kR] 28 (0, 0)) := by rw [hwg5]; exact (heap_alloc2 wg4 _ _).1
      rw [← hwg5]
      clear hwg5
      obtain ⟨Bqp, hBqp⟩ : ∃ p, p = wg4.heap.size := ⟨_, rfl⟩
      obtain ⟨BRp, hBRp⟩ : ∃ p, p = wg4.heap.size + 1 := ⟨_, rfl⟩
      rw [← hBRp] at hrBR ⊢
      rw [← hBqp] at hrBq ⊢
      obtain ⟨Bqc0, Bqc1, -, -⟩ := blk2 hrBq
      have Bql : Bqp < wg5.heap.size := World.block_lt_of_cell? _ _ Bqc0
      clear hBqp hrBq
      obtain ⟨BRc0, BRc1, -, -⟩ := blk2 hrBR
      have BRl : BRp < wg5.heap.size := World.block_lt_of_cell? _ _ BRc0
      clear hBRp hrBR
      replace IX1 := Lib.hid (IX1.out.below hbawg5)
      replace IY1 := Lib.hid (IY1.out.below hbawg5)
      replace IZ1 := Lib.hid (IZ1.out.below hbawg5)
      replace Iq := Lib.hid (Iq.out.below hbawg5)
      replace IR := Lib.hid (IR.out.below hbawg5)
      replace Xc0 := (hbawg5.cell (p := ⟨b1, 0, none⟩) Xl).trans Xc0
      replace Xc1 := (hbawg5.cell (p := ⟨b1, 1, none⟩) Xl).trans Xc1
      replace Xl := Nat.lt_of_lt_of_le Xl hbawg5.size
      replace Yc0 := (hbawg5.cell (p := ⟨b2, 0, none⟩) Yl).trans Yc0
      replace Yc1 := (hbawg5.cell (p := ⟨b2, 1, none⟩) Yl).trans Yc1
      replace Yl := Nat.lt_of_lt_of_le Yl hbawg5.size
      replace Zc0 := (hbawg5.cell (p := ⟨b3, 0, none⟩) Zl).trans Zc0
      replace Zc1 := (hbawg5.cell (p := ⟨b3, 1, none⟩) Zl).trans Zc1
      replace Zl := Nat.lt_of_lt_of_le Zl hbawg5.size
      replace HW := Lib.hid (HW.out.trans (hbawg5.mono HW.out.size))
      clear hbawg5
      refine (sign_is _ sy by' m2 k2 zs Y cy IY1.out HCY.out).mono ?_
      rintro e wg6 ⟨rfl, hbwg6⟩
      replace IX1 := Lib.hid (IX1.out.below hbwg6)
      replace IY1 := Lib.hid (IY1.out.below hbwg6)
      replace IZ1 := Lib.hid (IZ1.out.below hbwg6)
      replace Iq := Lib.hid (Iq.out.below hbwg6)
      replace IR := Lib.hid (IR.out.below hbwg6)
      replace Xc0 := (hbwg6.cell (p := ⟨b1, 0, none⟩) Xl).trans Xc0
      replace Xc1 := (hbwg6.cell (p := ⟨b1, 1, none⟩) Xl).trans Xc1
      replace Xl := Nat.lt_of_lt_of_le Xl hbwg6.size
      replace Yc0 := (hbwg6.cell (p := ⟨b2, 0, none⟩) Yl).trans Yc0
      replace Yc1 := (hbwg6.cell (p := ⟨b2, 1, none⟩) Yl).trans Yc1
      replace Yl := Nat.lt_of_lt_of_le Yl hbwg6.size
      replace Zc0 := (hbwg6.cell (p := ⟨b3, 0, none⟩) Zl).trans Zc0
      replace Zc1 := (hbwg6.cell (p := ⟨b3, 1, none⟩) Zl).trans Zc1
      replace Zl := Nat.lt_of_lt_of_le Zl hbwg6.size
      replace Bqc0 := (hbwg6.cell (p := ⟨Bqp, 0, none⟩) Bql).trans Bqc0
      replace Bqc1 := (hbwg6.cell (p := ⟨Bqp, 1, none⟩) Bql).trans Bqc1
      replace Bql := Nat.lt_of_lt_of_le Bql hbwg6.size
      replace BRc0 := (hbwg6.cell (p := ⟨BRp, 0, none⟩) BRl).trans BRc0
      replace BRc1 := (hbwg6.cell (p := ⟨BRp, 1, none⟩) BRl).trans BRc1
      replace BRl := Nat.lt_of_lt_of_le BRl hbwg6.size
      replace HW := Lib.hid (HW.out.trans (hbwg6.mono HW.out.size))
      clear hbwg6
      go_wp2_with fail
      have HKP : Hid (∀ w', Below wg6.heap.size wg6 w' → (w'.cell? ⟨b1, 0, none⟩ = some (.bool sx) ∧ w'.cell? ⟨b1, 1, none⟩ = some (.slice bx m1 k1) ∧ w'.cell? ⟨b2, 0, none⟩ = some (.bool sy) ∧ w'.cell? ⟨b2, 1, none⟩ = some (.slice by' m2 k2) ∧ w'.cell? ⟨Bqp, 0, none⟩ = some (.bool sq) ∧ w'.cell? ⟨Bqp, 1, none⟩ = some (.slice aq mq kq) ∧ w'.cell? ⟨BRp, 0, none⟩ = some (.bool sR) ∧ w'.cell? ⟨BRp, 1, none⟩ = some (.slice aR mR kR))) := Lib.hid (fun w' hb => ⟨(hb.cell (p := ⟨b1, 0, none⟩) Xl).trans Xc0, (hb.cell (p := ⟨b1, 1, none⟩) Xl).trans Xc1, (hb.cell (p := ⟨b2, 0, none⟩) Yl).trans Yc0, (hb.cell (p := ⟨b2, 1, none⟩) Yl).trans Yc1, (hb.cell (p := ⟨Bqp, 0, none⟩) Bql).trans Bqc0, (hb.cell (p := ⟨Bqp, 1, none⟩) Bql).trans Bqc1, (hb.cell (p := ⟨BRp, 0, none⟩) BRl).trans BRc0, (hb.cell (p := ⟨BRp, 1, none⟩) BRl).trans BRc1⟩)
      go_cut [96] (fun b wx => b = .bool false ∧ Below wg6.heap.size wg6 wx)
      case first =>
        rcases sign_three (X.tmod Y) with ⟨hR, hR0⟩ | ⟨hR, hR0⟩ | ⟨hR, hR0⟩
        · have HR0 := Lib.hid hR0
          clear hR hR0
          as_aux_lemma =>
            refine wp_region_noPanic ?_
            refine wp_region_held_drew (S := (fun w' => w'.cell? ⟨b1, 0, none⟩ = some (.bool sx) ∧ w'.cell? ⟨b1, 1, none⟩ = some (.slice bx m1 k1) ∧ w'.cell? ⟨b2, 0, none⟩ = some (.bool sy) ∧ w'.cell? ⟨b2, 1, none⟩ = some (.slice by' m2 k2) ∧ w'.cell? ⟨Bqp, 0, none⟩ = some (.bool sq) ∧ w'.cell? ⟨Bqp, 1, none⟩ = some (.slice aq mq kq) ∧ w'.cell? ⟨BRp, 0, none⟩ = some (.bool sR) ∧ w'.cell? ⟨BRp, 1, none⟩ = some (.slice aR mR kR))) (by kernel_rfl) ?_ (fun hH0 => ?_)
            · exact HKP.out _ (Below.refl _ _).drew
            refine wpAnyH_take (i := 0) (oi := ({ dst := some 65, op := Op.move (Operand.tmp 13), type := 44, pos := "more.go:52", after := #[], guard := none } : Oper)) (v := ?_) rfl (by kernel_rfl) (by kernel_rfl) (by kernel_rfl) (fun _ _ _ h => h) (Or.inl ⟨by rfl, ?_⟩) (by assumption) ?_
            rotate_left
            · (intro w hSw; (try dsimp only at hSw); go_simp; try with_reducible rfl)
            (try simp only [Act.put, List.setIfInBounds_toArray, List.set_cons_zero, List.set_cons_succ])
            refine wpAnyH_take (i := 1) (oi := ({ dst := some 66, op := Op.binOp BinOp.neq 44 (Operand.tmp 65) (Operand.const (Value.int IntKind.i64 0)) 44, type := 4, pos := "more.go:52", after := #[{ on := 0, ground := Ground.data }], guard := none } : Oper)) (v := ?_) rfl (by kernel_rfl) (by kernel_rfl) (by kernel_rfl) (fun _ _ _ h => h) (Or.inl ⟨by rfl, ?_⟩) (by assumption) ?_
            rotate_left
            · (intro w hSw; (try dsimp only at hSw); go_simp; try with_reducible rfl)
            (try simp only [Act.put, List.setIfInBounds_toArray, List.set_cons_zero, List.set_cons_succ])
            refine wpAnyH_take (i := 2) (oi := ({ dst := some 67, op := Op.move (Operand.tmp 66), type := 4, pos := "more.go:52", after := #[{ on := 1, ground := Ground.data }], guard := none } : Oper)) (v := ?_) rfl (by kernel_rfl) (by kernel_rfl) (by kernel_rfl) (fun _ _ _ h => h) (Or.inl ⟨by rfl, ?_⟩) (by assumption) ?_
            rotate_left
            · (intro w hSw; (try dsimp only at hSw); go_simp; try with_reducible rfl)
            (try simp only [Act.put, List.setIfInBounds_toArray, List.set_cons_zero, List.set_cons_succ])
            refine wpAnyH_take (i := 3) (oi := ({ dst := some 68, op := Op.load 28 (Operand.tmp 9), type := 28, pos := "more.go:52", after := #[{ on := 2, ground := Ground.guard }], guard := some (2, false) } : Oper)) (v := ?_) rfl (by kernel_rfl) (by kernel_rfl) (by kernel_rfl) (fun _ _ _ h => h) (Or.inl ⟨by rfl, ?_⟩) (by assumption) ?_
            rotate_left
            · (intro w hSw; (try dsimp only at hSw); go_simp; try with_reducible rfl)
            (try simp only [Act.put, List.setIfInBounds_toArray, List.set_cons_zero, List.set_cons_succ])
            refine wpAnyH_take (i := 4) (oi := ({ dst := some 69, op := Op.load 28 (Operand.tmp 11), type := 28, pos := "more.go:52", after := #[{ on := 2, ground := Ground.guard }], guard := some (2, false) } : Oper)) (v := ?_) rfl (by kernel_rfl) (by kernel_rfl) (by kernel_rfl) (fun _ _ _ h => h) (Or.inl ⟨by rfl, ?_⟩) (by assumption) ?_
            rotate_left
            · (intro w hSw; (try dsimp only at hSw); go_simp; try with_reducible rfl)
            (try simp only [Act.put, List.setIfInBounds_toArray, List.set_cons_zero, List.set_cons_succ])
            refine wpAnyH_take (i := 6) (oi := ({ dst := some 71, op := Op.load 28 (Operand.tmp 12), type := 28, pos := "more.go:52", after := #[{ on := 2, ground := Ground.guard }], guard := some (2, false) } : Oper)) (v := ?_) rfl (by kernel_rfl) (by kernel_rfl) (by kernel_rfl) (fun _ _ _ h => h) (Or.inl ⟨by rfl, ?_⟩) (by assumption) ?_
            rotate_left
            · (intro w hSw; (try dsimp only at hSw); go_simp; try with_reducible rfl)
            (try simp only [Act.put, List.setIfInBounds_toArray, List.set_cons_zero, List.set_cons_succ])
            refine wpAnyH_take (i := 8) (oi := ({ dst := some 73, op := Op.load 28 (Operand.tmp 8), type := 28, pos := "more.go:52", after := #[{ on := 2, ground := Ground.guard }], guard := some (2, false) } : Oper)) (v := ?_) rfl (by kernel_rfl) (by kernel_rfl) (by kernel_rfl) (fun _ _ _ h => h) (Or.inl ⟨by rfl, ?_⟩) (by assumption) ?_
            rotate_left
            · (intro w hSw; (try dsimp only at hSw); go_simp; try with_reducible rfl)
            (try simp only [Act.put, List.setIfInBounds_toArray, List.set_cons_zero, List.set_cons_succ])
            refine wpAnyH_ready (rs := [5]) (by kernel_rfl) (by simp) ?_
            refine AllReadyH.cons (o := ({ dst := some 70, op := Op.call { callee := Callee.value (Operand.func 42), args := #[Operand.tmp 68, Operand.tmp 69], argTypes := #[28, 28] }, type := 28, pos := "more.go:52", after := #[{ on := 3, ground := Ground.data }, { on := 4, ground := Ground.data }, { on := 2, ground := Ground.chain }, { on := 2, ground := Ground.guard }], guard := some (2, false) } : Oper)) rfl (fun K hK => ?_) AllReadyH.nil
            go_simp
            refine (mul_int _ sy sq by' aq m2 mq k2 kq zs zq Y (X.tdiv Y) (IY1.out.below (Below.refl _ _).drew) (Iq.out.below (Below.refl _ _).drew) (by omega) (by omega)).mono ?_
            rintro e v1 ⟨sp8, ap8, mp8, kp8, zp8, rfl, hIp8, hmp8, u1⟩
            have X1 : Below wg6.heap.size wg6 v1 := (Below.refl _ _).drew.trans u1
            have Ip8 := Lib.hid hIp8
            clear hIp8
            clear u1
            refine hK.out _ _ ?_ (fun hH1 => ?_)
            · exact HKP.out _ X1
            clear hK K hH0
            (try simp only [Act.put, List.setIfInBounds_toArray, List.set_cons_zero, List.set_cons_succ])
            refine wpAnyH_ready (rs := [7]) (by kernel_rfl) (by simp) ?_
            refine AllReadyH.cons (o := ({ dst := some 72, op := Op.call { callee := Callee.value (Operand.func 38), args := #[Operand.tmp 70, Operand.tmp 71], argTypes := #[28, 28] }, type := 28, pos := "more.go:52", after := #[{ on := 5, ground := Ground.data }, { on := 6, ground := Ground.data }, { on := 5, ground := Ground.chain }, { on := 2, ground := Ground.guard }], guard := some (2, false) } : Oper)) rfl (fun K hK => ?_) AllReadyH.nil
            go_simp
            refine (add_int _ sp8 sR ap8 aR mp8 mR kp8 kR zp8 zR (Y * X.tdiv Y) (X.tmod Y) Ip8.out (IR.out.below X1) (by omega) (by omega)).mono ?_
            rintro e v2 ⟨ss8, as8, ms8, ks8, zs8, rfl, hIs8, hms8, u2⟩
            have X2 : Below wg6.heap.size wg6 v2 := X1.trans (u2.mono X1.size)
            clear Ip8
            have Is8 := Lib.hid hIs8
            clear hIs8
            clear u2
            refine hK.out _ _ ?_ (fun hH2 => ?_)
            · exact HKP.out _ X2
            clear hK K hH1
            (try simp only [Act.put, List.setIfInBounds_toArray, List.set_cons_zero, List.set_cons_succ])
            refine wpAnyH_ready (rs := [9]) (by kernel_rfl) (by simp) ?_
            refine AllReadyH.cons (o := ({ dst := some 74, op := Op.call { callee := Callee.value (Operand.func 65), args := #[Operand.tmp 72, Operand.tmp 73], argTypes := #[28, 28] }, type := 4, pos := "more.go:52", after := #[{ on := 7, ground := Ground.data }, { on := 8, ground := Ground.data }, { on := 7, ground := Ground.chain }, { on := 2, ground := Ground.guard }], guard := some (2, false) } : Oper)) rfl (fun K hK => ?_) AllReadyH.nil
            go_simp
            refine (same_yes Is8.out (IX1.out.below X2) (Int.mul_tdiv_add_tmod X Y)).mono ?_
            rintro e v3 ⟨rfl, u3⟩
            have X3 : Below wg6.heap.size wg6 v3 := X2.trans (u3.mono X2.size)
            clear Is8
            clear u3
            refine hK.out _ _ ?_ (fun hH3 => ?_)
            · exact HKP.out _ X3
            clear hK K hH2
            (try simp only [Act.put, List.setIfInBounds_toArray, List.set_cons_zero, List.set_cons_succ])
            refine wpAnyH_take (i := 10) (oi := ({ dst := some 75, op := Op.unOp UnOp.not 4 (Operand.tmp 74), type := 4, pos := "more.go:52", after := #[{ on := 9, ground := Ground.data }, { on := 2, ground := Ground.guard }], guard := some (2, false) } : Oper)) (v := ?_) rfl (by kernel_rfl) (by kernel_rfl) (by kernel_rfl) (fun _ _ _ h => h) (Or.inl ⟨by rfl, ?_⟩) (by assumption) ?_
            rotate_left
            · (intro w hSw; (try dsimp only at hSw); go_simp; try with_reducible rfl)
            (try simp only [Act.put, List.setIfInBounds_toArray, List.set_cons_zero, List.set_cons_succ])
            refine wpAnyH_take (i := 11) (oi := ({ dst := some 76, op := Op.pick (Operand.tmp 67) (Operand.const (Value.bool true)) (Operand.tmp 75), type := 4, pos := "more.go:52", after := #[{ on := 2, ground := Ground.data }, { on := 10, ground := Ground.data }], guard := none } : Oper)) (v := ?_) rfl (by kernel_rfl) (by kernel_rfl) (by kernel_rfl) (fun _ _ _ h => h) (Or.inl ⟨by rfl, ?_⟩) (by assumption) ?_
            rotate_left
            · (intro w hSw; (try dsimp only at hSw); go_simp; try with_reducible rfl)
            (try simp only [Act.put, List.setIfInBounds_toArray, List.set_cons_zero, List.set_cons_succ])
            refine wpAnyH_take (i := 12) (oi := ({ dst := some 77, op := Op.move (Operand.tmp 76), type := 4, pos := "more.go:52", after := #[{ on := 11, ground := Ground.data }, { on := 9, ground := Ground.chain }], guard := none } : Oper)) (v := ?_) rfl (by kernel_rfl) (by kernel_rfl) (by kernel_rfl) (fun _ _ _ h => h) (Or.inl ⟨by rfl, ?_⟩) (by assumption) ?_
            rotate_left
            · (intro w hSw; (try dsimp only at hSw); go_simp; try with_reducible rfl)
            (try simp only [Act.put, List.setIfInBounds_toArray, List.set_cons_zero, List.set_cons_succ])
            refine wpAnyH_take (i := 13) (oi := ({ dst := some 78, op := Op.load 28 (Operand.tmp 12), type := 28, pos := "more.go:52", after := #[{ on := 12, ground := Ground.guard }], guard := some (12, false) } : Oper)) (v := ?_) rfl (by kernel_rfl) (by kernel_rfl) (by kernel_rfl) (fun _ _ _ h => h) (Or.inl ⟨by rfl, ?_⟩) (by assumption) ?_
            rotate_left
            · (intro w hSw; (try dsimp only at hSw); go_simp; try with_reducible rfl)
            (try simp only [Act.put, List.setIfInBounds_toArray, List.set_cons_zero, List.set_cons_succ])
            refine wpAnyH_take (i := 15) (oi := ({ dst := some 80, op := Op.load 28 (Operand.tmp 9), type := 28, pos := "more.go:52", after := #[{ on := 12, ground := Ground.guard }], guard := some (12, false) } : Oper)) (v := ?_) rfl (by kernel_rfl) (by kernel_rfl) (by kernel_rfl) (fun _ _ _ h => h) (Or.inl ⟨by rfl, ?_⟩) (by assumption) ?_
            rotate_left
            · (intro w hSw; (try dsimp only at hSw); go_simp; try with_reducible rfl)
            (try simp only [Act.put, List.setIfInBounds_toArray, List.set_cons_zero, List.set_cons_succ])
            refine wpAnyH_ready (rs := [14]) (by kernel_rfl) (by simp) ?_
            refine AllReadyH.cons (o := ({ dst := some 79, op := Op.call { callee := Callee.value (Operand.func 36), args := #[Operand.tmp 78], argTypes := #[28] }, type := 28, pos := "more.go:52", after := #[{ on := 13, ground := Ground.data }, { on := 12, ground := Ground.chain }, { on := 12, ground := Ground.guard }], guard := some (12, false) } : Oper)) rfl (fun K hK => ?_) AllReadyH.nil
            go_simp
            refine (absI _ sR aR mR kR zR (X.tmod Y) (IR.out.below X3) (by omega)).mono ?_
            rintro e v4 ⟨sar8, aar8, mar8, kar8, zar8, rfl, hIar8, hmar8, u4⟩
            have X4 : Below wg6.heap.size wg6 v4 := X3.trans (u4.mono X3.size)
            have Iar8 := Lib.hid hIar8
            clear hIar8
            clear u4
            refine hK.out _ _ ?_ (fun hH4 => ?_)
            · exact HKP.out _ X4
            clear hK K hH3
            (try simp only [Act.put, List.setIfInBounds_toArray, List.set_cons_zero, List.set_cons_succ])
            refine wpAnyH_ready (rs := [16]) (by kernel_rfl) (by simp) ?_
            refine AllReadyH.cons (o := ({ dst := some 81, op := Op.call { callee := Callee.value (Operand.func 36), args := #[Operand.tmp 80], argTypes := #[28] }, type := 28, pos := "more.go:52", after := #[{ on := 15, ground := Ground.data }, { on := 14, ground := Ground.chain }, { on := 12, ground := Ground.guard }], guard := some (12, false) } : Oper)) rfl (fun K hK => ?_) AllReadyH.nil
            go_simp
            refine (absI _ sy by' m2 k2 zs Y (IY1.out.below X4) (by omega)).mono ?_
            rintro e v5 ⟨say8, aay8, may8, kay8, zay8, rfl, hIay8, hmay8, u5⟩
            have X5 : Below wg6.heap.size wg6 v5 := X4.trans (u5.mono X4.size)
            replace Iar8 := Lib.hid (Iar8.out.below u5)
            have Iay8 := Lib.hid hIay8
            clear hIay8
            clear u5
            refine hK.out _ _ ?_ (fun hH5 => ?_)
            · exact HKP.out _ X5
            clear hK K hH4
            (try simp only [Act.put, List.setIfInBounds_toArray, List.set_cons_zero, List.set_cons_succ])
            refine wpAnyH_ready (rs := [17]) (by kernel_rfl) (by simp) ?_
            refine AllReadyH.cons (o := ({ dst := some 82, op := Op.call { callee := Callee.value (Operand.func 32), args := #[Operand.tmp 79, Operand.tmp 81], argTypes := #[28, 28] }, type := 3, pos := "more.go:52", after := #[{ on := 14, ground := Ground.data }, { on := 16, ground := Ground.data }, { on := 16, ground := Ground.chain }, { on := 12, ground := Ground.guard }], guard := some (12, false) } : Oper)) rfl (fun K hK => ?_) AllReadyH.nil
            go_simp
            refine (cmpI_is _ sar8 say8 aar8 aay8 mar8 may8 kar8 kay8 zar8 zay8 ((X.tmod Y).natAbs : Int) (Y.natAbs : Int) (-1) Iar8.out Iay8.out (rem_small HY0.out)).mono ?_
            rintro e v6 ⟨rfl, u6⟩
            have X6 : Below wg6.heap.size wg6 v6 := X5.trans (u6.mono X5.size)
            clear Iar8
            clear Iay8
            clear u6
            refine hK.out _ _ ?_ (fun hH6 => ?_)
            · exact HKP.out _ X6
            clear hK K hH5
            (try simp only [Act.put, List.setIfInBounds_toArray, List.set_cons_zero, List.set_cons_succ])
            refine wpAnyH_take (i := 18) (oi := ({ dst := some 83, op := Op.binOp BinOp.geq 3 (Operand.tmp 82) (Operand.const (Value.int IntKind.i64 0)) 3, type := 4, pos := "more.go:52", after := #[{ on := 17, ground := Ground.data }, { on := 12, ground := Ground.guard }], guard := some (12, false) } : Oper)) (v := ?_) rfl (by kernel_rfl) (by kernel_rfl) (by kernel_rfl) (fun _ _ _ h => h) (Or.inl ⟨by rfl, ?_⟩) (by assumption) ?_
            rotate_left
            · (intro w hSw; (try dsimp only at hSw); go_simp; try with_reducible rfl)
            (try simp only [Act.put, List.setIfInBounds_toArray, List.set_cons_zero, List.set_cons_succ])
            refine wpAnyH_take (i := 19) (oi := ({ dst := some 84, op := Op.pick (Operand.tmp 77) (Operand.const (Value.bool true)) (Operand.tmp 83), type := 4, pos := "more.go:52", after := #[{ on := 12, ground := Ground.data }, { on := 18, ground := Ground.data }], guard := none } : Oper)) (v := ?_) rfl (by kernel_rfl) (by kernel_rfl) (by kernel_rfl) (fun _ _ _ h => h) (Or.inl ⟨by rfl, ?_⟩) (by assumption) ?_
            rotate_left
            · (intro w hSw; (try dsimp only at hSw); go_simp; try with_reducible rfl)
            (try simp only [Act.put, List.setIfInBounds_toArray, List.set_cons_zero, List.set_cons_succ])
            refine wpAnyH_take (i := 20) (oi := ({ dst := some 85, op := Op.move (Operand.tmp 84), type := 4, pos := "more.go:52", after := #[{ on := 19, ground := Ground.data }, { on := 17, ground := Ground.chain }], guard := none } : Oper)) (v := ?_) rfl (by kernel_rfl) (by kernel_rfl) (by kernel_rfl) (fun _ _ _ h => h) (Or.inl ⟨by rfl, ?_⟩) (by assumption) ?_
            rotate_left
            · (intro w hSw; (try dsimp only at hSw); go_simp; try with_reducible rfl)
            (try simp only [Act.put, List.setIfInBounds_toArray, List.set_cons_zero, List.set_cons_succ])
            refine wpAnyH_take (i := 21) (oi := ({ dst := some 86, op := Op.load 28 (Operand.tmp 12), type := 28, pos := "more.go:52", after := #[{ on := 20, ground := Ground.guard }], guard := some (20, false) } : Oper)) (v := ?_) rfl (by kernel_rfl) (by kernel_rfl) (by kernel_rfl) (fun _ _ _ h => h) (Or.inl ⟨by rfl, ?_⟩) (by assumption) ?_
            rotate_left
            · (intro w hSw; (try dsimp only at hSw); go_simp; try with_reducible rfl)
            (try simp only [Act.put, List.setIfInBounds_toArray, List.set_cons_zero, List.set_cons_succ])
            refine wpAnyH_ready (rs := [22]) (by kernel_rfl) (by simp) ?_
            refine AllReadyH.cons (o := ({ dst := some 87, op := Op.call { callee := Callee.value (Operand.func 22), args := #[Operand.tmp 86], argTypes := #[28] }, type := 3, pos := "more.go:52", after := #[{ on := 21, ground := Ground.data }, { on := 20, ground := Ground.chain }, { on := 20, ground := Ground.guard }], guard := some (20, false) } : Oper)) rfl (fun K hK => ?_) AllReadyH.nil
            go_simp
            refine (sign_is _ sR aR mR kR zR (X.tmod Y) 0 (IR.out.below X6) (cmpI_eq HR0.out)).mono ?_
            rintro e v7 ⟨rfl, u7⟩
            have X7 : Below wg6.heap.size wg6 v7 := X6.trans (u7.mono X6.size)
            clear u7
            refine hK.out _ _ ?_ (fun hH7 => ?_)
            · exact HKP.out _ X7
            clear hK K hH6
            (try simp only [Act.put, List.setIfInBounds_toArray, List.set_cons_zero, List.set_cons_succ])
            refine wpAnyH_take (i := 23) (oi := ({ dst := some 88, op := Op.binOp BinOp.neq 3 (Operand.tmp 87) (Operand.const (Value.int IntKind.i64 0)) 3, type := 4, pos := "more.go:52", after := #[{ on := 22, ground := Ground.data }, { on := 20, ground := Ground.guard }], guard := some (20, false) } : Oper)) (v := ?_) rfl (by kernel_rfl) (by kernel_rfl) (by kernel_rfl) (fun _ _ _ h => h) (Or.inl ⟨by rfl, ?_⟩) (by assumption) ?_
            rotate_left
            · (intro w hSw; (try dsimp only at hSw); go_simp; try with_reducible rfl)
            (try simp only [Act.put, List.setIfInBounds_toArray, List.set_cons_zero, List.set_cons_succ])
            refine wpAnyH_take (i := 24) (oi := ({ dst := some 89, op := Op.move (Operand.tmp 88), type := 4, pos := "more.go:52", after := #[{ on := 23, ground := Ground.data }, { on := 22, ground := Ground.chain }, { on := 20, ground := Ground.guard }], guard := some (20, false) } : Oper)) (v := ?_) rfl (by kernel_rfl) (by kernel_rfl) (by kernel_rfl) (fun _ _ _ h => h) (Or.inl ⟨by rfl, ?_⟩) (by assumption) ?_
            rotate_left
            · (intro w hSw; (try dsimp only at hSw); go_simp; try with_reducible rfl)
            (try simp only [Act.put, List.setIfInBounds_toArray, List.set_cons_zero, List.set_cons_succ])
            refine wpAnyH_take (i := 25) (oi := ({ dst := some 90, op := Op.load 28 (Operand.tmp 12), type := 28, pos := "more.go:52", after := #[{ on := 24, ground := Ground.guard }], guard := some (24, true) } : Oper)) (v := undef) rfl (by kernel_rfl) (by kernel_rfl) (by kernel_rfl) (fun _ _ _ h => h) (Or.inr ⟨by rfl, rfl⟩) (by assumption) ?_
            (try simp only [Act.put, List.setIfInBounds_toArray, List.set_cons_zero, List.set_cons_succ])
            refine wpAnyH_take (i := 26) (oi := ({ dst := some 91, op := Op.call { callee := Callee.value (Operand.func 22), args := #[Operand.tmp 90], argTypes := #[28] }, type := 3, pos := "more.go:52", after := #[{ on := 25, ground := Ground.data }, { on := 24, ground := Ground.chain }, { on := 24, ground := Ground.guard }], guard := some (24, true) } : Oper)) (v := undef) rfl (by kernel_rfl) (by kernel_rfl) (by kernel_rfl) (fun _ _ _ h => h) (Or.inr ⟨by rfl, rfl⟩) (by assumption) ?_
            (try simp only [Act.put, List.setIfInBounds_toArray, List.set_cons_zero, List.set_cons_succ])
            refine wpAnyH_take (i := 27) (oi := ({ dst := some 92, op := Op.load 28 (Operand.tmp 8), type := 28, pos := "more.go:52", after := #[{ on := 24, ground := Ground.guard }], guard := some (24, true) } : Oper)) (v := undef) rfl (by kernel_rfl) (by kernel_rfl) (by kernel_rfl) (fun _ _ _ h => h) (Or.inr ⟨by rfl, rfl⟩) (by assumption) ?_
            (try simp only [Act.put, List.setIfInBounds_toArray, List.set_cons_zero, List.set_cons_succ])
            refine wpAnyH_take (i := 28) (oi := ({ dst := some 93, op := Op.call { callee := Callee.value (Operand.func 22), args := #[Operand.tmp 92], argTypes := #[28] }, type := 3, pos := "more.go:52", after := #[{ on := 27, ground := Ground.data }, { on := 26, ground := Ground.chain }, { on := 24, ground := Ground.guard }], guard := some (24, true) } : Oper)) (v := undef) rfl (by kernel_rfl) (by kernel_rfl) (by kernel_rfl) (fun _ _ _ h => h) (Or.inr ⟨by rfl, rfl⟩) (by assumption) ?_
            (try simp only [Act.put, List.setIfInBounds_toArray, List.set_cons_zero, List.set_cons_succ])
            refine wpAnyH_take (i := 29) (oi := ({ dst := some 94, op := Op.binOp BinOp.neq 3 (Operand.tmp 91) (Operand.tmp 93) 3, type := 4, pos := "more.go:52", after := #[{ on := 26, ground := Ground.data }, { on := 28, ground := Ground.data }, { on := 24, ground := Ground.guard }], guard := some (24, true) } : Oper)) (v := undef) rfl (by kernel_rfl) (by kernel_rfl) (by kernel_rfl) (fun _ _ _ h => h) (Or.inr ⟨by rfl, rfl⟩) (by assumption) ?_
            (try simp only [Act.put, List.setIfInBounds_toArray, List.set_cons_zero, List.set_cons_succ])
            refine wpAnyH_take (i := 30) (oi := ({ dst := some 95, op := Op.pick (Operand.tmp 89) (Operand.tmp 94) (Operand.const (Value.bool false)), type := 4, pos := "more.go:52", after := #[{ on := 24, ground := Ground.data }, { on := 29, ground := Ground.data }, { on := 20, ground := Ground.guard }], guard := some (20, false) } : Oper)) (v := ?_) rfl (by kernel_rfl) (by kernel_rfl) (by kernel_rfl) (fun _ _ _ h => h) (Or.inl ⟨by rfl, ?_⟩) (by assumption) ?_
            rotate_left
            · (intro w hSw; (try dsimp only at hSw); go_simp; try with_reducible rfl)
            (try simp only [Act.put, List.setIfInBounds_toArray, List.set_cons_zero, List.set_cons_succ])
            refine wpAnyH_take (i := 31) (oi := ({ dst := some 96, op := Op.pick (Operand.tmp 85) (Operand.const (Value.bool true)) (Operand.tmp 95), type := 4, pos := "more.go:52", after := #[{ on := 20, ground := Ground.data }, { on := 30, ground := Ground.data }], guard := none } : Oper)) (v := ?_) rfl (by kernel_rfl) (by kernel_rfl) (by kernel_rfl) (fun _ _ _ h => h) (Or.inl ⟨by rfl, ?_⟩) (by assumption) ?_
            rotate_left
            · (intro w hSw; (try dsimp only at hSw); go_simp; try with_reducible rfl)
            (try simp only [Act.put, List.setIfInBounds_toArray, List.set_cons_zero, List.set_cons_succ])
            refine wpAnyH_done (by kernel_rfl) ?_ _
            refine NoPanic.normal ?_
            go_wp2
            go_meet
            exact ⟨rfl, X7⟩
        · have HCX : Hid (cmpI X 0 = (1 : Int)) := Lib.hid (by rw [← hR]; exact (rem_sign hR0).symm)
          have HCR := Lib.hid hR
          clear hR hR0
          as_aux_lemma =>
            refine wp_region_noPanic ?_
            refine wp_region_held_drew (S := (fun w' => w'.cell? ⟨b1, 0, none⟩ = some (.bool sx) ∧ w'.cell? ⟨b1, 1, none⟩ = some (.slice bx m1 k1) ∧ w'.cell? ⟨b2, 0, none⟩ = some (.bool sy) ∧ w'.cell? ⟨b2, 1, none⟩ = some (.slice by' m2 k2) ∧ w'.cell? ⟨Bqp, 0, none⟩ = some (.bool sq) ∧ w'.cell? ⟨Bqp, 1, none⟩ = some (.slice aq mq kq) ∧ w'.cell? ⟨BRp, 0, none⟩ = some (.bool sR) ∧ w'.cell? ⟨BRp, 1, none⟩ = some (.slice aR mR kR))) (by kernel_rfl) ?_ (fun hH0 => ?_)
            · exact HKP.out _ (Below.refl _ _).drew
            refine wpAnyH_take (i := 0) (oi := ({ dst := some 65, op := Op.move (Operand.tmp 13), type := 44, pos := "more.go:52", after := #[], guard := none } : Oper)) (v := ?_) rfl (by kernel_rfl) (by kernel_rfl) (by kernel_rfl) (fun _ _ _ h => h) (Or.inl ⟨by rfl, ?_⟩) (by assumption) ?_
            rotate_left
            · (intro w hSw; (try dsimp only at hSw); go_simp; try with_reducible rfl)
            (try simp only [Act.put, List.setIfInBounds_toArray, List.set_cons_zero, List.set_cons_succ])
            refine wpAnyH_take (i := 1) (oi := ({ dst := some 66, op := Op.binOp BinOp.neq 44 (Operand.tmp 65) (Operand.const (Value.int IntKind.i64 0)) 44, type := 4, pos := "more.go:52", after := #[{ on := 0, ground := Ground.data }], guard := none } : Oper)) (v := ?_) rfl (by kernel_rfl) (by kernel_rfl) (by kernel_rfl) (fun _ _ _ h => h) (Or.inl ⟨by rfl, ?_⟩) (by assumption) ?_
            rotate_left
            · (intro w hSw; (try dsimp only at hSw); go_simp; try with_reducible rfl)
            (try simp only [Act.put, List.setIfInBounds_toArray, List.set_cons_zero, List.set_cons_succ])
            refine wpAnyH_take (i := 2) (oi := ({ dst := some 67, op := Op.move (Operand.tmp 66), type := 4, pos := "more.go:52", after := #[{ on := 1, ground := Ground.data }], guard := none } : Oper)) (v := ?_) rfl (by kernel_rfl) (by kernel_rfl) (by kernel_rfl) (fun _ _ _ h => h) (Or.inl ⟨by rfl, ?_⟩) (by assumption) ?_
            rotate_left
            · (intro w hSw; (try dsimp only at hSw); go_simp; try with_reducible rfl)
            (try simp only [Act.put, List.setIfInBounds_toArray, List.set_cons_zero, List.set_cons_succ])
            refine wpAnyH_take (i := 3) (oi := ({ dst := some 68, op := Op.load 28 (Operand.tmp 9), type := 28, pos := "more.go:52", after := #[{ on := 2, ground := Ground.guard }], guard := some (2, false) } : Oper)) (v := ?_) rfl (by kernel_rfl) (by kernel_rfl) (by kernel_rfl) (fun _ _ _ h => h) (Or.inl ⟨by rfl, ?_⟩) (by assumption) ?_
            rotate_left
            · (intro w hSw; (try dsimp only at hSw); go_simp; try with_reducible rfl)
            (try simp only [Act.put, List.setIfInBounds_toArray, List.set_cons_zero, List.set_cons_succ])
            refine wpAnyH_take (i := 4) (oi := ({ dst := some 69, op := Op.load 28 (Operand.tmp 11), type := 28, pos := "more.go:52", after := #[{ on := 2, ground := Ground.guard }], guard := some (2, false) } : Oper)) (v := ?_) rfl (by kernel_rfl) (by kernel_rfl) (by kernel_rfl) (fun _ _ _ h => h) (Or.inl ⟨by rfl, ?_⟩) (by assumption) ?_
            rotate_left
            · (intro w hSw; (try dsimp only at hSw); go_simp; try with_reducible rfl)
            (try simp only [Act.put, List.setIfInBounds_toArray, List.set_cons_zero, List.set_cons_succ])
            refine wpAnyH_take (i := 6) (oi := ({ dst := some 71, op := Op.load 28 (Operand.tmp 12), type := 28, pos := "more.go:52", after := #[{ on := 2, ground := Ground.guard }], guard := some (2, false) } : Oper)) (v := ?_) rfl (by kernel_rfl) (by kernel_rfl) (by kernel_rfl) (fun _ _ _ h => h) (Or.inl ⟨by rfl, ?_⟩) (by assumption) ?_
            rotate_left
            · (intro w hSw; (try dsimp only at hSw); go_simp; try with_reducible rfl)
            (try simp only [Act.put, List.setIfInBounds_toArray, List.set_cons_zero, List.set_cons_succ])
            refine wpAnyH_take (i := 8) (oi := ({ dst := some 73, op := Op.load 28 (Operand.tmp 8), type := 28, pos := "more.go:52", after := #[{ on := 2, ground := Ground.guard }], guard := some (2, false) } : Oper)) (v := ?_) rfl (by kernel_rfl) (by kernel_rfl) (by kernel_rfl) (fun _ _ _ h => h) (Or.inl ⟨by rfl, ?_⟩) (by assumption) ?_
            rotate_left
            · (intro w hSw; (try dsimp only at hSw); go_simp; try with_reducible rfl)
            (try simp only [Act.put, List.setIfInBounds_toArray, List.set_cons_zero, List.set_cons_succ])
            refine wpAnyH_ready (rs := [5]) (by kernel_rfl) (by simp) ?_
            refine AllReadyH.cons (o := ({ dst := some 70, op := Op.call { callee := Callee.value (Operand.func 42), args := #[Operand.tmp 68, Operand.tmp 69], argTypes := #[28, 28] }, type := 28, pos := "more.go:52", after := #[{ on := 3, ground := Ground.data }, { on := 4, ground := Ground.data }, { on := 2, ground := Ground.chain }, { on := 2, ground := Ground.guard }], guard := some (2, false) } : Oper)) rfl (fun K hK => ?_) AllReadyH.nil
            go_simp
            refine (mul_int _ sy sq by' aq m2 mq k2 kq zs zq Y (X.tdiv Y) (IY1.out.below (Below.refl _ _).drew) (Iq.out.below (Below.refl _ _).drew) (by omega) (by omega)).mono ?_
            rintro e v1 ⟨sp8, ap8, mp8, kp8, zp8, rfl, hIp8, hmp8, u1⟩
            have X1 : Below wg6.heap.size wg6 v1 := (Below.refl _ _).drew.trans u1
            have Ip8 := Lib.hid hIp8
            clear hIp8
            clear u1
            refine hK.out _ _ ?_ (fun hH1 => ?_)
            · exact HKP.out _ X1
            clear hK K hH0
            (try simp only [Act.put, List.setIfInBounds_toArray, List.set_cons_zero, List.set_cons_succ])
            refine wpAnyH_ready (rs := [7]) (by kernel_rfl) (by simp) ?_
            refine AllReadyH.cons (o := ({ dst := some 72, op := Op.call { callee := Callee.value (Operand.func 38), args := #[Operand.tmp 70, Operand.tmp 71], argTypes := #[28, 28] }, type := 28, pos := "more.go:52", after := #[{ on := 5, ground := Ground.data }, { on := 6, ground := Ground.data }, { on := 5, ground := Ground.chain }, { on := 2, ground := Ground.guard }], guard := some (2, false) } : Oper)) rfl (fun K hK => ?_) AllReadyH.nil
            go_simp
            refine (add_int _ sp8 sR ap8 aR mp8 mR kp8 kR zp8 zR (Y * X.tdiv Y) (X.tmod Y) Ip8.out (IR.out.below X1) (by omega) (by omega)).mono ?_
            rintro e v2 ⟨ss8, as8, ms8, ks8, zs8, rfl, hIs8, hms8, u2⟩
            have X2 : Below wg6.heap.size wg6 v2 := X1.trans (u2.mono X1.size)
            clear Ip8
            have Is8 := Lib.hid hIs8
            clear hIs8
            clear u2
            refine hK.out _ _ ?_ (fun hH2 => ?_)
            · exact HKP.out _ X2
            clear hK K hH1
            (try simp only [Act.put, List.setIfInBounds_toArray, List.set_cons_zero, List.set_cons_succ])
            refine wpAnyH_ready (rs := [9]) (by kernel_rfl) (by simp) ?_
            refine AllReadyH.cons (o := ({ dst := some 74, op := Op.call { callee := Callee.value (Operand.func 65), args := #[Operand.tmp 72, Operand.tmp 73], argTypes := #[28, 28] }, type := 4, pos := "more.go:52", after := #[{ on := 7, ground := Ground.data }, { on := 8, ground := Ground.data }, { on := 7, ground := Ground.chain }, { on := 2, ground := Ground.guard }], guard := some (2, false) } : Oper)) rfl (fun K hK => ?_) AllReadyH.nil
            go_simp
            refine (same_yes Is8.out (IX1.out.below X2) (Int.mul_tdiv_add_tmod X Y)).mono ?_
            rintro e v3 ⟨rfl, u3⟩
            have X3 : Below wg6.heap.size wg6 v3 := X2.trans (u3.mono X2.size)
            clear Is8
            clear u3
            refine hK.out _ _ ?_ (fun hH3 => ?_)
            · exact HKP.out _ X3
            clear hK K hH2
            (try simp only [Act.put, List.setIfInBounds_toArray, List.set_cons_zero, List.set_cons_succ])
            refine wpAnyH_take (i := 10) (oi := ({ dst := some 75, op := Op.unOp UnOp.not 4 (Operand.tmp 74), type := 4, pos := "more.go:52", after := #[{ on := 9, ground := Ground.data }, { on := 2, ground := Ground.guard }], guard := some (2, false) } : Oper)) (v := ?_) rfl (by kernel_rfl) (by kernel_rfl) (by kernel_rfl) (fun _ _ _ h => h) (Or.inl ⟨by rfl, ?_⟩) (by assumption) ?_
            rotate_left
            · (intro w hSw; (try dsimp only at hSw); go_simp; try with_reducible rfl)
            (try simp only [Act.put, List.setIfInBounds_toArray, List.set_cons_zero, List.set_cons_succ])
            refine wpAnyH_take (i := 11) (oi := ({ dst := some 76, op := Op.pick (Operand.tmp 67) (Operand.const (Value.bool true)) (Operand.tmp 75), type := 4, pos := "more.go:52", after := #[{ on := 2, ground := Ground.data }, { on := 10, ground := Ground.data }], guard := none } : Oper)) (v := ?_) rfl (by kernel_rfl) (by kernel_rfl) (by kernel_rfl) (fun _ _ _ h => h) (Or.inl ⟨by rfl, ?_⟩) (by assumption) ?_
            rotate_left
            · (intro w hSw; (try dsimp only at hSw); go_simp; try with_reducible rfl)
            (try simp only [Act.put, List.setIfInBounds_toArray, List.set_cons_zero, List.set_cons_succ])
            refine wpAnyH_take (i := 12) (oi := ({ dst := some 77, op := Op.move (Operand.tmp 76), type := 4, pos := "more.go:52", after := #[{ on := 11, ground := Ground.data }, { on := 9, ground := Ground.chain }], guard := none } : Oper)) (v := ?_) rfl (by kernel_rfl) (by kernel_rfl) (by kernel_rfl) (fun _ _ _ h => h) (Or.inl ⟨by rfl, ?_⟩) (by assumption) ?_
            rotate_left
            · (intro w hSw; (try dsimp only at hSw); go_simp; try with_reducible rfl)
            (try simp only [Act.put, List.setIfInBounds_toArray, List.set_cons_zero, List.set_cons_succ])
            refine wpAnyH_take (i := 13) (oi := ({ dst := some 78, op := Op.load 28 (Operand.tmp 12), type := 28, pos := "more.go:52", after := #[{ on := 12, ground := Ground.guard }], guard := some (12, false) } : Oper)) (v := ?_) rfl (by kernel_rfl) (by kernel_rfl) (by kernel_rfl) (fun _ _ _ h => h) (Or.inl ⟨by rfl, ?_⟩) (by assumption) ?_
            rotate_left
            · (intro w hSw; (try dsimp only at hSw); go_simp; try with_reducible rfl)
            (try simp only [Act.put, List.setIfInBounds_toArray, List.set_cons_zero, List.set_cons_succ])
            refine wpAnyH_take (i := 15) (oi := ({ dst := some 80, op := Op.load 28 (Operand.tmp 9), type := 28, pos := "more.go:52", after := #[{ on := 12, ground := Ground.guard }], guard := some (12, false) } : Oper)) (v := ?_) rfl (by kernel_rfl) (by kernel_rfl) (by kernel_rfl) (fun _ _ _ h => h) (Or.inl ⟨by rfl, ?_⟩) (by assumption) ?_
            rotate_left
            · (intro w hSw; (try dsimp only at hSw); go_simp; try with_reducible rfl)
            (try simp only [Act.put, List.setIfInBounds_toArray, List.set_cons_zero, List.set_cons_succ])
            refine wpAnyH_ready (rs := [14]) (by kernel_rfl) (by simp) ?_
            refine AllReadyH.cons (o := ({ dst := some 79, op := Op.call { callee := Callee.value (Operand.func 36), args := #[Operand.tmp 78], argTypes := #[28] }, type := 28, pos := "more.go:52", after := #[{ on := 13, ground := Ground.data }, { on := 12, ground := Ground.chain }, { on := 12, ground := Ground.guard }], guard := some (12, false) } : Oper)) rfl (fun K hK => ?_) AllReadyH.nil
            go_simp
            refine (absI _ sR aR mR kR zR (X.tmod Y) (IR.out.below X3) (by omega)).mono ?_
            rintro e v4 ⟨sar8, aar8, mar8, kar8, zar8, rfl, hIar8, hmar8, u4⟩
            have X4 : Below wg6.heap.size wg6 v4 := X3.trans (u4.mono X3.size)
            have Iar8 := Lib.hid hIar8
            clear hIar8
            clear u4
            refine hK.out _ _ ?_ (fun hH4 => ?_)
            · exact HKP.out _ X4
            clear hK K hH3
            (try simp only [Act.put, List.setIfInBounds_toArray, List.set_cons_zero, List.set_cons_succ])
            refine wpAnyH_ready (rs := [16]) (by kernel_rfl) (by simp) ?_
            refine AllReadyH.cons (o := ({ dst := some 81, op := Op.call { callee := Callee.value (Operand.func 36), args := #[Operand.tmp 80], argTypes := #[28] }, type := 28, pos := "more.go:52", after := #[{ on := 15, ground := Ground.data }, { on := 14, ground := Ground.chain }, { on := 12, ground := Ground.guard }], guard := some (12, false) } : Oper)) rfl (fun K hK => ?_) AllReadyH.nil
            go_simp
            refine (absI _ sy by' m2 k2 zs Y (IY1.out.below X4) (by omega)).mono ?_
            rintro e v5 ⟨say8, aay8, may8, kay8, zay8, rfl, hIay8, hmay8, u5⟩
            have X5 : Below wg6.heap.size wg6 v5 := X4.trans (u5.mono X4.size)
            replace Iar8 := Lib.hid (Iar8.out.below u5)
            have Iay8 := Lib.hid hIay8
            clear hIay8
            clear u5
            refine hK.out _ _ ?_ (fun hH5 => ?_)
            · exact HKP.out _ X5
            clear hK K hH4
            (try simp only [Act.put, List.setIfInBounds_toArray, List.set_cons_zero, List.set_cons_succ])
            refine wpAnyH_ready (rs := [17]) (by kernel_rfl) (by simp) ?_
            refine AllReadyH.cons (o := ({ dst := some 82, op := Op.call { callee := Callee.value (Operand.func 32), args := #[Operand.tmp 79, Operand.tmp 81], argTypes := #[28, 28] }, type := 3, pos := "more.go:52", after := #[{ on := 14, ground := Ground.data }, { on := 16, ground := Ground.data }, { on := 16, ground := Ground.chain }, { on := 12, ground := Ground.guard }], guard := some (12, false) } : Oper)) rfl (fun K hK => ?_) AllReadyH.nil
            go_simp
            refine (cmpI_is _ sar8 say8 aar8 aay8 mar8 may8 kar8 kay8 zar8 zay8 ((X.tmod Y).natAbs : Int) (Y.natAbs : Int) (-1) Iar8.out Iay8.out (rem_small HY0.out)).mono ?_
            rintro e v6 ⟨rfl, u6⟩
            have X6 : Below wg6.heap.size wg6 v6 := X5.trans (u6.mono X5.size)
            clear Iar8
            clear Iay8
            clear u6
            refine hK.out _ _ ?_ (fun hH6 => ?_)
            · exact HKP.out _ X6
            clear hK K hH5
            (try simp only [Act.put, List.setIfInBounds_toArray, List.set_cons_zero, List.set_cons_succ])
            refine wpAnyH_take (i := 18) (oi := ({ dst := some 83, op := Op.binOp BinOp.geq 3 (Operand.tmp 82) (Operand.const (Value.int IntKind.i64 0)) 3, type := 4, pos := "more.go:52", after := #[{ on := 17, ground := Ground.data }, { on := 12, ground := Ground.guard }], guard := some (12, false) } : Oper)) (v := ?_) rfl (by kernel_rfl) (by kernel_rfl) (by kernel_rfl) (fun _ _ _ h => h) (Or.inl ⟨by rfl, ?_⟩) (by assumption) ?_
            rotate_left
            · (intro w hSw; (try dsimp only at hSw); go_simp; try with_reducible rfl)
            (try simp only [Act.put, List.setIfInBounds_toArray, List.set_cons_zero, List.set_cons_succ])
            refine wpAnyH_take (i := 19) (oi := ({ dst := some 84, op := Op.pick (Operand.tmp 77) (Operand.const (Value.bool true)) (Operand.tmp 83), type := 4, pos := "more.go:52", after := #[{ on := 12, ground := Ground.data }, { on := 18, ground := Ground.data }], guard := none } : Oper)) (v := ?_) rfl (by kernel_rfl) (by kernel_rfl) (by kernel_rfl) (fun _ _ _ h => h) (Or.inl ⟨by rfl, ?_⟩) (by assumption) ?_
            rotate_left
            · (intro w hSw; (try dsimp only at hSw); go_simp; try with_reducible rfl)
            (try simp only [Act.put, List.setIfInBounds_toArray, List.set_cons_zero, List.set_cons_succ])
            refine wpAnyH_take (i := 20) (oi := ({ dst := some 85, op := Op.move (Operand.tmp 84), type := 4, pos := "more.go:52", after := #[{ on := 19, ground := Ground.data }, { on := 17, ground := Ground.chain }], guard := none } : Oper)) (v := ?_) rfl (by kernel_rfl) (by kernel_rfl) (by kernel_rfl) (fun _ _ _ h => h) (Or.inl ⟨by rfl, ?_⟩) (by assumption) ?_
            rotate_left
            · (intro w hSw; (try dsimp only at hSw); go_simp; try with_reducible rfl)
            (try simp only [Act.put, List.setIfInBounds_toArray, List.set_cons_zero, List.set_cons_succ])
            refine wpAnyH_take (i := 21) (oi := ({ dst := some 86, op := Op.load 28 (Operand.tmp 12), type := 28, pos := "more.go:52", after := #[{ on := 20, ground := Ground.guard }], guard := some (20, false) } : Oper)) (v := ?_) rfl (by kernel_rfl) (by kernel_rfl) (by kernel_rfl) (fun _ _ _ h => h) (Or.inl ⟨by rfl, ?_⟩) (by assumption) ?_
            rotate_left
            · (intro w hSw; (try dsimp only at hSw); go_simp; try with_reducible rfl)
            (try simp only [Act.put, List.setIfInBounds_toArray, List.set_cons_zero, List.set_cons_succ])
            refine wpAnyH_ready (rs := [22]) (by kernel_rfl) (by simp) ?_
            refine AllReadyH.cons (o := ({ dst := some 87, op := Op.call { callee := Callee.value (Operand.func 22), args := #[Operand.tmp 86], argTypes := #[28] }, type := 3, pos := "more.go:52", after := #[{ on := 21, ground := Ground.data }, { on := 20, ground := Ground.chain }, { on := 20, ground := Ground.guard }], guard := some (20, false) } : Oper)) rfl (fun K hK => ?_) AllReadyH.nil
            go_simp
            refine (sign_is _ sR aR mR kR zR (X.tmod Y) 1 (IR.out.below X6) HCR.out).mono ?_
            rintro e v7 ⟨rfl, u7⟩
            have X7 : Below wg6.heap.size wg6 v7 := X6.trans (u7.mono X6.size)
            clear u7
            refine hK.out _ _ ?_ (fun hH7 => ?_)
            · exact HKP.out _ X7
            clear hK K hH6
            (try simp only [Act.put, List.setIfInBounds_toArray, List.set_cons_zero, List.set_cons_succ])
            refine wpAnyH_take (i := 23) (oi := ({ dst := some 88, op := Op.binOp BinOp.neq 3 (Operand.tmp 87) (Operand.const (Value.int IntKind.i64 0)) 3, type := 4, pos := "more.go:52", after := #[{ on := 22, ground := Ground.data }, { on := 20, ground := Ground.guard }], guard := some (20, false) } : Oper)) (v := ?_) rfl (by kernel_rfl) (by kernel_rfl) (by kernel_rfl) (fun _ _ _ h => h) (Or.inl ⟨by rfl, ?_⟩) (by assumption) ?_
            rotate_left
            · (intro w hSw; (try dsimp only at hSw); go_simp; try with_reducible rfl)
            (try simp only [Act.put, List.setIfInBounds_toArray, List.set_cons_zero, List.set_cons_succ])
            refine wpAnyH_take (i := 24) (oi := ({ dst := some 89, op := Op.move (Operand.tmp 88), type := 4, pos := "more.go:52", after := #[{ on := 23, ground := Ground.data }, { on := 22, ground := Ground.chain }, { on := 20, ground := Ground.guard }], guard := some (20, false) } : Oper)) (v := ?_) rfl (by kernel_rfl) (by kernel_rfl) (by kernel_rfl) (fun _ _ _ h => h) (Or.inl ⟨by rfl, ?_⟩) (by assumption) ?_
            rotate_left
            · (intro w hSw; (try dsimp only at hSw); go_simp; try with_reducible rfl)
            (try simp only [Act.put, List.setIfInBounds_toArray, List.set_cons_zero, List.set_cons_succ])
            refine wpAnyH_take (i := 25) (oi := ({ dst := some 90, op := Op.load 28 (Operand.tmp 12), type := 28, pos := "more.go:52", after := #[{ on := 24, ground := Ground.guard }], guard := some (24, true) } : Oper)) (v := ?_) rfl (by kernel_rfl) (by kernel_rfl) (by kernel_rfl) (fun _ _ _ h => h) (Or.inl ⟨by rfl, ?_⟩) (by assumption) ?_
            rotate_left
            · (intro w hSw; (try dsimp only at hSw); go_simp; try with_reducible rfl)
            (try simp only [Act.put, List.setIfInBounds_toArray, List.set_cons_zero, List.set_cons_succ])
            refine wpAnyH_take (i := 27) (oi := ({ dst := some 92, op := Op.load 28 (Operand.tmp 8), type := 28, pos := "more.go:52", after := #[{ on := 24, ground := Ground.guard }], guard := some (24, true) } : Oper)) (v := ?_) rfl (by kernel_rfl) (by kernel_rfl) (by kernel_rfl) (fun _ _ _ h => h) (Or.inl ⟨by rfl, ?_⟩) (by assumption) ?_
            rotate_left
            · (intro w hSw; (try dsimp only at hSw); go_simp; try with_reducible rfl)
            (try simp only [Act.put, List.setIfInBounds_toArray, List.set_cons_zero, List.set_cons_succ])
            refine wpAnyH_ready (rs := [26]) (by kernel_rfl) (by simp) ?_
            refine AllReadyH.cons (o := ({ dst := some 91, op := Op.call { callee := Callee.value (Operand.func 22), args := #[Operand.tmp 90], argTypes := #[28] }, type := 3, pos := "more.go:52", after := #[{ on := 25, ground := Ground.data }, { on := 24, ground := Ground.chain }, { on := 24, ground := Ground.guard }], guard := some (24, true) } : Oper)) rfl (fun K hK => ?_) AllReadyH.nil
            go_simp
            refine (sign_is _ sR aR mR kR zR (X.tmod Y) 1 (IR.out.below X7) HCR.out).mono ?_
            rintro e v8 ⟨rfl, u8⟩
            have X8 : Below wg6.heap.size wg6 v8 := X7.trans (u8.mono X7.size)
            clear u8
            refine hK.out _ _ ?_ (fun hH8 => ?_)
            · exact HKP.out _ X8
            clear hK K hH7
            (try simp only [Act.put, List.setIfInBounds_toArray, List.set_cons_zero, List.set_cons_succ])
            refine wpAnyH_ready (rs := [28]) (by kernel_rfl) (by simp) ?_
            refine AllReadyH.cons (o := ({ dst := some 93, op := Op.call { callee := Callee.value (Operand.func 22), args := #[Operand.tmp 92], argTypes := #[28] }, type := 3, pos := "more.go:52", after := #[{ on := 27, ground := Ground.data }, { on := 26, ground := Ground.chain }, { on := 24, ground := Ground.guard }], guard := some (24, true) } : Oper)) rfl (fun K hK => ?_) AllReadyH.nil
            go_simp
            refine (sign_is _ sx bx m1 k1 zr X 1 (IX1.out.below X8) HCX.out).mono ?_
            rintro e v9 ⟨rfl, u9⟩
            have X9 : Below wg6.heap.size wg6 v9 := X8.trans (u9.mono X8.size)
            clear u9
            refine hK.out _ _ ?_ (fun hH9 => ?_)
            · exact HKP.out _ X9
            clear hK K hH8
            (try simp only [Act.put, List.setIfInBounds_toArray, List.set_cons_zero, List.set_cons_succ])
            refine wpAnyH_take (i := 29) (oi := ({ dst := some 94, op := Op.binOp BinOp.neq 3 (Operand.tmp 91) (Operand.tmp 93) 3, type := 4, pos := "more.go:52", after := #[{ on := 26, ground := Ground.data }, { on := 28, ground := Ground.data }, { on := 24, ground := Ground.guard }], guard := some (24, true) } : Oper)) (v := ?_) rfl (by kernel_rfl) (by kernel_rfl) (by kernel_rfl) (fun _ _ _ h => h) (Or.inl ⟨by rfl, ?_⟩) (by assumption) ?_
            rotate_left
            · (intro w hSw; (try dsimp only at hSw); go_simp; try with_reducible rfl)
            (try simp only [Act.put, List.setIfInBounds_toArray, List.set_cons_zero, List.set_cons_succ])
            refine wpAnyH_take (i := 30) (oi := ({ dst := some 95, op := Op.pick (Operand.tmp 89) (Operand.tmp 94) (Operand.const (Value.bool false)), type := 4, pos := "more.go:52", after := #[{ on := 24, ground := Ground.data }, { on := 29, ground := Ground.data }, { on := 20, ground := Ground.guard }], guard := some (20, false) } : Oper)) (v := ?_) rfl (by kernel_rfl) (by kernel_rfl) (by kernel_rfl) (fun _ _ _ h => h) (Or.inl ⟨by rfl, ?_⟩) (by assumption) ?_
            rotate_left
            · (intro w hSw; (try dsimp only at hSw); go_simp; try with_reducible rfl)
            (try simp only [Act.put, List.setIfInBounds_toArray, List.set_cons_zero, List.set_cons_succ])
            refine wpAnyH_take (i := 31) (oi := ({ dst := some 96, op := Op.pick (Operand.tmp 85) (Operand.const (Value.bool true)) (Operand.tmp 95), type := 4, pos := "more.go:52", after := #[{ on := 20, ground := Ground.data }, { on := 30, ground := Ground.data }], guard := none } : Oper)) (v := ?_) rfl (by kernel_rfl) (by kernel_rfl) (by kernel_rfl) (fun _ _ _ h => h) (Or.inl ⟨by rfl, ?_⟩) (by assumption) ?_
            rotate_left
            · (intro w hSw; (try dsimp only at hSw); go_simp; try with_reducible rfl)
            (try simp only [Act.put, List.setIfInBounds_toArray, List.set_cons_zero, List.set_cons_succ])
            refine wpAnyH_done (by kernel_rfl) ?_ _
            refine NoPanic.normal ?_
            go_wp2
            go_meet
            exact ⟨rfl, X9⟩
        · have HCX : Hid (cmpI X 0 = (-1 : Int)) := Lib.hid (by rw [← hR]; exact (rem_sign hR0).symm)
          have HCR := Lib.hid hR
          clear hR hR0
          as_aux_lemma =>
            refine wp_region_noPanic ?_
            refine wp_region_held_drew (S := (fun w' => w'.cell? ⟨b1, 0, none⟩ = some (.bool sx) ∧ w'.cell? ⟨b1, 1, none⟩ = some (.slice bx m1 k1) ∧ w'.cell? ⟨b2, 0, none⟩ = some (.bool sy) ∧ w'.cell? ⟨b2, 1, none⟩ = some (.slice by' m2 k2) ∧ w'.cell? ⟨Bqp, 0, none⟩ = some (.bool sq) ∧ w'.cell? ⟨Bqp, 1, none⟩ = some (.slice aq mq kq) ∧ w'.cell? ⟨BRp, 0, none⟩ = some (.bool sR) ∧ w'.cell? ⟨BRp, 1, none⟩ = some (.slice aR mR kR))) (by kernel_rfl) ?_ (fun hH0 => ?_)
            · exact HKP.out _ (Below.refl _ _).drew
            refine wpAnyH_take (i := 0) (oi := ({ dst := some 65, op := Op.move (Operand.tmp 13), type := 44, pos := "more.go:52", after := #[], guard := none } : Oper)) (v := ?_) rfl (by kernel_rfl) (by kernel_rfl) (by kernel_rfl) (fun _ _ _ h => h) (Or.inl ⟨by rfl, ?_⟩) (by assumption) ?_
            rotate_left
            · (intro w hSw; (try dsimp only at hSw); go_simp; try with_reducible rfl)
            (try simp only [Act.put, List.setIfInBounds_toArray, List.set_cons_zero, List.set_cons_succ])
            refine wpAnyH_take (i := 1) (oi := ({ dst := some 66, op := Op.binOp BinOp.neq 44 (Operand.tmp 65) (Operand.const (Value.int IntKind.i64 0)) 44, type := 4, pos := "more.go:52", after := #[{ on := 0, ground := Ground.data }], guard := none } : Oper)) (v := ?_) rfl (by kernel_rfl) (by kernel_rfl) (by kernel_rfl) (fun _ _ _ h => h) (Or.inl ⟨by rfl, ?_⟩) (by assumption) ?_
            rotate_left
            · (intro w hSw; (try dsimp only at hSw); go_simp; try with_reducible rfl)
            (try simp only [Act.put, List.setIfInBounds_toArray, List.set_cons_zero, List.set_cons_succ])
            refine wpAnyH_take (i := 2) (oi := ({ dst := some 67, op := Op.move (Operand.tmp 66), type := 4, pos := "more.go:52", after := #[{ on := 1, ground := Ground.data }], guard := none } : Oper)) (v := ?_) rfl (by kernel_rfl) (by kernel_rfl) (by kernel_rfl) (fun _ _ _ h => h) (Or.inl ⟨by rfl, ?_⟩) (by assumption) ?_
            rotate_left
            · (intro w hSw; (try dsimp only at hSw); go_simp; try with_reducible rfl)
            (try simp only [Act.put, List.setIfInBounds_toArray, List.set_cons_zero, List.set_cons_succ])
            refine wpAnyH_take (i := 3) (oi := ({ dst := some 68, op := Op.load 28 (Operand.tmp 9), type := 28, pos := "more.go:52", after := #[{ on := 2, ground := Ground.guard }], guard := some (2, false) } : Oper)) (v := ?_) rfl (by kernel_rfl) (by kernel_rfl) (by kernel_rfl) (fun _ _ _ h => h) (Or.inl ⟨by rfl, ?_⟩) (by assumption) ?_
            rotate_left
            · (intro w hSw; (try dsimp only at hSw); go_simp; try with_reducible rfl)
            (try simp only [Act.put, List.setIfInBounds_toArray, List.set_cons_zero, List.set_cons_succ])
            refine wpAnyH_take (i := 4) (oi := ({ dst := some 69, op := Op.load 28 (Operand.tmp 11), type := 28, pos := "more.go:52", after := #[{ on := 2, ground := Ground.guard }], guard := some (2, false) } : Oper)) (v := ?_) rfl (by kernel_rfl) (by kernel_rfl) (by kernel_rfl) (fun _ _ _ h => h) (Or.inl ⟨by rfl, ?_⟩) (by assumption) ?_
            rotate_left
            · (intro w hSw; (try dsimp only at hSw); go_simp; try with_reducible rfl)
            (try simp only [Act.put, List.setIfInBounds_toArray, List.set_cons_zero, List.set_cons_succ])
            refine wpAnyH_take (i := 6) (oi := ({ dst := some 71, op := Op.load 28 (Operand.tmp 12), type := 28, pos := "more.go:52", after := #[{ on := 2, ground := Ground.guard }], guard := some (2, false) } : Oper)) (v := ?_) rfl (by kernel_rfl) (by kernel_rfl) (by kernel_rfl) (fun _ _ _ h => h) (Or.inl ⟨by rfl, ?_⟩) (by assumption) ?_
            rotate_left
            · (intro w hSw; (try dsimp only at hSw); go_simp; try with_reducible rfl)
            (try simp only [Act.put, List.setIfInBounds_toArray, List.set_cons_zero, List.set_cons_succ])
            refine wpAnyH_take (i := 8) (oi := ({ dst := some 73, op := Op.load 28 (Operand.tmp 8), type := 28, pos := "more.go:52", after := #[{ on := 2, ground := Ground.guard }], guard := some (2, false) } : Oper)) (v := ?_) rfl (by kernel_rfl) (by kernel_rfl) (by kernel_rfl) (fun _ _ _ h => h) (Or.inl ⟨by rfl, ?_⟩) (by assumption) ?_
            rotate_left
            · (intro w hSw; (try dsimp only at hSw); go_simp; try with_reducible rfl)
            (try simp only [Act.put, List.setIfInBounds_toArray, List.set_cons_zero, List.set_cons_succ])
            refine wpAnyH_ready (rs := [5]) (by kernel_rfl) (by simp) ?_
            refine AllReadyH.cons (o := ({ dst := some 70, op := Op.call { callee := Callee.value (Operand.func 42), args := #[Operand.tmp 68, Operand.tmp 69], argTypes := #[28, 28] }, type := 28, pos := "more.go:52", after := #[{ on := 3, ground := Ground.data }, { on := 4, ground := Ground.data }, { on := 2, ground := Ground.chain }, { on := 2, ground := Ground.guard }], guard := some (2, false) } : Oper)) rfl (fun K hK => ?_) AllReadyH.nil
            go_simp
            refine (mul_int _ sy sq by' aq m2 mq k2 kq zs zq Y (X.tdiv Y) (IY1.out.below (Below.refl _ _).drew) (Iq.out.below (Below.refl _ _).drew) (by omega) (by omega)).mono ?_
            rintro e v1 ⟨sp8, ap8, mp8, kp8, zp8, rfl, hIp8, hmp8, u1⟩
            have X1 : Below wg6.heap.size wg6 v1 := (Below.refl _ _).drew.trans u1
            have Ip8 := Lib.hid hIp8
            clear hIp8
            clear u1
            refine hK.out _ _ ?_ (fun hH1 => ?_)
            · exact HKP.out _ X1
            clear hK K hH0
            (try simp only [Act.put, List.setIfInBounds_toArray, List.set_cons_zero, List.set_cons_succ])
            refine wpAnyH_ready (rs := [7]) (by kernel_rfl) (by simp) ?_
            refine AllReadyH.cons (o := ({ dst := some 72, op := Op.call { callee := Callee.value (Operand.func 38), args := #[Operand.tmp 70, Operand.tmp 71], argTypes := #[28, 28] }, type := 28, pos := "more.go:52", after := #[{ on := 5, ground := Ground.data }, { on := 6, ground := Ground.data }, { on := 5, ground := Ground.chain }, { on := 2, ground := Ground.guard }], guard := some (2, false) } : Oper)) rfl (fun K hK => ?_) AllReadyH.nil
            go_simp
            refine (add_int _ sp8 sR ap8 aR mp8 mR kp8 kR zp8 zR (Y * X.tdiv Y) (X.tmod Y) Ip8.out (IR.out.below X1) (by omega) (by omega)).mono ?_
            rintro e v2 ⟨ss8, as8, ms8, ks8, zs8, rfl, hIs8, hms8, u2⟩
            have X2 : Below wg6.heap.size wg6 v2 := X1.trans (u2.mono X1.size)
            clear Ip8
            have Is8 := Lib.hid hIs8
            clear hIs8
            clear u2
            refine hK.out _ _ ?_ (fun hH2 => ?_)
            · exact HKP.out _ X2
            clear hK K hH1
            (try simp only [Act.put, List.setIfInBounds_toArray, List.set_cons_zero, List.set_cons_succ])
            refine wpAnyH_ready (rs := [9]) (by kernel_rfl) (by simp) ?_
            refine AllReadyH.cons (o := ({ dst := some 74, op := Op.call { callee := Callee.value (Operand.func 65), args := #[Operand.tmp 72, Operand.tmp 73], argTypes := #[28, 28] }, type := 4, pos := "more.go:52", after := #[{ on := 7, ground := Ground.data }, { on := 8, ground := Ground.data }, { on := 7, ground := Ground.chain }, { on := 2, ground := Ground.guard }], guard := some (2, false) } : Oper)) rfl (fun K hK => ?_) AllReadyH.nil
            go_simp
            refine (same_yes Is8.out (IX1.out.below X2) (Int.mul_tdiv_add_tmod X Y)).mono ?_
            rintro e v3 ⟨rfl, u3⟩
            have X3 : Below wg6.heap.size wg6 v3 := X2.trans (u3.mono X2.size)
            clear Is8
            clear u3
            refine hK.out _ _ ?_ (fun hH3 => ?_)
            · exact HKP.out _ X3
            clear hK K hH2
            (try simp only [Act.put, List.setIfInBounds_toArray, List.set_cons_zero, List.set_cons_succ])
            refine wpAnyH_take (i := 10) (oi := ({ dst := some 75, op := Op.unOp UnOp.not 4 (Operand.tmp 74), type := 4, pos := "more.go:52", after := #[{ on := 9, ground := Ground.data }, { on := 2, ground := Ground.guard }], guard := some (2, false) } : Oper)) (v := ?_) rfl (by kernel_rfl) (by kernel_rfl) (by kernel_rfl) (fun _ _ _ h => h) (Or.inl ⟨by rfl, ?_⟩) (by assumption) ?_
            rotate_left
            · (intro w hSw; (try dsimp only at hSw); go_simp; try with_reducible rfl)
            (try simp only [Act.put, List.setIfInBounds_toArray, List.set_cons_zero, List.set_cons_succ])
            refine wpAnyH_take (i := 11) (oi := ({ dst := some 76, op := Op.pick (Operand.tmp 67) (Operand.const (Value.bool true)) (Operand.tmp 75), type := 4, pos := "more.go:52", after := #[{ on := 2, ground := Ground.data }, { on := 10, ground := Ground.data }], guard := none } : Oper)) (v := ?_) rfl (by kernel_rfl) (by kernel_rfl) (by kernel_rfl) (fun _ _ _ h => h) (Or.inl ⟨by rfl, ?_⟩) (by assumption) ?_
            rotate_left
            · (intro w hSw; (try dsimp only at hSw); go_simp; try with_reducible rfl)
            (try simp only [Act.put, List.setIfInBounds_toArray, List.set_cons_zero, List.set_cons_succ])
            refine wpAnyH_take (i := 12) (oi := ({ dst := some 77, op := Op.move (Operand.tmp 76), type := 4, pos := "more.go:52", after := #[{ on := 11, ground := Ground.data }, { on := 9, ground := Ground.chain }], guard := none } : Oper)) (v := ?_) rfl (by kernel_rfl) (by kernel_rfl) (by kernel_rfl) (fun _ _ _ h => h) (Or.inl ⟨by rfl, ?_⟩) (by assumption) ?_
            rotate_left
            · (intro w hSw; (try dsimp only at hSw); go_simp; try with_reducible rfl)
            (try simp only [Act.put, List.setIfInBounds_toArray, List.set_cons_zero, List.set_cons_succ])
            refine wpAnyH_take (i := 13) (oi := ({ dst := some 78, op := Op.load 28 (Operand.tmp 12), type := 28, pos := "more.go:52", after := #[{ on := 12, ground := Ground.guard }], guard := some (12, false) } : Oper)) (v := ?_) rfl (by kernel_rfl) (by kernel_rfl) (by kernel_rfl) (fun _ _ _ h => h) (Or.inl ⟨by rfl, ?_⟩) (by assumption) ?_
            rotate_left
            · (intro w hSw; (try dsimp only at hSw); go_simp; try with_reducible rfl)
            (try simp only [Act.put, List.setIfInBounds_toArray, List.set_cons_zero, List.set_cons_succ])
            refine wpAnyH_take (i := 15) (oi := ({ dst := some 80, op := Op.load 28 (Operand.tmp 9), type := 28, pos := "more.go:52", after := #[{ on := 12, ground := Ground.guard }], guard := some (12, false) } : Oper)) (v := ?_) rfl (by kernel_rfl) (by kernel_rfl) (by kernel_rfl) (fun _ _ _ h => h) (Or.inl ⟨by rfl, ?_⟩) (by assumption) ?_
            rotate_left
            · (intro w hSw; (try dsimp only at hSw); go_simp; try with_reducible rfl)
            (try simp only [Act.put, List.setIfInBounds_toArray, List.set_cons_zero, List.set_cons_succ])
            refine wpAnyH_ready (rs := [14]) (by kernel_rfl) (by simp) ?_
            refine AllReadyH.cons (o := ({ dst := some 79, op := Op.call { callee := Callee.value (Operand.func 36), args := #[Operand.tmp 78], argTypes := #[28] }, type := 28, pos := "more.go:52", after := #[{ on := 13, ground := Ground.data }, { on := 12, ground := Ground.chain }, { on := 12, ground := Ground.guard }], guard := some (12, false) } : Oper)) rfl (fun K hK => ?_) AllReadyH.nil
            go_simp
            refine (absI _ sR aR mR kR zR (X.tmod Y) (IR.out.below X3) (by omega)).mono ?_
            rintro e v4 ⟨sar8, aar8, mar8, kar8, zar8, rfl, hIar8, hmar8, u4⟩
            have X4 : Below wg6.heap.size wg6 v4 := X3.trans (u4.mono X3.size)
            have Iar8 := Lib.hid hIar8
            clear hIar8
            clear u4
            refine hK.out _ _ ?_ (fun hH4 => ?_)
            · exact HKP.out _ X4
            clear hK K hH3
            (try simp only [Act.put, List.setIfInBounds_toArray, List.set_cons_zero, List.set_cons_succ])
            refine wpAnyH_ready (rs := [16]) (by kernel_rfl) (by simp) ?_
            refine AllReadyH.cons (o := ({ dst := some 81, op := Op.call { callee := Callee.value (Operand.func 36), args := #[Operand.tmp 80], argTypes := #[28] }, type := 28, pos := "more.go:52", after := #[{ on := 15, ground := Ground.data }, { on := 14, ground := Ground.chain }, { on := 12, ground := Ground.guard }], guard := some (12, false) } : Oper)) rfl (fun K hK => ?_) AllReadyH.nil
            go_simp
            refine (absI _ sy by' m2 k2 zs Y (IY1.out.below X4) (by omega)).mono ?_
            rintro e v5 ⟨say8, aay8, may8, kay8, zay8, rfl, hIay8, hmay8, u5⟩
            have X5 : Below wg6.heap.size wg6 v5 := X4.trans (u5.mono X4.size)
            replace Iar8 := Lib.hid (Iar8.out.below u5)
            have Iay8 := Lib.hid hIay8
            clear hIay8
            clear u5
            refine hK.out _ _ ?_ (fun hH5 => ?_)
            · exact HKP.out _ X5
            clear hK K hH4
            (try simp only [Act.put, List.setIfInBounds_toArray, List.set_cons_zero, List.set_cons_succ])
            refine wpAnyH_ready (rs := [17]) (by kernel_rfl) (by simp) ?_
            refine AllReadyH.cons (o := ({ dst := some 82, op := Op.call { callee := Callee.value (Operand.func 32), args := #[Operand.tmp 79, Operand.tmp 81], argTypes := #[28, 28] }, type := 3, pos := "more.go:52", after := #[{ on := 14, ground := Ground.data }, { on := 16, ground := Ground.data }, { on := 16, ground := Ground.chain }, { on := 12, ground := Ground.guard }], guard := some (12, false) } : Oper)) rfl (fun K hK => ?_) AllReadyH.nil
            go_simp
            refine (cmpI_is _ sar8 say8 aar8 aay8 mar8 may8 kar8 kay8 zar8 zay8 ((X.tmod Y).natAbs : Int) (Y.natAbs : Int) (-1) Iar8.out Iay8.out (rem_small HY0.out)).mono ?_
            rintro e v6 ⟨rfl, u6⟩
            have X6 : Below wg6.heap.size wg6 v6 := X5.trans (u6.mono X5.size)
            clear Iar8
            clear Iay8
            clear u6
            refine hK.out _ _ ?_ (fun hH6 => ?_)
            · exact HKP.out _ X6
            clear hK K hH5
            (try simp only [Act.put, List.setIfInBounds_toArray, List.set_cons_zero, List.set_cons_succ])
            refine wpAnyH_take (i := 18) (oi := ({ dst := some 83, op := Op.binOp BinOp.geq 3 (Operand.tmp 82) (Operand.const (Value.int IntKind.i64 0)) 3, type := 4, pos := "more.go:52", after := #[{ on := 17, ground := Ground.data }, { on := 12, ground := Ground.guard }], guard := some (12, false) } : Oper)) (v := ?_) rfl (by kernel_rfl) (by kernel_rfl) (by kernel_rfl) (fun _ _ _ h => h) (Or.inl ⟨by rfl, ?_⟩) (by assumption) ?_
            rotate_left
            · (intro w hSw; (try dsimp only at hSw); go_simp; try with_reducible rfl)
            (try simp only [Act.put, List.setIfInBounds_toArray, List.set_cons_zero, List.set_cons_succ])
            refine wpAnyH_take (i := 19) (oi := ({ dst := some 84, op := Op.pick (Operand.tmp 77) (Operand.const (Value.bool true)) (Operand.tmp 83), type := 4, pos := "more.go:52", after := #[{ on := 12, ground := Ground.data }, { on := 18, ground := Ground.data }], guard := none } : Oper)) (v := ?_) rfl (by kernel_rfl) (by kernel_rfl) (by kernel_rfl) (fun _ _ _ h => h) (Or.inl ⟨by rfl, ?_⟩) (by assumption) ?_
            rotate_left
            · (intro w hSw; (try dsimp only at hSw); go_simp; try with_reducible rfl)
            (try simp only [Act.put, List.setIfInBounds_toArray, List.set_cons_zero, List.set_cons_succ])
            refine wpAnyH_take (i := 20) (oi := ({ dst := some 85, op := Op.move (Operand.tmp 84), type := 4, pos := "more.go:52", after := #[{ on := 19, ground := Ground.data }, { on := 17, ground := Ground.chain }], guard := none } : Oper)) (v := ?_) rfl (by kernel_rfl) (by kernel_rfl) (by kernel_rfl) (fun _ _ _ h => h) (Or.inl ⟨by rfl, ?_⟩) (by assumption) ?_
            rotate_left
            · (intro w hSw; (try dsimp only at hSw); go_simp; try with_reducible rfl)
            (try simp only [Act.put, List.setIfInBounds_toArray, List.set_cons_zero, List.set_cons_succ])
            refine wpAnyH_take (i := 21) (oi := ({ dst := some 86, op := Op.load 28 (Operand.tmp 12), type := 28, pos := "more.go:52", after := #[{ on := 20, ground := Ground.guard }], guard := some (20, false) } : Oper)) (v := ?_) rfl (by kernel_rfl) (by kernel_rfl) (by kernel_rfl) (fun _ _ _ h => h) (Or.inl ⟨by rfl, ?_⟩) (by assumption) ?_
            rotate_left
            · (intro w hSw; (try dsimp only at hSw); go_simp; try with_reducible rfl)
            (try simp only [Act.put, List.setIfInBounds_toArray, List.set_cons_zero, List.set_cons_succ])
            refine wpAnyH_ready (rs := [22]) (by kernel_rfl) (by simp) ?_
            refine AllReadyH.cons (o := ({ dst := some 87, op := Op.call { callee := Callee.value (Operand.func 22), args := #[Operand.tmp 86], argTypes := #[28] }, type := 3, pos := "more.go:52", after := #[{ on := 21, ground := Ground.data }, { on := 20, ground := Ground.chain }, { on := 20, ground := Ground.guard }], guard := some (20, false) } : Oper)) rfl (fun K hK => ?_) AllReadyH.nil
            go_simp
            refine (sign_is _ sR aR mR kR zR (X.tmod Y) (-1) (IR.out.below X6) HCR.out).mono ?_
            rintro e v7 ⟨rfl, u7⟩
            have X7 : Below wg6.heap.size wg6 v7 := X6.trans (u7.mono X6.size)
            clear u7
            refine hK.out _ _ ?_ (fun hH7 => ?_)
            · exact HKP.out _ X7
            clear hK K hH6
            (try simp only [Act.put, List.setIfInBounds_toArray, List.set_cons_zero, List.set_cons_succ])
            refine wpAnyH_take (i := 23) (oi := ({ dst := some 88, op := Op.binOp BinOp.neq 3 (Operand.tmp 87) (Operand.const (Value.int IntKind.i64 0)) 3, type := 4, pos := "more.go:52", after := #[{ on := 22, ground := Ground.data }, { on := 20, ground := Ground.guard }], guard := some (20, false) } : Oper)) (v := ?_) rfl (by kernel_rfl) (by kernel_rfl) (by kernel_rfl) (fun _ _ _ h => h) (Or.inl ⟨by rfl, ?_⟩) (by assumption) ?_
            rotate_left
            · (intro w hSw; (try dsimp only at hSw); go_simp; try with_reducible rfl)
            (try simp only [Act.put, List.setIfInBounds_toArray, List.set_cons_zero, List.set_cons_succ])
            refine wpAnyH_take (i := 24) (oi := ({ dst := some 89, op := Op.move (Operand.tmp 88), type := 4, pos := "more.go:52", after := #[{ on := 23, ground := Ground.data }, { on := 22, ground := Ground.chain }, { on := 20, ground := Ground.guard }], guard := some (20, false) } : Oper)) (v := ?_) rfl (by kernel_rfl) (by kernel_rfl) (by kernel_rfl) (fun _ _ _ h => h) (Or.inl ⟨by rfl, ?_⟩) (by assumption) ?_
            rotate_left
            · (intro w hSw; (try dsimp only at hSw); go_simp; try with_reducible rfl)
            (try simp only [Act.put, List.setIfInBounds_toArray, List.set_cons_zero, List.set_cons_succ])
            refine wpAnyH_take (i := 25) (oi := ({ dst := some 90, op := Op.load 28 (Operand.tmp 12), type := 28, pos := "more.go:52", after := #[{ on := 24, ground := Ground.guard }], guard := some (24, true) } : Oper)) (v := ?_) rfl (by kernel_rfl) (by kernel_rfl) (by kernel_rfl) (fun _ _ _ h => h) (Or.inl ⟨by rfl, ?_⟩) (by assumption) ?_
            rotate_left
            · (intro w hSw; (try dsimp only at hSw); go_simp; try with_reducible rfl)
            (try simp only [Act.put, List.setIfInBounds_toArray, List.set_cons_zero, List.set_cons_succ])
            refine wpAnyH_take (i := 27) (oi := ({ dst := some 92, op := Op.load 28 (Operand.tmp 8), type := 28, pos := "more.go:52", after := #[{ on := 24, ground := Ground.guard }], guard := some (24, true) } : Oper)) (v := ?_) rfl (by kernel_rfl) (by kernel_rfl) (by kernel_rfl) (fun _ _ _ h => h) (Or.inl ⟨by rfl, ?_⟩) (by assumption) ?_
            rotate_left
            · (intro w hSw; (try dsimp only at hSw); go_simp; try with_reducible rfl)
            (try simp only [Act.put, List.setIfInBounds_toArray, List.set_cons_zero, List.set_cons_succ])
            refine wpAnyH_ready (rs := [26]) (by kernel_rfl) (by simp) ?_
            refine AllReadyH.cons (o := ({ dst := some 91, op := Op.call { callee := Callee.value (Operand.func 22), args := #[Operand.tmp 90], argTypes := #[28] }, type := 3, pos := "more.go:52", after := #[{ on := 25, ground := Ground.data }, { on := 24, ground := Ground.chain }, { on := 24, ground := Ground.guard }], guard := some (24, true) } : Oper)) rfl (fun K hK => ?_) AllReadyH.nil
            go_simp
            refine (sign_is _ sR aR mR kR zR (X.tmod Y) (-1) (IR.out.below X7) HCR.out).mono ?_
            rintro e v8 ⟨rfl, u8⟩
            have X8 : Below wg6.heap.size wg6 v8 := X7.trans (u8.mono X7.size)
            clear u8
            refine hK.out _ _ ?_ (fun hH8 => ?_)
            · exact HKP.out _ X8
            clear hK K hH7
            (try simp only [Act.put, List.setIfInBounds_toArray, List.set_cons_zero, List.set_cons_succ])
            refine wpAnyH_ready (rs := [28]) (by kernel_rfl) (by simp) ?_
            refine AllReadyH.cons (o := ({ dst := some 93, op := Op.call { callee := Callee.value (Operand.func 22), args := #[Operand.tmp 92], argTypes := #[28] }, type := 3, pos := "more.go:52", after := #[{ on := 27, ground := Ground.data }, { on := 26, ground := Ground.chain }, { on := 24, ground := Ground.guard }], guard := some (24, true) } : Oper)) rfl (fun K hK => ?_) AllReadyH.nil
            go_simp
            refine (sign_is _ sx bx m1 k1 zr X (-1) (IX1.out.below X8) HCX.out).mono ?_
            rintro e v9 ⟨rfl, u9⟩
            have X9 : Below wg6.heap.size wg6 v9 := X8.trans (u9.mono X8.size)
            clear u9
            refine hK.out _ _ ?_ (fun hH9 => ?_)
            · exact HKP.out _ X9
            clear hK K hH8
            (try simp only [Act.put, List.setIfInBounds_toArray, List.set_cons_zero, List.set_cons_succ])
            refine wpAnyH_take (i := 29) (oi := ({ dst := some 94, op := Op.binOp BinOp.neq 3 (Operand.tmp 91) (Operand.tmp 93) 3, type := 4, pos := "more.go:52", after := #[{ on := 26, ground := Ground.data }, { on := 28, ground := Ground.data }, { on := 24, ground := Ground.guard }], guard := some (24, true) } : Oper)) (v := ?_) rfl (by kernel_rfl) (by kernel_rfl) (by kernel_rfl) (fun _ _ _ h => h) (Or.inl ⟨by rfl, ?_⟩) (by assumption) ?_
            rotate_left
            · (intro w hSw; (try dsimp only at hSw); go_simp; try with_reducible rfl)
            (try simp only [Act.put, List.setIfInBounds_toArray, List.set_cons_zero, List.set_cons_succ])
            refine wpAnyH_take (i := 30) (oi := ({ dst := some 95, op := Op.pick (Operand.tmp 89) (Operand.tmp 94) (Operand.const (Value.bool false)), type := 4, pos := "more.go:52", after := #[{ on := 24, ground := Ground.data }, { on := 29, ground := Ground.data }, { on := 20, ground := Ground.guard }], guard := some (20, false) } : Oper)) (v := ?_) rfl (by kernel_rfl) (by kernel_rfl) (by kernel_rfl) (fun _ _ _ h => h) (Or.inl ⟨by rfl, ?_⟩) (by assumption) ?_
            rotate_left
            · (intro w hSw; (try dsimp only at hSw); go_simp; try with_reducible rfl)
            (try simp only [Act.put, List.setIfInBounds_toArray, List.set_cons_zero, List.set_cons_succ])
            refine wpAnyH_take (i := 31) (oi := ({ dst := some 96, op := Op.pick (Operand.tmp 85) (Operand.const (Value.bool true)) (Operand.tmp 95), type := 4, pos := "more.go:52", after := #[{ on := 20, ground := Ground.data }, { on := 30, ground := Ground.data }], guard := none } : Oper)) (v := ?_) rfl (by kernel_rfl) (by kernel_rfl) (by kernel_rfl) (fun _ _ _ h => h) (Or.inl ⟨by rfl, ?_⟩) (by assumption) ?_
            rotate_left
            · (intro w hSw; (try dsimp only at hSw); go_simp; try with_reducible rfl)
            (try simp only [Act.put, List.setIfInBounds_toArray, List.set_cons_zero, List.set_cons_succ])
            refine wpAnyH_done (by kernel_rfl) ?_ _
            refine NoPanic.normal ?_
            go_wp2
            go_meet
            exact ⟨rfl, X9⟩
      case rest =>
        obtain ⟨rfl, hbx⟩ := hcut
        rename World => wg7
        clear HKP
        replace IX1 := Lib.hid (IX1.out.below hbx)
        replace IY1 := Lib.hid (IY1.out.below hbx)
        replace IZ1 := Lib.hid (IZ1.out.below hbx)
        replace Iq := Lib.hid (Iq.out.below hbx)
        replace IR := Lib.hid (IR.out.below hbx)
        replace Xc0 := (hbx.cell (p := ⟨b1, 0, none⟩) Xl).trans Xc0
        replace Xc1 := (hbx.cell (p := ⟨b1, 1, none⟩) Xl).trans Xc1
        replace Xl := Nat.lt_of_lt_of_le Xl hbx.size
        replace Yc0 := (hbx.cell (p := ⟨b2, 0, none⟩) Yl).trans Yc0
        replace Yc1 := (hbx.cell (p := ⟨b2, 1, none⟩) Yl).trans Yc1
        replace Yl := Nat.lt_of_lt_of_le Yl hbx.size
        replace Zc0 := (hbx.cell (p := ⟨b3, 0, none⟩) Zl).trans Zc0
        replace Zc1 := (hbx.cell (p := ⟨b3, 1, none⟩) Zl).trans Zc1
        replace Zl := Nat.lt_of_lt_of_le Zl hbx.size
        replace Bqc0 := (hbx.cell (p := ⟨Bqp, 0, none⟩) Bql).trans Bqc0
        replace Bqc1 := (hbx.cell (p := ⟨Bqp, 1, none⟩) Bql).trans Bqc1
        replace Bql := Nat.lt_of_lt_of_le Bql hbx.size
        replace BRc0 := (hbx.cell (p := ⟨BRp, 0, none⟩) BRl).trans BRc0
        replace BRc1 := (hbx.cell (p := ⟨BRp, 1, none⟩) BRl).trans BRc1
        replace BRl := Nat.lt_of_lt_of_le BRl hbx.size
        replace HW := Lib.hid (HW.out.trans (hbx.mono HW.out.size))
        clear hbx
        clear hcy0
        go_wp2_with fail
        refine (gcd_int _ sx sy bx by' m1 m2 k1 k2 zr zs X Y IX1.out IY1.out 1000 (by omega) (by omega) (by omega)).mono ?_
        rintro e wg8 ⟨sg, ag, mg, kg, zg, rfl, hIg, hmg, hbwg8⟩
        replace IX1 := Lib.hid (IX1.out.below hbwg8)
        replace IY1 := Lib.hid (IY1.out.below hbwg8)
        replace IZ1 := Lib.hid (IZ1.out.below hbwg8)
        replace Iq := Lib.hid (Iq.out.below hbwg8)
        replace IR := Lib.hid (IR.out.below hbwg8)
        replace Xc0 := (hbwg8.cell (p := ⟨b1, 0, none⟩) Xl).trans Xc0
        replace Xc1 := (hbwg8.cell (p := ⟨b1, 1, none⟩) Xl).trans Xc1
        replace Xl := Nat.lt_of_lt_of_le Xl hbwg8.size
        replace Yc0 := (hbwg8.cell (p := ⟨b2, 0, none⟩) Yl).trans Yc0
        replace Yc1 := (hbwg8.cell (p := ⟨b2, 1, none⟩) Yl).trans Yc1
        replace Yl := Nat.lt_of_lt_of_le Yl hbwg8.size
        replace Zc0 := (hbwg8.cell (p := ⟨b3, 0, none⟩) Zl).trans Zc0
        replace Zc1 := (hbwg8.cell (p := ⟨b3, 1, none⟩) Zl).trans Zc1
        replace Zl := Nat.lt_of_lt_of_le Zl hbwg8.size
        replace Bqc0 := (hbwg8.cell (p := ⟨Bqp, 0, none⟩) Bql).trans Bqc0
        replace Bqc1 := (hbwg8.cell (p := ⟨Bqp, 1, none⟩) Bql).trans Bqc1
        replace Bql := Nat.lt_of_lt_of_le Bql hbwg8.size
        replace BRc0 := (hbwg8.cell (p := ⟨BRp, 0, none⟩) BRl).trans BRc0
        replace BRc1 := (hbwg8.cell (p := ⟨BRp, 1, none⟩) BRl).trans BRc1
        replace BRl := Nat.lt_of_lt_of_le BRl hbwg8.size
        replace HW := Lib.hid (HW.out.trans (hbwg8.mono HW.out.size))
        have Ig := Lib.hid hIg
        clear hIg
        clear hbwg8
        have HG0 : Hid (((Nat.gcd X.natAbs Y.natAbs : Nat) : Int) ≠ 0) := Lib.hid (by have := Nat.gcd_pos_of_pos_right X.natAbs (show 0 < Y.natAbs by have := HY0.out; omega); omega)
        go_wp2_with fail
        obtain ⟨wg9, hwg9⟩ : ∃ wg9, wg9 = (wg8.alloc (.cells #[.bool sg, .slice ag mg kg] 28)) := ⟨_, rfl⟩
        have hbawg9 : Below wg8.heap.size wg8 wg9 := by rw [hwg9]; go_grown
        have hrBg : wg9.heap[wg8.heap.size]? = some (.cells #[.bool sg, .slice ag mg kg] 28 (0, 0)) := by rw [hwg9]; exact heap_alloc_new wg8 _
        rw [← hwg9]
        clear hwg9
        obtain ⟨Bgp, hBgp⟩ : ∃ p, p = wg8.heap.size := ⟨_, rfl⟩
        rw [← hBgp] at hrBg ⊢
        obtain ⟨Bgc0, Bgc1, -, -⟩ := blk2 hrBg
        have Bgl : Bgp < wg9.heap.size := World.block_lt_of_cell? _ _ Bgc0
        clear hBgp hrBg
        replace IX1 := Lib.hid (IX1.out.below hbawg9)
        replace IY1 := Lib.hid (IY1.out.below hbawg9)
        replace IZ1 := Lib.hid (IZ1.out.below hbawg9)
        replace Iq := Lib.hid (Iq.out.below hbawg9)
        replace IR := Lib.hid (IR.out.below hbawg9)
        replace Ig := Lib.hid (Ig.out.below hbawg9)
        replace Xc0 := (hbawg9.cell (p := ⟨b1, 0, none⟩) Xl).trans Xc0
        replace Xc1 := (hbawg9.cell (p := ⟨b1, 1, none⟩) Xl).trans Xc1
        replace Xl := Nat.lt_of_lt_of_le Xl hbawg9.size
        replace Yc0 := (hbawg9.cell (p := ⟨b2, 0, none⟩) Yl).trans Yc0
        replace Yc1 := (hbawg9.cell (p := ⟨b2, 1, none⟩) Yl).trans Yc1
        replace Yl := Nat.lt_of_lt_of_le Yl hbawg9.size
        replace Zc0 := (hbawg9.cell (p := ⟨b3, 0, none⟩) Zl).trans Zc0
        replace Zc1 := (hbawg9.cell (p := ⟨b3, 1, none⟩) Zl).trans Zc1
        replace Zl := Nat.lt_of_lt_of_le Zl hbawg9.size
        replace Bqc0 := (hbawg9.cell (p := ⟨Bqp, 0, none⟩) Bql).trans Bqc0
        replace Bqc1 := (hbawg9.cell (p := ⟨Bqp, 1, none⟩) Bql).trans Bqc1
        replace Bql := Nat.lt_of_lt_of_le Bql hbawg9.size
        replace BRc0 := (hbawg9.cell (p := ⟨BRp, 0, none⟩) BRl).trans BRc0
        replace BRc1 := (hbawg9.cell (p := ⟨BRp, 1, none⟩) BRl).trans BRc1
        replace BRl := Nat.lt_of_lt_of_le BRl hbawg9.size
        replace HW := Lib.hid (HW.out.trans (hbawg9.mono HW.out.size))
        clear hbawg9
        refine (divide_int _ sx sg bx ag m1 mg k1 kg zr zg X (Nat.gcd X.natAbs Y.natAbs : Int) IX1.out Ig.out HG0.out (by omega)).mono ?_
        rintro e wg10 ⟨sc, ac, mc, kc, zc, sm, am, mm, km, zm, rfl, hIc, hmc, hIm, hmm, hbwg10⟩
        replace IX1 := Lib.hid (IX1.out.below hbwg10)
        replace IY1 := Lib.hid (IY1.out.below hbwg10)
        replace IZ1 := Lib.hid (IZ1.out.below hbwg10)
        replace Iq := Lib.hid (Iq.out.below hbwg10)
        replace IR := Lib.hid (IR.out.below hbwg10)
        replace Ig := Lib.hid (Ig.out.below hbwg10)
        replace Xc0 := (hbwg10.cell (p := ⟨b1, 0, none⟩) Xl).trans Xc0
        replace Xc1 := (hbwg10.cell (p := ⟨b1, 1, none⟩) Xl).trans Xc1
        replace Xl := Nat.lt_of_lt_of_le Xl hbwg10.size
        replace Yc0 := (hbwg10.cell (p := ⟨b2, 0, none⟩) Yl).trans Yc0
        replace Yc1 := (hbwg10.cell (p := ⟨b2, 1, none⟩) Yl).trans Yc1
        replace Yl := Nat.lt_of_lt_of_le Yl hbwg10.size
        replace Zc0 := (hbwg10.cell (p := ⟨b3, 0, none⟩) Zl).trans Zc0
        replace Zc1 := (hbwg10.cell (p := ⟨b3, 1, none⟩) Zl).trans Zc1
        replace Zl := Nat.lt_of_lt_of_le Zl hbwg10.size
        replace Bqc0 := (hbwg10.cell (p := ⟨Bqp, 0, none⟩) Bql).trans Bqc0
        replace Bqc1 := (hbwg10.cell (p := ⟨Bqp, 1, none⟩) Bql).trans Bqc1
        replace Bql := Nat.lt_of_lt_of_le Bql hbwg10.size
        replace BRc0 := (hbwg10.cell (p := ⟨BRp, 0, none⟩) BRl).trans BRc0
        replace BRc1 := (hbwg10.cell (p := ⟨BRp, 1, none⟩) BRl).trans BRc1
        replace BRl := Nat.lt_of_lt_of_le BRl hbwg10.size
        replace Bgc0 := (hbwg10.cell (p := ⟨Bgp, 0, none⟩) Bgl).trans Bgc0
        replace Bgc1 := (hbwg10.cell (p := ⟨Bgp, 1, none⟩) Bgl).trans Bgc1
        replace Bgl := Nat.lt_of_lt_of_le Bgl hbwg10.size
        replace HW := Lib.hid (HW.out.trans (hbwg10.mono HW.out.size))
        have Ic := Lib.hid hIc
        clear hIc
        have Im := Lib.hid hIm
        clear hIm
        clear hbwg10
        go_wp2_with fail
        obtain ⟨wg11, hwg11⟩ : ∃ wg11, wg11 = ((wg10.alloc (.cells #[.bool sc, .slice ac mc kc] 28)).alloc (.cells #[.bool sm, .slice am mm km] 28)) := ⟨_, rfl⟩
        have hbawg11 : Below wg10.heap.size wg10 wg11 := by rw [hwg11]; go_grown
        have hrBc : wg11.heap[wg10.heap.size]? = some (.cells #[.bool sc, .slice ac mc kc] 28 (0, 0)) := by rw [hwg11]; exact (heap_alloc2 wg10 _ _).2
        have hrBm : wg11.heap[wg10.heap.size + 1]? = some (.cells #[.bool sm, .slice am mm km] 28 (0, 0)) := by rw [hwg11]; exact (heap_alloc2 wg10 _ _).1
        rw [← hwg11]
        clear hwg11
        obtain ⟨Bcp, hBcp⟩ : ∃ p, p = wg10.heap.size := ⟨_, rfl⟩
        obtain ⟨Bmp, hBmp⟩ : ∃ p, p = wg10.heap.size + 1 := ⟨_, rfl⟩
        rw [← hBmp] at hrBm ⊢
        rw [← hBcp] at hrBc ⊢
        obtain ⟨Bcc0, Bcc1, -, -⟩ := blk2 hrBc
        have Bcl : Bcp < wg11.heap.size := World.block_lt_of_cell? _ _ Bcc0
        clear hBcp hrBc
        obtain ⟨Bmc0, Bmc1, -, -⟩ := blk2 hrBm
        have Bml : Bmp < wg11.heap.size := World.block_lt_of_cell? _ _ Bmc0
        clear hBmp hrBm
        replace IX1 := Lib.hid (IX1.out.below hbawg11)
        replace IY1 := Lib.hid (IY1.out.below hbawg11)
        replace IZ1 := Lib.hid (IZ1.out.below hbawg11)
        replace Iq := Lib.hid (Iq.out.below hbawg11)
        replace IR := Lib.hid (IR.out.below hbawg11)
        replace Ig := Lib.hid (Ig.out.below hbawg11)
        replace Ic := Lib.hid (Ic.out.below hbawg11)
        replace Im := Lib.hid (Im.out.below hbawg11)
        replace Xc0 := (hbawg11.cell (p := ⟨b1, 0, none⟩) Xl).trans Xc0
        replace Xc1 := (hbawg11.cell (p := ⟨b1, 1, none⟩) Xl).trans Xc1
        replace Xl := Nat.lt_of_lt_of_le Xl hbawg11.size
        replace Yc0 := (hbawg11.cell (p := ⟨b2, 0, none⟩) Yl).trans Yc0
        replace Yc1 := (hbawg11.cell (p := ⟨b2, 1, none⟩) Yl).trans Yc1
        replace Yl := Nat.lt_of_lt_of_le Yl hbawg11.size
        replace Zc0 := (hbawg11.cell (p := ⟨b3, 0, none⟩) Zl).trans Zc0
        replace Zc1 := (hbawg11.cell (p := ⟨b3, 1, none⟩) Zl).trans Zc1
        replace Zl := Nat.lt_of_lt_of_le Zl hbawg11.size
        replace Bqc0 := (hbawg11.cell (p := ⟨Bqp, 0, none⟩) Bql).trans Bqc0
        replace Bqc1 := (hbawg11.cell (p := ⟨Bqp, 1, none⟩) Bql).trans Bqc1
        replace Bql := Nat.lt_of_lt_of_le Bql hbawg11.size
        replace BRc0 := (hbawg11.cell (p := ⟨BRp, 0, none⟩) BRl).trans BRc0
        replace BRc1 := (hbawg11.cell (p := ⟨BRp, 1, none⟩) BRl).trans BRc1
        replace BRl := Nat.lt_of_lt_of_le BRl hbawg11.size
        replace Bgc0 := (hbawg11.cell (p := ⟨Bgp, 0, none⟩) Bgl).trans Bgc0
        replace Bgc1 := (hbawg11.cell (p := ⟨Bgp, 1, none⟩) Bgl).trans Bgc1
        replace Bgl := Nat.lt_of_lt_of_le Bgl hbawg11.size
        replace HW := Lib.hid (HW.out.trans (hbawg11.mono HW.out.size))
        clear hbawg11
        refine (divide_int _ sy sg by' ag m2 mg k2 kg zs zg Y (Nat.gcd X.natAbs Y.natAbs : Int) IY1.out Ig.out HG0.out (by omega)).mono ?_
        rintro e wg12 ⟨sd, ad, md, kd, zd, sn, an, mn, kn, zn, rfl, hId, hmd, hIn, hmn, hbwg12⟩
        replace IX1 := Lib.hid (IX1.out.below hbwg12)
        replace IY1 := Lib.hid (IY1.out.below hbwg12)
        replace IZ1 := Lib.hid (IZ1.out.below hbwg12)
        replace Iq := Lib.hid (Iq.out.below hbwg12)
        replace IR := Lib.hid (IR.out.below hbwg12)
        replace Ig := Lib.hid (Ig.out.below hbwg12)
        replace Ic := Lib.hid (Ic.out.below hbwg12)
        replace Im := Lib.hid (Im.out.below hbwg12)
        replace Xc0 := (hbwg12.cell (p := ⟨b1, 0, none⟩) Xl).trans Xc0
        replace Xc1 := (hbwg12.cell (p := ⟨b1, 1, none⟩) Xl).trans Xc1
        replace Xl := Nat.lt_of_lt_of_le Xl hbwg12.size
        replace Yc0 := (hbwg12.cell (p := ⟨b2, 0, none⟩) Yl).trans Yc0
        replace Yc1 := (hbwg12.cell (p := ⟨b2, 1, none⟩) Yl).trans Yc1
        replace Yl := Nat.lt_of_lt_of_le Yl hbwg12.size
        replace Zc0 := (hbwg12.cell (p := ⟨b3, 0, none⟩) Zl).trans Zc0
        replace Zc1 := (hbwg12.cell (p := ⟨b3, 1, none⟩) Zl).trans Zc1
        replace Zl := Nat.lt_of_lt_of_le Zl hbwg12.size
        replace Bqc0 := (hbwg12.cell (p := ⟨Bqp, 0, none⟩) Bql).trans Bqc0
        replace Bqc1 := (hbwg12.cell (p := ⟨Bqp, 1, none⟩) Bql).trans Bqc1
        replace Bql := Nat.lt_of_lt_of_le Bql hbwg12.size
        replace BRc0 := (hbwg12.cell (p := ⟨BRp, 0, none⟩) BRl).trans BRc0
        replace BRc1 := (hbwg12.cell (p := ⟨BRp, 1, none⟩) BRl).trans BRc1
        replace BRl := Nat.lt_of_lt_of_le BRl hbwg12.size
        replace Bgc0 := (hbwg12.cell (p := ⟨Bgp, 0, none⟩) Bgl).trans Bgc0
        replace Bgc1 := (hbwg12.cell (p := ⟨Bgp, 1, none⟩) Bgl).trans Bgc1
        replace Bgl := Nat.lt_of_lt_of_le Bgl hbwg12.size
        replace Bcc0 := (hbwg12.cell (p := ⟨Bcp, 0, none⟩) Bcl).trans Bcc0
        replace Bcc1 := (hbwg12.cell (p := ⟨Bcp, 1, none⟩) Bcl).trans Bcc1
        replace Bcl := Nat.lt_of_lt_of_le Bcl hbwg12.size
        replace Bmc0 := (hbwg12.cell (p := ⟨Bmp, 0, none⟩) Bml).trans Bmc0
        replace Bmc1 := (hbwg12.cell (p := ⟨Bmp, 1, none⟩) Bml).trans Bmc1
        replace Bml := Nat.lt_of_lt_of_le Bml hbwg12.size
        replace HW := Lib.hid (HW.out.trans (hbwg12.mono HW.out.size))
        have Id := Lib.hid hId
        clear hId
        have In := Lib.hid hIn
        clear hIn
        clear hbwg12
        go_wp2_with fail
        obtain ⟨wg13, hwg13⟩ : ∃ wg13, wg13 = ((wg12.alloc (.cells #[.bool sd, .slice ad md kd] 28)).alloc (.cells #[.bool sn, .slice an mn kn] 28)) := ⟨_, rfl⟩
        have hbawg13 : Below wg12.heap.size wg12 wg13 := by rw [hwg13]; go_grown
        have hrBd : wg13.heap[wg12.heap.size]? = some (.cells #[.bool sd, .slice ad md kd] 28 (0, 0)) := by rw [hwg13]; exact (heap_alloc2 wg12 _ _).2
        have hrBn : wg13.heap[wg12.heap.size + 1]? = some (.cells #[.bool sn, .slice an mn kn] 28 (0, 0)) := by rw [hwg13]; exact (heap_alloc2 wg12 _ _).1
        rw [← hwg13]
        clear hwg13
        obtain ⟨Bdp, hBdp⟩ : ∃ p, p = wg12.heap.size := ⟨_, rfl⟩
        obtain ⟨Bnp, hBnp⟩ : ∃ p, p = wg12.heap.size + 1 := ⟨_, rfl⟩
        rw [← hBnp] at hrBn ⊢
        rw [← hBdp] at hrBd ⊢
        obtain ⟨Bdc0, Bdc1, -, -⟩ := blk2 hrBd
        have Bdl : Bdp < wg13.heap.size := World.block_lt_of_cell? _ _ Bdc0
        clear hBdp hrBd
        obtain ⟨Bnc0, Bnc1, -, -⟩ := blk2 hrBn
        have Bnl : Bnp < wg13.heap.size := World.block_lt_of_cell? _ _ Bnc0
        clear hBnp hrBn
        replace IX1 := Lib.hid (IX1.out.below hbawg13)
        replace IY1 := Lib.hid (IY1.out.below hbawg13)
        replace IZ1 := Lib.hid (IZ1.out.below hbawg13)
        replace Iq := Lib.hid (Iq.out.below hbawg13)
        replace IR := Lib.hid (IR.out.below hbawg13)
        replace Ig := Lib.hid (Ig.out.below hbawg13)
        replace Ic := Lib.hid (Ic.out.below hbawg13)
        replace Im := Lib.hid (Im.out.below hbawg13)
        replace Id := Lib.hid (Id.out.below hbawg13)
        replace In := Lib.hid (In.out.below hbawg13)
        replace Xc0 := (hbawg13.cell (p := ⟨b1, 0, none⟩) Xl).trans Xc0
        replace Xc1 := (hbawg13.cell (p := ⟨b1, 1, none⟩) Xl).trans Xc1
        replace Xl := Nat.lt_of_lt_of_le Xl hbawg13.size
        replace Yc0 := (hbawg13.cell (p := ⟨b2, 0, none⟩) Yl).trans Yc0
        replace Yc1 := (hbawg13.cell (p := ⟨b2, 1, none⟩) Yl).trans Yc1
        replace Yl := Nat.lt_of_lt_of_le Yl hbawg13.size
        replace Zc0 := (hbawg13.cell (p := ⟨b3, 0, none⟩) Zl).trans Zc0
        replace Zc1 := (hbawg13.cell (p := ⟨b3, 1, none⟩) Zl).trans Zc1
        replace Zl := Nat.lt_of_lt_of_le Zl hbawg13.size
        replace Bqc0 := (hbawg13.cell (p := ⟨Bqp, 0, none⟩) Bql).trans Bqc0
        replace Bqc1 := (hbawg13.cell (p := ⟨Bqp, 1, none⟩) Bql).trans Bqc1
        replace Bql := Nat.lt_of_lt_of_le Bql hbawg13.size
        replace BRc0 := (hbawg13.cell (p := ⟨BRp, 0, none⟩) BRl).trans BRc0
        replace BRc1 := (hbawg13.cell (p := ⟨BRp, 1, none⟩) BRl).trans BRc1
        replace BRl := Nat.lt_of_lt_of_le BRl hbawg13.size
        replace Bgc0 := (hbawg13.cell (p := ⟨Bgp, 0, none⟩) Bgl).trans Bgc0
        replace Bgc1 := (hbawg13.cell (p := ⟨Bgp, 1, none⟩) Bgl).trans Bgc1
        replace Bgl := Nat.lt_of_lt_of_le Bgl hbawg13.size
        replace Bcc0 := (hbawg13.cell (p := ⟨Bcp, 0, none⟩) Bcl).trans Bcc0
        replace Bcc1 := (hbawg13.cell (p := ⟨Bcp, 1, none⟩) Bcl).trans Bcc1
        replace Bcl := Nat.lt_of_lt_of_le Bcl hbawg13.size
        replace Bmc0 := (hbawg13.cell (p := ⟨Bmp, 0, none⟩) Bml).trans Bmc0
        replace Bmc1 := (hbawg13.cell (p := ⟨Bmp, 1, none⟩) Bml).trans Bmc1
        replace Bml := Nat.lt_of_lt_of_le Bml hbawg13.size
        replace HW := Lib.hid (HW.out.trans (hbawg13.mono HW.out.size))
        clear hbawg13
        have HKP : Hid (∀ w', Below wg13.heap.size wg13 w' → (w'.cell? ⟨b1, 0, none⟩ = some (.bool sx) ∧ w'.cell? ⟨b1, 1, none⟩ = some (.slice bx m1 k1) ∧ w'.cell? ⟨b2, 0, none⟩ = some (.bool sy) ∧ w'.cell? ⟨b2, 1, none⟩ = some (.slice by' m2 k2) ∧ w'.cell? ⟨b3, 0, none⟩ = some (.bool sz) ∧ w'.cell? ⟨b3, 1, none⟩ = some (.slice bz m3 k3) ∧ w'.cell? ⟨Bgp, 0, none⟩ = some (.bool sg) ∧ w'.cell? ⟨Bgp, 1, none⟩ = some (.slice ag mg kg) ∧ w'.cell? ⟨Bmp, 0, none⟩ = some (.bool sm) ∧ w'.cell? ⟨Bmp, 1, none⟩ = some (.slice am mm km) ∧ w'.cell? ⟨Bnp, 0, none⟩ = some (.bool sn) ∧ w'.cell? ⟨Bnp, 1, none⟩ = some (.slice an mn kn))) := Lib.hid (fun w' hb => ⟨(hb.cell (p := ⟨b1, 0, none⟩) Xl).trans Xc0, (hb.cell (p := ⟨b1, 1, none⟩) Xl).trans Xc1, (hb.cell (p := ⟨b2, 0, none⟩) Yl).trans Yc0, (hb.cell (p := ⟨b2, 1, none⟩) Yl).trans Yc1, (hb.cell (p := ⟨b3, 0, none⟩) Zl).trans Zc0, (hb.cell (p := ⟨b3, 1, none⟩) Zl).trans Zc1, (hb.cell (p := ⟨Bgp, 0, none⟩) Bgl).trans Bgc0, (hb.cell (p := ⟨Bgp, 1, none⟩) Bgl).trans Bgc1, (hb.cell (p := ⟨Bmp, 0, none⟩) Bml).trans Bmc0, (hb.cell (p := ⟨Bmp, 1, none⟩) Bml).trans Bmc1, (hb.cell (p := ⟨Bnp, 0, none⟩) Bnl).trans Bnc0, (hb.cell (p := ⟨Bnp, 1, none⟩) Bnl).trans Bnc1⟩)
        go_cut [149] (fun b wx => b = .bool false ∧ Below wg13.heap.size wg13 wx)
        case first =>
          as_aux_lemma =>
            refine wp_region_noPanic ?_
            refine wp_region_held_drew (S := (fun w' => w'.cell? ⟨b1, 0, none⟩ = some (.bool sx) ∧ w'.cell? ⟨b1, 1, none⟩ = some (.slice bx m1 k1) ∧ w'.cell? ⟨b2, 0, none⟩ = some (.bool sy) ∧ w'.cell? ⟨b2, 1, none⟩ = some (.slice by' m2 k2) ∧ w'.cell? ⟨b3, 0, none⟩ = some (.bool sz) ∧ w'.cell? ⟨b3, 1, none⟩ = some (.slice bz m3 k3) ∧ w'.cell? ⟨Bgp, 0, none⟩ = some (.bool sg) ∧ w'.cell? ⟨Bgp, 1, none⟩ = some (.slice ag mg kg) ∧ w'.cell? ⟨Bmp, 0, none⟩ = some (.bool sm) ∧ w'.cell? ⟨Bmp, 1, none⟩ = some (.slice am mm km) ∧ w'.cell? ⟨Bnp, 0, none⟩ = some (.bool sn) ∧ w'.cell? ⟨Bnp, 1, none⟩ = some (.slice an mn kn))) (by kernel_rfl) ?_ (fun hH0 => ?_)
            · exact HKP.out _ (Below.refl _ _).drew
            refine wpAnyH_take (i := 0) (oi := ({ dst := some 114, op := Op.move (Operand.tmp 13), type := 44, pos := "more.go:58", after := #[], guard := none } : Oper)) (v := ?_) rfl (by kernel_rfl) (by kernel_rfl) (by kernel_rfl) (fun _ _ _ h => h) (Or.inl ⟨by rfl, ?_⟩) (by assumption) ?_
            rotate_left
            · (intro w hSw; (try dsimp only at hSw); go_simp; try with_reducible rfl)
            (try simp only [Act.put, List.setIfInBounds_toArray, List.set_cons_zero, List.set_cons_succ])
            refine wpAnyH_take (i := 1) (oi := ({ dst := some 115, op := Op.binOp BinOp.neq 44 (Operand.tmp 114) (Operand.const (Value.int IntKind.i64 0)) 44, type := 4, pos := "more.go:58", after := #[{ on := 0, ground := Ground.data }], guard := none } : Oper)) (v := ?_) rfl (by kernel_rfl) (by kernel_rfl) (by kernel_rfl) (fun _ _ _ h => h) (Or.inl ⟨by rfl, ?_⟩) (by assumption) ?_
            rotate_left
            · (intro w hSw; (try dsimp only at hSw); go_simp; try with_reducible rfl)
            (try simp only [Act.put, List.setIfInBounds_toArray, List.set_cons_zero, List.set_cons_succ])
            refine wpAnyH_take (i := 2) (oi := ({ dst := some 116, op := Op.move (Operand.tmp 115), type := 4, pos := "more.go:58", after := #[{ on := 1, ground := Ground.data }], guard := none } : Oper)) (v := ?_) rfl (by kernel_rfl) (by kernel_rfl) (by kernel_rfl) (fun _ _ _ h => h) (Or.inl ⟨by rfl, ?_⟩) (by assumption) ?_
            rotate_left
            · (intro w hSw; (try dsimp only at hSw); go_simp; try with_reducible rfl)
            (try simp only [Act.put, List.setIfInBounds_toArray, List.set_cons_zero, List.set_cons_succ])
            refine wpAnyH_take (i := 3) (oi := ({ dst := some 117, op := Op.move (Operand.tmp 19), type := 44, pos := "more.go:58", after := #[{ on := 2, ground := Ground.guard }], guard := some (2, false) } : Oper)) (v := ?_) rfl (by kernel_rfl) (by kernel_rfl) (by kernel_rfl) (fun _ _ _ h => h) (Or.inl ⟨by rfl, ?_⟩) (by assumption) ?_
            rotate_left
            · (intro w hSw; (try dsimp only at hSw); go_simp; try with_reducible rfl)
            (try simp only [Act.put, List.setIfInBounds_toArray, List.set_cons_zero, List.set_cons_succ])
            refine wpAnyH_take (i := 4) (oi := ({ dst := some 118, op := Op.binOp BinOp.neq 44 (Operand.tmp 117) (Operand.const (Value.int IntKind.i64 0)) 44, type := 4, pos := "more.go:58", after := #[{ on := 3, ground := Ground.data }, { on := 2, ground := Ground.guard }], guard := some (2, false) } : Oper)) (v := ?_) rfl (by kernel_rfl) (by kernel_rfl) (by kernel_rfl) (fun _ _ _ h => h) (Or.inl ⟨by rfl, ?_⟩) (by assumption) ?_
            rotate_left
            · (intro w hSw; (try dsimp only at hSw); go_simp; try with_reducible rfl)
            (try simp only [Act.put, List.setIfInBounds_toArray, List.set_cons_zero, List.set_cons_succ])
            refine wpAnyH_take (i := 5) (oi := ({ dst := some 119, op := Op.pick (Operand.tmp 116) (Operand.const (Value.bool true)) (Operand.tmp 118), type := 4, pos := "more.go:58", after := #[{ on := 2, ground := Ground.data }, { on := 4, ground := Ground.data }], guard := none } : Oper)) (v := ?_) rfl (by kernel_rfl) (by kernel_rfl) (by kernel_rfl) (fun _ _ _ h => h) (Or.inl ⟨by rfl, ?_⟩) (by assumption) ?_
            rotate_left
            · (intro w hSw; (try dsimp only at hSw); go_simp; try with_reducible rfl)
            (try simp only [Act.put, List.setIfInBounds_toArray, List.set_cons_zero, List.set_cons_succ])
            refine wpAnyH_take (i := 6) (oi := ({ dst := some 120, op := Op.move (Operand.tmp 119), type := 4, pos := "more.go:58", after := #[{ on := 5, ground := Ground.data }, { on := 2, ground := Ground.chain }], guard := none } : Oper)) (v := ?_) rfl (by kernel_rfl) (by kernel_rfl) (by kernel_rfl) (fun _ _ _ h => h) (Or.inl ⟨by rfl, ?_⟩) (by assumption) ?_
            rotate_left
            · (intro w hSw; (try dsimp only at hSw); go_simp; try with_reducible rfl)
            (try simp only [Act.put, List.setIfInBounds_toArray, List.set_cons_zero, List.set_cons_succ])
            refine wpAnyH_take (i := 7) (oi := ({ dst := some 121, op := Op.load 28 (Operand.tmp 16), type := 28, pos := "more.go:58", after := #[{ on := 6, ground := Ground.guard }], guard := some (6, false) } : Oper)) (v := ?_) rfl (by kernel_rfl) (by kernel_rfl) (by kernel_rfl) (fun _ _ _ h => h) (Or.inl ⟨by rfl, ?_⟩) (by assumption) ?_
            rotate_left
            · (intro w hSw; (try dsimp only at hSw); go_simp; try with_reducible rfl)
            (try simp only [Act.put, List.setIfInBounds_toArray, List.set_cons_zero, List.set_cons_succ])
            refine wpAnyH_ready (rs := [8]) (by kernel_rfl) (by simp) ?_
            refine AllReadyH.cons (o := ({ dst := some 122, op := Op.call { callee := Callee.value (Operand.func 22), args := #[Operand.tmp 121], argTypes := #[28] }, type := 3, pos := "more.go:58", after := #[{ on := 7, ground := Ground.data }, { on := 6, ground := Ground.chain }, { on := 6, ground := Ground.guard }], guard := some (6, false) } : Oper)) rfl (fun K hK => ?_) AllReadyH.nil
            go_simp
            refine (sign_is _ sm am mm km zm (X.tmod (Nat.gcd X.natAbs Y.natAbs : Int)) 0 (Im.out.below (Below.refl _ _).drew) (cmpI_eq (gcd_rem (Nat.gcd_dvd_left _ _)))).mono ?_
            rintro e v1 ⟨rfl, u1⟩
            have X1 : Below wg13.heap.size wg13 v1 := (Below.refl _ _).drew.trans u1
            clear u1
            refine hK.out _ _ ?_ (fun hH1 => ?_)
            · exact HKP.out _ X1
            clear hK K hH0
            (try simp only [Act.put, List.setIfInBounds_toArray, List.set_cons_zero, List.set_cons_succ])
            refine wpAnyH_take (i := 9) (oi := ({ dst := some 123, op := Op.binOp BinOp.neq 3 (Operand.tmp 122) (Operand.const (Value.int IntKind.i64 0)) 3, type := 4, pos := "more.go:58", after := #[{ on := 8, ground := Ground.data }, { on := 6, ground := Ground.guard }], guard := some (6, false) } : Oper)) (v := ?_) rfl (by kernel_rfl) (by kernel_rfl) (by kernel_rfl) (fun _ _ _ h => h) (Or.inl ⟨by rfl, ?_⟩) (by assumption) ?_
            rotate_left
            · (intro w hSw; (try dsimp only at hSw); go_simp; try with_reducible rfl)
            (try simp only [Act.put, List.setIfInBounds_toArray, List.set_cons_zero, List.set_cons_succ])
            refine wpAnyH_take (i := 10) (oi := ({ dst := some 124, op := Op.pick (Operand.tmp 120) (Operand.const (Value.bool true)) (Operand.tmp 123), type := 4, pos := "more.go:58", after := #[{ on := 6, ground := Ground.data }, { on := 9, ground := Ground.data }], guard := none } : Oper)) (v := ?_) rfl (by kernel_rfl) (by kernel_rfl) (by kernel_rfl) (fun _ _ _ h => h) (Or.inl ⟨by rfl, ?_⟩) (by assumption) ?_
            rotate_left
            · (intro w hSw; (try dsimp only at hSw); go_simp; try with_reducible rfl)
            (try simp only [Act.put, List.setIfInBounds_toArray, List.set_cons_zero, List.set_cons_succ])
            refine wpAnyH_take (i := 11) (oi := ({ dst := some 125, op := Op.move (Operand.tmp 124), type := 4, pos := "more.go:58", after := #[{ on := 10, ground := Ground.data }, { on := 8, ground := Ground.chain }], guard := none } : Oper)) (v := ?_) rfl (by kernel_rfl) (by kernel_rfl) (by kernel_rfl) (fun _ _ _ h => h) (Or.inl ⟨by rfl, ?_⟩) (by assumption) ?_
            rotate_left
            · (intro w hSw; (try dsimp only at hSw); go_simp; try with_reducible rfl)
            (try simp only [Act.put, List.setIfInBounds_toArray, List.set_cons_zero, List.set_cons_succ])
            refine wpAnyH_take (i := 12) (oi := ({ dst := some 126, op := Op.load 28 (Operand.tmp 18), type := 28, pos := "more.go:58", after := #[{ on := 11, ground := Ground.guard }], guard := some (11, false) } : Oper)) (v := ?_) rfl (by kernel_rfl) (by kernel_rfl) (by kernel_rfl) (fun _ _ _ h => h) (Or.inl ⟨by rfl, ?_⟩) (by assumption) ?_
            rotate_left
            · (intro w hSw; (try dsimp only at hSw); go_simp; try with_reducible rfl)
            (try simp only [Act.put, List.setIfInBounds_toArray, List.set_cons_zero, List.set_cons_succ])
            refine wpAnyH_ready (rs := [13]) (by kernel_rfl) (by simp) ?_
            refine AllReadyH.cons (o := ({ dst := some 127, op := Op.call { callee := Callee.value (Operand.func 22), args := #[Operand.tmp 126], argTypes := #[28] }, type := 3, pos := "more.go:58", after := #[{ on := 12, ground := Ground.data }, { on := 11, ground := Ground.chain }, { on := 11, ground := Ground.guard }], guard := some (11, false) } : Oper)) rfl (fun K hK => ?_) AllReadyH.nil
            go_simp
            refine (sign_is _ sn an mn kn zn (Y.tmod (Nat.gcd X.natAbs Y.natAbs : Int)) 0 (In.out.below X1) (cmpI_eq (gcd_rem (Nat.gcd_dvd_right _ _)))).mono ?_
            rintro e v2 ⟨rfl, u2⟩
            have X2 : Below wg13.heap.size wg13 v2 := X1.trans (u2.mono X1.size)
            clear u2
            refine hK.out _ _ ?_ (fun hH2 => ?_)
            · exact HKP.out _ X2
            clear hK K hH1
            (try simp only [Act.put, List.setIfInBounds_toArray, List.set_cons_zero, List.set_cons_succ])
            refine wpAnyH_take (i := 14) (oi := ({ dst := some 128, op := Op.binOp BinOp.neq 3 (Operand.tmp 127) (Operand.const (Value.int IntKind.i64 0)) 3, type := 4, pos := "more.go:58", after := #[{ on := 13, ground := Ground.data }, { on := 11, ground := Ground.guard }], guard := some (11, false) } : Oper)) (v := ?_) rfl (by kernel_rfl) (by kernel_rfl) (by kernel_rfl) (fun _ _ _ h => h) (Or.inl ⟨by rfl, ?_⟩) (by assumption) ?_
            rotate_left
            · (intro w hSw; (try dsimp only at hSw); go_simp; try with_reducible rfl)
            (try simp only [Act.put, List.setIfInBounds_toArray, List.set_cons_zero, List.set_cons_succ])
            refine wpAnyH_take (i := 15) (oi := ({ dst := some 129, op := Op.pick (Operand.tmp 125) (Operand.const (Value.bool true)) (Operand.tmp 128), type := 4, pos := "more.go:58", after := #[{ on := 11, ground := Ground.data }, { on := 14, ground := Ground.data }], guard := none } : Oper)) (v := ?_) rfl (by kernel_rfl) (by kernel_rfl) (by kernel_rfl) (fun _ _ _ h => h) (Or.inl ⟨by rfl, ?_⟩) (by assumption) ?_
            rotate_left
            · (intro w hSw; (try dsimp only at hSw); go_simp; try with_reducible rfl)
            (try simp only [Act.put, List.setIfInBounds_toArray, List.set_cons_zero, List.set_cons_succ])
            refine wpAnyH_take (i := 16) (oi := ({ dst := some 130, op := Op.move (Operand.tmp 129), type := 4, pos := "more.go:58", after := #[{ on := 15, ground := Ground.data }, { on := 13, ground := Ground.chain }], guard := none } : Oper)) (v := ?_) rfl (by kernel_rfl) (by kernel_rfl) (by kernel_rfl) (fun _ _ _ h => h) (Or.inl ⟨by rfl, ?_⟩) (by assumption) ?_
            rotate_left
            · (intro w hSw; (try dsimp only at hSw); go_simp; try with_reducible rfl)
            (try simp only [Act.put, List.setIfInBounds_toArray, List.set_cons_zero, List.set_cons_succ])
            refine wpAnyH_take (i := 17) (oi := ({ dst := some 131, op := Op.load 28 (Operand.tmp 14), type := 28, pos := "more.go:58", after := #[{ on := 16, ground := Ground.guard }], guard := some (16, false) } : Oper)) (v := ?_) rfl (by kernel_rfl) (by kernel_rfl) (by kernel_rfl) (fun _ _ _ h => h) (Or.inl ⟨by rfl, ?_⟩) (by assumption) ?_
            rotate_left
            · (intro w hSw; (try dsimp only at hSw); go_simp; try with_reducible rfl)
            (try simp only [Act.put, List.setIfInBounds_toArray, List.set_cons_zero, List.set_cons_succ])
            refine wpAnyH_ready (rs := [18]) (by kernel_rfl) (by simp) ?_
            refine AllReadyH.cons (o := ({ dst := some 132, op := Op.call { callee := Callee.value (Operand.func 22), args := #[Operand.tmp 131], argTypes := #[28] }, type := 3, pos := "more.go:58", after := #[{ on := 17, ground := Ground.data }, { on := 16, ground := Ground.chain }, { on := 16, ground := Ground.guard }], guard := some (16, false) } : Oper)) rfl (fun K hK => ?_) AllReadyH.nil
            go_simp
            refine (sign_is _ sg ag mg kg zg (Nat.gcd X.natAbs Y.natAbs : Int) 1 (Ig.out.below X2) (cmpI_gt (by have := HG0.out; omega))).mono ?_
            rintro e v3 ⟨rfl, u3⟩
            have X3 : Below wg13.heap.size wg13 v3 := X2.trans (u3.mono X2.size)
            clear u3
            refine hK.out _ _ ?_ (fun hH3 => ?_)
            · exact HKP.out _ X3
            clear hK K hH2
            (try simp only [Act.put, List.setIfInBounds_toArray, List.set_cons_zero, List.set_cons_succ])
            refine wpAnyH_take (i := 19) (oi := ({ dst := some 133, op := Op.binOp BinOp.leq 3 (Operand.tmp 132) (Operand.const (Value.int IntKind.i64 0)) 3, type := 4, pos := "more.go:58", after := #[{ on := 18, ground := Ground.data }, { on := 16, ground := Ground.guard }], guard := some (16, false) } : Oper)) (v := ?_) rfl (by kernel_rfl) (by kernel_rfl) (by kernel_rfl) (fun _ _ _ h => h) (Or.inl ⟨by rfl, ?_⟩) (by assumption) ?_
            rotate_left
            · (intro w hSw; (try dsimp only at hSw); go_simp; try with_reducible rfl)
            (try simp only [Act.put, List.setIfInBounds_toArray, List.set_cons_zero, List.set_cons_succ])
            refine wpAnyH_take (i := 20) (oi := ({ dst := some 134, op := Op.pick (Operand.tmp 130) (Operand.const (Value.bool true)) (Operand.tmp 133), type := 4, pos := "more.go:58", after := #[{ on := 16, ground := Ground.data }, { on := 19, ground := Ground.data }], guard := none } : Oper)) (v := ?_) rfl (by kernel_rfl) (by kernel_rfl) (by kernel_rfl) (fun _ _ _ h => h) (Or.inl ⟨by rfl, ?_⟩) (by assumption) ?_
            rotate_left
            · (intro w hSw; (try dsimp only at hSw); go_simp; try with_reducible rfl)
            (try simp only [Act.put, List.setIfInBounds_toArray, List.set_cons_zero, List.set_cons_succ])
            refine wpAnyH_take (i := 21) (oi := ({ dst := some 135, op := Op.move (Operand.tmp 134), type := 4, pos := "more.go:58", after := #[{ on := 20, ground := Ground.data }, { on := 18, ground := Ground.chain }], guard := none } : Oper)) (v := ?_) rfl (by kernel_rfl) (by kernel_rfl) (by kernel_rfl) (fun _ _ _ h => h) (Or.inl ⟨by rfl, ?_⟩) (by assumption) ?_
            rotate_left
            · (intro w hSw; (try dsimp only at hSw); go_simp; try with_reducible rfl)
            (try simp only [Act.put, List.setIfInBounds_toArray, List.set_cons_zero, List.set_cons_succ])
            refine wpAnyH_take (i := 22) (oi := ({ dst := some 136, op := Op.load 28 (Operand.tmp 8), type := 28, pos := "more.go:58", after := #[{ on := 21, ground := Ground.guard }], guard := some (21, false) } : Oper)) (v := ?_) rfl (by kernel_rfl) (by kernel_rfl) (by kernel_rfl) (fun _ _ _ h => h) (Or.inl ⟨by rfl, ?_⟩) (by assumption) ?_
            rotate_left
            · (intro w hSw; (try dsimp only at hSw); go_simp; try with_reducible rfl)
            (try simp only [Act.put, List.setIfInBounds_toArray, List.set_cons_zero, List.set_cons_succ])
            refine wpAnyH_take (i := 23) (oi := ({ dst := some 137, op := Op.load 28 (Operand.tmp 10), type := 28, pos := "more.go:58", after := #[{ on := 21, ground := Ground.guard }], guard := some (21, false) } : Oper)) (v := ?_) rfl (by kernel_rfl) (by kernel_rfl) (by kernel_rfl) (fun _ _ _ h => h) (Or.inl ⟨by rfl, ?_⟩) (by assumption) ?_
            rotate_left
            · (intro w hSw; (try dsimp only at hSw); go_simp; try with_reducible rfl)
            (try simp only [Act.put, List.setIfInBounds_toArray, List.set_cons_zero, List.set_cons_succ])
            refine wpAnyH_take (i := 25) (oi := ({ dst := some 139, op := Op.load 28 (Operand.tmp 9), type := 28, pos := "more.go:58", after := #[{ on := 21, ground := Ground.guard }], guard := some (21, false) } : Oper)) (v := ?_) rfl (by kernel_rfl) (by kernel_rfl) (by kernel_rfl) (fun _ _ _ h => h) (Or.inl ⟨by rfl, ?_⟩) (by assumption) ?_
            rotate_left
            · (intro w hSw; (try dsimp only at hSw); go_simp; try with_reducible rfl)
            (try simp only [Act.put, List.setIfInBounds_toArray, List.set_cons_zero, List.set_cons_succ])
            refine wpAnyH_take (i := 26) (oi := ({ dst := some 140, op := Op.load 28 (Operand.tmp 10), type := 28, pos := "more.go:58", after := #[{ on := 21, ground := Ground.guard }], guard := some (21, false) } : Oper)) (v := ?_) rfl (by kernel_rfl) (by kernel_rfl) (by kernel_rfl) (fun _ _ _ h => h) (Or.inl ⟨by rfl, ?_⟩) (by assumption) ?_
            rotate_left
            · (intro w hSw; (try dsimp only at hSw); go_simp; try with_reducible rfl)
            (try simp only [Act.put, List.setIfInBounds_toArray, List.set_cons_zero, List.set_cons_succ])
            refine wpAnyH_take (i := 29) (oi := ({ dst := some 143, op := Op.load 28 (Operand.tmp 14), type := 28, pos := "more.go:58", after := #[{ on := 21, ground := Ground.guard }], guard := some (21, false) } : Oper)) (v := ?_) rfl (by kernel_rfl) (by kernel_rfl) (by kernel_rfl) (fun _ _ _ h => h) (Or.inl ⟨by rfl, ?_⟩) (by assumption) ?_
            rotate_left
            · (intro w hSw; (try dsimp only at hSw); go_simp; try with_reducible rfl)
            (try simp only [Act.put, List.setIfInBounds_toArray, List.set_cons_zero, List.set_cons_succ])
            refine wpAnyH_take (i := 30) (oi := ({ dst := some 144, op := Op.load 28 (Operand.tmp 10), type := 28, pos := "more.go:58", after := #[{ on := 21, ground := Ground.guard }], guard := some (21, false) } : Oper)) (v := ?_) rfl (by kernel_rfl) (by kernel_rfl) (by kernel_rfl) (fun _ _ _ h => h) (Or.inl ⟨by rfl, ?_⟩) (by assumption) ?_
            rotate_left
            · (intro w hSw; (try dsimp only at hSw); go_simp; try with_reducible rfl)
            (try simp only [Act.put, List.setIfInBounds_toArray, List.set_cons_zero, List.set_cons_succ])
            refine wpAnyH_ready (rs := [24]) (by kernel_rfl) (by simp) ?_
            refine AllReadyH.cons (o := ({ dst := some 138, op := Op.call { callee := Callee.value (Operand.func 42), args := #[Operand.tmp 136, Operand.tmp 137], argTypes := #[28, 28] }, type := 28, pos := "more.go:58", after := #[{ on := 22, ground := Ground.data }, { on := 23, ground := Ground.data }, { on := 21, ground := Ground.chain }, { on := 21, ground := Ground.guard }], guard := some (21, false) } : Oper)) rfl (fun K hK => ?_) AllReadyH.nil
            go_simp
            refine (mul_int _ sx sz bx bz m1 m3 k1 k3 zr zt X Z (IX1.out.below X3) (IZ1.out.below X3) (by omega) (by omega)).mono ?_
            rintro e v4 ⟨sxz, axz, mxz, kxz, zxz, rfl, hIxz, hmxz, u4⟩
            have X4 : Below wg13.heap.size wg13 v4 := X3.trans (u4.mono X3.size)
            have Ixz := Lib.hid hIxz
            clear hIxz
            clear u4
            refine hK.out _ _ ?_ (fun hH4 => ?_)
            · exact HKP.out _ X4
            clear hK K hH3
            (try simp only [Act.put, List.setIfInBounds_toArray, List.set_cons_zero, List.set_cons_succ])
            refine wpAnyH_ready (rs := [27]) (by kernel_rfl) (by simp) ?_
            refine AllReadyH.cons (o := ({ dst := some 141, op := Op.call { callee := Callee.value (Operand.func 42), args := #[Operand.tmp 139, Operand.tmp 140], argTypes := #[28, 28] }, type := 28, pos := "more.go:58", after := #[{ on := 25, ground := Ground.data }, { on := 26, ground := Ground.data }, { on := 24, ground := Ground.chain }, { on := 21, ground := Ground.guard }], guard := some (21, false) } : Oper)) rfl (fun K hK => ?_) AllReadyH.nil
            go_simp
            refine (mul_int _ sy sz by' bz m2 m3 k2 k3 zs zt Y Z (IY1.out.below X4) (IZ1.out.below X4) (by omega) (by omega)).mono ?_
            rintro e v5 ⟨syz, ayz, myz, kyz, zyz, rfl, hIyz, hmyz, u5⟩
            have X5 : Below wg13.heap.size wg13 v5 := X4.trans (u5.mono X4.size)
            replace Ixz := Lib.hid (Ixz.out.below u5)
            have Iyz := Lib.hid hIyz
            clear hIyz
            clear u5
            refine hK.out _ _ ?_ (fun hH5 => ?_)
            · exact HKP.out _ X5
            clear hK K hH4
            (try simp only [Act.put, List.setIfInBounds_toArray, List.set_cons_zero, List.set_cons_succ])
            refine wpAnyH_ready (rs := [28]) (by kernel_rfl) (by simp) ?_
            refine AllReadyH.cons (o := ({ dst := some 142, op := Op.call { callee := Callee.value (Operand.func 44), args := #[Operand.tmp 138, Operand.tmp 141], argTypes := #[28, 28] }, type := 28, pos := "more.go:58", after := #[{ on := 24, ground := Ground.data }, { on := 27, ground := Ground.data }, { on := 27, ground := Ground.chain }, { on := 21, ground := Ground.guard }], guard := some (21, false) } : Oper)) rfl (fun K hK => ?_) AllReadyH.nil
            go_simp
            refine (gcd_int _ sxz syz axz ayz mxz myz kxz kyz zxz zyz (X * Z) (Y * Z) Ixz.out Iyz.out 1000 (by omega) (by omega) (by omega)).mono ?_
            rintro e v6 ⟨sgz, agz, mgz, kgz, zgz, rfl, hIgz, hmgz, u6⟩
            have X6 : Below wg13.heap.size wg13 v6 := X5.trans (u6.mono X5.size)
            clear Ixz
            clear Iyz
            have Igz := Lib.hid hIgz
            clear hIgz
            clear u6
            refine hK.out _ _ ?_ (fun hH6 => ?_)
            · exact HKP.out _ X6
            clear hK K hH5
            (try simp only [Act.put, List.setIfInBounds_toArray, List.set_cons_zero, List.set_cons_succ])
            refine wpAnyH_ready (rs := [31]) (by kernel_rfl) (by simp) ?_
            refine AllReadyH.cons (o := ({ dst := some 145, op := Op.call { callee := Callee.value (Operand.func 36), args := #[Operand.tmp 144], argTypes := #[28] }, type := 28, pos := "more.go:58", after := #[{ on := 30, ground := Ground.data }, { on := 28, ground := Ground.chain }, { on := 21, ground := Ground.guard }], guard := some (21, false) } : Oper)) rfl (fun K hK => ?_) AllReadyH.nil
            go_simp
            refine (absI _ sz bz m3 k3 zt Z (IZ1.out.below X6) (by omega)).mono ?_
            rintro e v7 ⟨saz, aaz, maz, kaz, zaz, rfl, hIaz, hmaz, u7⟩
            have X7 : Below wg13.heap.size wg13 v7 := X6.trans (u7.mono X6.size)
            replace Igz := Lib.hid (Igz.out.below u7)
            have Iaz := Lib.hid hIaz
            clear hIaz
            clear u7
            refine hK.out _ _ ?_ (fun hH7 => ?_)
            · exact HKP.out _ X7
            clear hK K hH6
            (try simp only [Act.put, List.setIfInBounds_toArray, List.set_cons_zero, List.set_cons_succ])
            refine wpAnyH_ready (rs := [32]) (by kernel_rfl) (by simp) ?_
            refine AllReadyH.cons (o := ({ dst := some 146, op := Op.call { callee := Callee.value (Operand.func 42), args := #[Operand.tmp 143, Operand.tmp 145], argTypes := #[28, 28] }, type := 28, pos := "more.go:58", after := #[{ on := 29, ground := Ground.data }, { on := 31, ground := Ground.data }, { on := 31, ground := Ground.chain }, { on := 21, ground := Ground.guard }], guard := some (21, false) } : Oper)) rfl (fun K hK => ?_) AllReadyH.nil
            go_simp
            refine (mul_int _ sg saz ag aaz mg maz kg kaz zg zaz (Nat.gcd X.natAbs Y.natAbs : Int) (Z.natAbs : Int) (Ig.out.below X7) Iaz.out (by omega) (by omega)).mono ?_
            rintro e v8 ⟨spz, apz, mpz, kpz, zpz, rfl, hIpz, hmpz, u8⟩
            have X8 : Below wg13.heap.size wg13 v8 := X7.trans (u8.mono X7.size)
            clear Iaz
            replace Igz := Lib.hid (Igz.out.below u8)
            have Ipz := Lib.hid hIpz
            clear hIpz
            clear u8
            refine hK.out _ _ ?_ (fun hH8 => ?_)
            · exact HKP.out _ X8
            clear hK K hH7
            (try simp only [Act.put, List.setIfInBounds_toArray, List.set_cons_zero, List.set_cons_succ])
            refine wpAnyH_ready (rs := [33]) (by kernel_rfl) (by simp) ?_
            refine AllReadyH.cons (o := ({ dst := some 147, op := Op.call { callee := Callee.value (Operand.func 65), args := #[Operand.tmp 142, Operand.tmp 146], argTypes := #[28, 28] }, type := 4, pos := "more.go:58", after := #[{ on := 28, ground := Ground.data }, { on := 32, ground := Ground.data }, { on := 32, ground := Ground.chain }, { on := 21, ground := Ground.guard }], guard := some (21, false) } : Oper)) rfl (fun K hK => ?_) AllReadyH.nil
            go_simp
            refine (same_yes Igz.out Ipz.out (gcd_scale X Y Z)).mono ?_
            rintro e v9 ⟨rfl, u9⟩
            have X9 : Below wg13.heap.size wg13 v9 := X8.trans (u9.mono X8.size)
            clear Igz
            clear Ipz
            clear u9
            refine hK.out _ _ ?_ (fun hH9 => ?_)
            · exact HKP.out _ X9
            clear hK K hH8
            (try simp only [Act.put, List.setIfInBounds_toArray, List.set_cons_zero, List.set_cons_succ])
            refine wpAnyH_take (i := 34) (oi := ({ dst := some 148, op := Op.unOp UnOp.not 4 (Operand.tmp 147), type := 4, pos := "more.go:58", after := #[{ on := 33, ground := Ground.data }, { on := 21, ground := Ground.guard }], guard := some (21, false) } : Oper)) (v := ?_) rfl (by kernel_rfl) (by kernel_rfl) (by kernel_rfl) (fun _ _ _ h => h) (Or.inl ⟨by rfl, ?_⟩) (by assumption) ?_
            rotate_left
            · (intro w hSw; (try dsimp only at hSw); go_simp; try with_reducible rfl)
            (try simp only [Act.put, List.setIfInBounds_toArray, List.set_cons_zero, List.set_cons_succ])
            refine wpAnyH_take (i := 35) (oi := ({ dst := some 149, op := Op.pick (Operand.tmp 135) (Operand.const (Value.bool true)) (Operand.tmp 148), type := 4, pos := "more.go:58", after := #[{ on := 21, ground := Ground.data }, { on := 34, ground := Ground.data }], guard := none } : Oper)) (v := ?_) rfl (by kernel_rfl) (by kernel_rfl) (by kernel_rfl) (fun _ _ _ h => h) (Or.inl ⟨by rfl, ?_⟩) (by assumption) ?_
            rotate_left
            · (intro w hSw; (try dsimp only at hSw); go_simp; try with_reducible rfl)
            (try simp only [Act.put, List.setIfInBounds_toArray, List.set_cons_zero, List.set_cons_succ])
            refine wpAnyH_done (by kernel_rfl) ?_ _
            refine NoPanic.normal ?_
            go_wp2
            go_meet
            exact ⟨rfl, X9⟩
        case rest =>
          obtain ⟨rfl, hbx⟩ := hcut
          rename World => wg14
          clear HKP
          replace IX1 := Lib.hid (IX1.out.below hbx)
          replace IY1 := Lib.hid (IY1.out.below hbx)
          replace IZ1 := Lib.hid (IZ1.out.below hbx)
          replace Iq := Lib.hid (Iq.out.below hbx)
          replace IR := Lib.hid (IR.out.below hbx)
          replace Ig := Lib.hid (Ig.out.below hbx)
          replace Ic := Lib.hid (Ic.out.below hbx)
          replace Im := Lib.hid (Im.out.below hbx)
          replace Id := Lib.hid (Id.out.below hbx)
          replace In := Lib.hid (In.out.below hbx)
          replace Xc0 := (hbx.cell (p := ⟨b1, 0, none⟩) Xl).trans Xc0
          replace Xc1 := (hbx.cell (p := ⟨b1, 1, none⟩) Xl).trans Xc1
          replace Xl := Nat.lt_of_lt_of_le Xl hbx.size
          replace Yc0 := (hbx.cell (p := ⟨b2, 0, none⟩) Yl).trans Yc0
          replace Yc1 := (hbx.cell (p := ⟨b2, 1, none⟩) Yl).trans Yc1
          replace Yl := Nat.lt_of_lt_of_le Yl hbx.size
          replace Zc0 := (hbx.cell (p := ⟨b3, 0, none⟩) Zl).trans Zc0
          replace Zc1 := (hbx.cell (p := ⟨b3, 1, none⟩) Zl).trans Zc1
          replace Zl := Nat.lt_of_lt_of_le Zl hbx.size
          replace Bqc0 := (hbx.cell (p := ⟨Bqp, 0, none⟩) Bql).trans Bqc0
          replace Bqc1 := (hbx.cell (p := ⟨Bqp, 1, none⟩) Bql).trans Bqc1
          replace Bql := Nat.lt_of_lt_of_le Bql hbx.size
          replace BRc0 := (hbx.cell (p := ⟨BRp, 0, none⟩) BRl).trans BRc0
          replace BRc1 := (hbx.cell (p := ⟨BRp, 1, none⟩) BRl).trans BRc1
          replace BRl := Nat.lt_of_lt_of_le BRl hbx.size
          replace Bgc0 := (hbx.cell (p := ⟨Bgp, 0, none⟩) Bgl).trans Bgc0
          replace Bgc1 := (hbx.cell (p := ⟨Bgp, 1, none⟩) Bgl).trans Bgc1
          replace Bgl := Nat.lt_of_lt_of_le Bgl hbx.size
          replace Bcc0 := (hbx.cell (p := ⟨Bcp, 0, none⟩) Bcl).trans Bcc0
          replace Bcc1 := (hbx.cell (p := ⟨Bcp, 1, none⟩) Bcl).trans Bcc1
          replace Bcl := Nat.lt_of_lt_of_le Bcl hbx.size
          replace Bmc0 := (hbx.cell (p := ⟨Bmp, 0, none⟩) Bml).trans Bmc0
          replace Bmc1 := (hbx.cell (p := ⟨Bmp, 1, none⟩) Bml).trans Bmc1
          replace Bml := Nat.lt_of_lt_of_le Bml hbx.size
          replace Bdc0 := (hbx.cell (p := ⟨Bdp, 0, none⟩) Bdl).trans Bdc0
          replace Bdc1 := (hbx.cell (p := ⟨Bdp, 1, none⟩) Bdl).trans Bdc1
          replace Bdl := Nat.lt_of_lt_of_le Bdl hbx.size
          replace Bnc0 := (hbx.cell (p := ⟨Bnp, 0, none⟩) Bnl).trans Bnc0
          replace Bnc1 := (hbx.cell (p := ⟨Bnp, 1, none⟩) Bnl).trans Bnc1
          replace Bnl := Nat.lt_of_lt_of_le Bnl hbx.size
          replace HW := Lib.hid (HW.out.trans (hbx.mono HW.out.size))
          clear hbx
          clear Bqc0 Bqc1 Bql
          clear BRc0 BRc1 BRl
          clear Bcc0 Bcc1 Bcl
          clear Bmc0 Bmc1 Bml
          clear Bdc0 Bdc1 Bdl
          clear Bnc0 Bnc1 Bnl
          clear Iq IR Ic Im Id In
          by_cases hz0 : Z = 0
          · subst hz0
            go_wp2_with fail
            refine (divide_zero _ sx sz bx bz m1 m3 k1 k3 zt IZ1.out).mono ?_
            rintro e wg15 ⟨sh, ah, mh, kh, zh, su, au, mu, ku, zu, rfl, hIh, hIu, hmh, hmu, hbwg15⟩
            replace IX1 := Lib.hid (IX1.out.below hbwg15)
            replace IY1 := Lib.hid (IY1.out.below hbwg15)
            replace IZ1 := Lib.hid (IZ1.out.below hbwg15)
            replace Ig := Lib.hid (Ig.out.below hbwg15)
            replace Xc0 := (hbwg15.cell (p := ⟨b1, 0, none⟩) Xl).trans Xc0
            replace Xc1 := (hbwg15.cell (p := ⟨b1, 1, none⟩) Xl).trans Xc1
            replace Xl := Nat.lt_of_lt_of_le Xl hbwg15.size
            replace Yc0 := (hbwg15.cell (p := ⟨b2, 0, none⟩) Yl).trans Yc0
            replace Yc1 := (hbwg15.cell (p := ⟨b2, 1, none⟩) Yl).trans Yc1
            replace Yl := Nat.lt_of_lt_of_le Yl hbwg15.size
            replace Zc0 := (hbwg15.cell (p := ⟨b3, 0, none⟩) Zl).trans Zc0
            replace Zc1 := (hbwg15.cell (p := ⟨b3, 1, none⟩) Zl).trans Zc1
            replace Zl := Nat.lt_of_lt_of_le Zl hbwg15.size
            replace Bgc0 := (hbwg15.cell (p := ⟨Bgp, 0, none⟩) Bgl).trans Bgc0
            replace Bgc1 := (hbwg15.cell (p := ⟨Bgp, 1, none⟩) Bgl).trans Bgc1
            replace Bgl := Nat.lt_of_lt_of_le Bgl hbwg15.size
            replace HW := Lib.hid (HW.out.trans (hbwg15.mono HW.out.size))
            have Ih := Lib.hid hIh
            clear hIh
            have Iu := Lib.hid hIu
            clear hIu
            clear hbwg15
            go_wp2_with fail
            obtain ⟨wg16, hwg16⟩ : ∃ wg16, wg16 = ((wg15.alloc (.cells #[.bool sh, .slice ah mh kh] 28)).alloc (.cells #[.bool su, .slice au mu ku] 28)) := ⟨_, rfl⟩
            have hbawg16 : Below wg15.heap.size wg15 wg16 := by rw [hwg16]; go_grown
            have hrBh : wg16.heap[wg15.heap.size]? = some (.cells #[.bool sh, .slice ah mh kh] 28 (0, 0)) := by rw [hwg16]; exact (heap_alloc2 wg15 _ _).2
            have hrBu : wg16.heap[wg15.heap.size + 1]? = some (.cells #[.bool su, .slice au mu ku] 28 (0, 0)) := by rw [hwg16]; exact (heap_alloc2 wg15 _ _).1
            rw [← hwg16]
            clear hwg16
            obtain ⟨Bhp, hBhp⟩ : ∃ p, p = wg15.heap.size := ⟨_, rfl⟩
            obtain ⟨Bup, hBup⟩ : ∃ p, p = wg15.heap.size + 1 := ⟨_, rfl⟩
            rw [← hBup] at hrBu ⊢
            rw [← hBhp] at hrBh ⊢
            obtain ⟨Bhc0, Bhc1, -, -⟩ := blk2 hrBh
            have Bhl : Bhp < wg16.heap.size := World.block_lt_of_cell? _ _ Bhc0
            clear hBhp hrBh
            obtain ⟨Buc0, Buc1, -, -⟩ := blk2 hrBu
            have Bul : Bup < wg16.heap.size := World.block_lt_of_cell? _ _ Buc0
            clear hBup hrBu
            replace IX1 := Lib.hid (IX1.out.below hbawg16)
            replace IY1 := Lib.hid (IY1.out.below hbawg16)
            replace IZ1 := Lib.hid (IZ1.out.below hbawg16)
            replace Ig := Lib.hid (Ig.out.below hbawg16)
            replace Ih := Lib.hid (Ih.out.below hbawg16)
            replace Iu := Lib.hid (Iu.out.below hbawg16)
            replace Xc0 := (hbawg16.cell (p := ⟨b1, 0, none⟩) Xl).trans Xc0
            replace Xc1 := (hbawg16.cell (p := ⟨b1, 1, none⟩) Xl).trans Xc1
            replace Xl := Nat.lt_of_lt_of_le Xl hbawg16.size
            replace Yc0 := (hbawg16.cell (p := ⟨b2, 0, none⟩) Yl).trans Yc0
            replace Yc1 := (hbawg16.cell (p := ⟨b2, 1, none⟩) Yl).trans Yc1
            replace Yl := Nat.lt_of_lt_of_le Yl hbawg16.size
            replace Zc0 := (hbawg16.cell (p := ⟨b3, 0, none⟩) Zl).trans Zc0
            replace Zc1 := (hbawg16.cell (p := ⟨b3, 1, none⟩) Zl).trans Zc1
            replace Zl := Nat.lt_of_lt_of_le Zl hbawg16.size
            replace Bgc0 := (hbawg16.cell (p := ⟨Bgp, 0, none⟩) Bgl).trans Bgc0
            replace Bgc1 := (hbawg16.cell (p := ⟨Bgp, 1, none⟩) Bgl).trans Bgc1
            replace Bgl := Nat.lt_of_lt_of_le Bgl hbawg16.size
            replace HW := Lib.hid (HW.out.trans (hbawg16.mono HW.out.size))
            clear hbawg16
            refine (awake_any _).mono ?_
            rintro e we ⟨rfl, hbe⟩
            go_wp2_with fail
            go_ret
            exact ⟨rfl, HW.out.trans (hbe.mono HW.out.size)⟩
          · skip
            have HZ0 := Lib.hid hz0
            clear hz0
            go_wp2_with fail
            refine (divide_int _ sx sz bx bz m1 m3 k1 k3 zr zt X Z IX1.out IZ1.out HZ0.out (by omega)).mono ?_
            rintro e wg17 ⟨sh, ah, mh, kh, zh, su, au, mu, ku, zu, rfl, hIh, hmh, hIu, hmu, hbwg17⟩
            replace IX1 := Lib.hid (IX1.out.below hbwg17)
            replace IY1 := Lib.hid (IY1.out.below hbwg17)
            replace IZ1 := Lib.hid (IZ1.out.below hbwg17)
            replace Ig := Lib.hid (Ig.out.below hbwg17)
            replace Xc0 := (hbwg17.cell (p := ⟨b1, 0, none⟩) Xl).trans Xc0
            replace Xc1 := (hbwg17.cell (p := ⟨b1, 1, none⟩) Xl).trans Xc1
            replace Xl := Nat.lt_of_lt_of_le Xl hbwg17.size
            replace Yc0 := (hbwg17.cell (p := ⟨b2, 0, none⟩) Yl).trans Yc0
            replace Yc1 := (hbwg17.cell (p := ⟨b2, 1, none⟩) Yl).trans Yc1
            replace Yl := Nat.lt_of_lt_of_le Yl hbwg17.size
            replace Zc0 := (hbwg17.cell (p := ⟨b3, 0, none⟩) Zl).trans Zc0
            replace Zc1 := (hbwg17.cell (p := ⟨b3, 1, none⟩) Zl).trans Zc1
            replace Zl := Nat.lt_of_lt_of_le Zl hbwg17.size
            replace Bgc0 := (hbwg17.cell (p := ⟨Bgp, 0, none⟩) Bgl).trans Bgc0
            replace Bgc1 := (hbwg17.cell (p := ⟨Bgp, 1, none⟩) Bgl).trans Bgc1
            replace Bgl := Nat.lt_of_lt_of_le Bgl hbwg17.size
            replace HW := Lib.hid (HW.out.trans (hbwg17.mono HW.out.size))
            have Ih := Lib.hid hIh
            clear hIh
            have Iu := Lib.hid hIu
            clear hIu
            clear hbwg17
            by_cases hu0 : X.tmod Z = 0
            · have HU0 := Lib.hid hu0
              clear hu0
              go_wp2_with fail
              obtain ⟨wg18, hwg18⟩ : ∃ wg18, wg18 = ((wg17.alloc (.cells #[.bool sh, .slice ah mh kh] 28)).alloc (.cells #[.bool su, .slice au mu ku] 28)) := ⟨_, rfl⟩
              have hbawg18 : Below wg17.heap.size wg17 wg18 := by rw [hwg18]; go_grown
              have hrBh : wg18.heap[wg17.heap.size]? = some (.cells #[.bool sh, .slice ah mh kh] 28 (0, 0)) := by rw [hwg18]; exact (heap_alloc2 wg17 _ _).2
              have hrBu : wg18.heap[wg17.heap.size + 1]? = some (.cells #[.bool su, .slice au mu ku] 28 (0, 0)) := by rw [hwg18]; exact (heap_alloc2 wg17 _ _).1
              rw [← hwg18]
              clear hwg18
              obtain ⟨Bhp, hBhp⟩ : ∃ p, p = wg17.heap.size := ⟨_, rfl⟩
              obtain ⟨Bup, hBup⟩ : ∃ p, p = wg17.heap.size + 1 := ⟨_, rfl⟩
              rw [← hBup] at hrBu ⊢
              rw [← hBhp] at hrBh ⊢
              obtain ⟨Bhc0, Bhc1, -, -⟩ := blk2 hrBh
              have Bhl : Bhp < wg18.heap.size := World.block_lt_of_cell? _ _ Bhc0
              clear hBhp hrBh
              obtain ⟨Buc0, Buc1, -, -⟩ := blk2 hrBu
              have Bul : Bup < wg18.heap.size := World.block_lt_of_cell? _ _ Buc0
              clear hBup hrBu
              replace IX1 := Lib.hid (IX1.out.below hbawg18)
              replace IY1 := Lib.hid (IY1.out.below hbawg18)
              replace IZ1 := Lib.hid (IZ1.out.below hbawg18)
              replace Ig := Lib.hid (Ig.out.below hbawg18)
              replace Ih := Lib.hid (Ih.out.below hbawg18)
              replace Iu := Lib.hid (Iu.out.below hbawg18)
              replace Xc0 := (hbawg18.cell (p := ⟨b1, 0, none⟩) Xl).trans Xc0
              replace Xc1 := (hbawg18.cell (p := ⟨b1, 1, none⟩) Xl).trans Xc1
              replace Xl := Nat.lt_of_lt_of_le Xl hbawg18.size
              replace Yc0 := (hbawg18.cell (p := ⟨b2, 0, none⟩) Yl).trans Yc0
              replace Yc1 := (hbawg18.cell (p := ⟨b2, 1, none⟩) Yl).trans Yc1
              replace Yl := Nat.lt_of_lt_of_le Yl hbawg18.size
              replace Zc0 := (hbawg18.cell (p := ⟨b3, 0, none⟩) Zl).trans Zc0
              replace Zc1 := (hbawg18.cell (p := ⟨b3, 1, none⟩) Zl).trans Zc1
              replace Zl := Nat.lt_of_lt_of_le Zl hbawg18.size
              replace Bgc0 := (hbawg18.cell (p := ⟨Bgp, 0, none⟩) Bgl).trans Bgc0
              replace Bgc1 := (hbawg18.cell (p := ⟨Bgp, 1, none⟩) Bgl).trans Bgc1
              replace Bgl := Nat.lt_of_lt_of_le Bgl hbawg18.size
              replace HW := Lib.hid (HW.out.trans (hbawg18.mono HW.out.size))
              clear hbawg18
              refine (sign_is _ su au mu ku zu (X.tmod Z) 0 Iu.out (cmpI_eq HU0.out)).mono ?_
              rintro e wg19 ⟨rfl, hbwg19⟩
              replace IX1 := Lib.hid (IX1.out.below hbwg19)
              replace IY1 := Lib.hid (IY1.out.below hbwg19)
              replace IZ1 := Lib.hid (IZ1.out.below hbwg19)
              replace Ig := Lib.hid (Ig.out.below hbwg19)
              replace Ih := Lib.hid (Ih.out.below hbwg19)
              replace Iu := Lib.hid (Iu.out.below hbwg19)
              replace Xc0 := (hbwg19.cell (p := ⟨b1, 0, none⟩) Xl).trans Xc0
              replace Xc1 := (hbwg19.cell (p := ⟨b1, 1, none⟩) Xl).trans Xc1
              replace Xl := Nat.lt_of_lt_of_le Xl hbwg19.size
              replace Yc0 := (hbwg19.cell (p := ⟨b2, 0, none⟩) Yl).trans Yc0
              replace Yc1 := (hbwg19.cell (p := ⟨b2, 1, none⟩) Yl).trans Yc1
              replace Yl := Nat.lt_of_lt_of_le Yl hbwg19.size
              replace Zc0 := (hbwg19.cell (p := ⟨b3, 0, none⟩) Zl).trans Zc0
              replace Zc1 := (hbwg19.cell (p := ⟨b3, 1, none⟩) Zl).trans Zc1
              replace Zl := Nat.lt_of_lt_of_le Zl hbwg19.size
              replace Bgc0 := (hbwg19.cell (p := ⟨Bgp, 0, none⟩) Bgl).trans Bgc0
              replace Bgc1 := (hbwg19.cell (p := ⟨Bgp, 1, none⟩) Bgl).trans Bgc1
              replace Bgl := Nat.lt_of_lt_of_le Bgl hbwg19.size
              replace Bhc0 := (hbwg19.cell (p := ⟨Bhp, 0, none⟩) Bhl).trans Bhc0
              replace Bhc1 := (hbwg19.cell (p := ⟨Bhp, 1, none⟩) Bhl).trans Bhc1
              replace Bhl := Nat.lt_of_lt_of_le Bhl hbwg19.size
              replace Buc0 := (hbwg19.cell (p := ⟨Bup, 0, none⟩) Bul).trans Buc0
              replace Buc1 := (hbwg19.cell (p := ⟨Bup, 1, none⟩) Bul).trans Buc1
              replace Bul := Nat.lt_of_lt_of_le Bul hbwg19.size
              replace HW := Lib.hid (HW.out.trans (hbwg19.mono HW.out.size))
              clear hbwg19
              go_wp2_with fail
              refine (divide_int _ sy sz by' bz m2 m3 k2 k3 zs zt Y Z IY1.out IZ1.out HZ0.out (by omega)).mono ?_
              rintro e wg20 ⟨si, ai, mi, ki, zi, sv, av, mv, kv, zv, rfl, hIi, hmi, hIv, hmv, hbwg20⟩
              replace IX1 := Lib.hid (IX1.out.below hbwg20)
              replace IY1 := Lib.hid (IY1.out.below hbwg20)
              replace IZ1 := Lib.hid (IZ1.out.below hbwg20)
              replace Ig := Lib.hid (Ig.out.below hbwg20)
              replace Ih := Lib.hid (Ih.out.below hbwg20)
              replace Iu := Lib.hid (Iu.out.below hbwg20)
              replace Xc0 := (hbwg20.cell (p := ⟨b1, 0, none⟩) Xl).trans Xc0
              replace Xc1 := (hbwg20.cell (p := ⟨b1, 1, none⟩) Xl).trans Xc1
              replace Xl := Nat.lt_of_lt_of_le Xl hbwg20.size
              replace Yc0 := (hbwg20.cell (p := ⟨b2, 0, none⟩) Yl).trans Yc0
              replace Yc1 := (hbwg20.cell (p := ⟨b2, 1, none⟩) Yl).trans Yc1
              replace Yl := Nat.lt_of_lt_of_le Yl hbwg20.size
              replace Zc0 := (hbwg20.cell (p := ⟨b3, 0, none⟩) Zl).trans Zc0
              replace Zc1 := (hbwg20.cell (p := ⟨b3, 1, none⟩) Zl).trans Zc1
              replace Zl := Nat.lt_of_lt_of_le Zl hbwg20.size
              replace Bgc0 := (hbwg20.cell (p := ⟨Bgp, 0, none⟩) Bgl).trans Bgc0
              replace Bgc1 := (hbwg20.cell (p := ⟨Bgp, 1, none⟩) Bgl).trans Bgc1
              replace Bgl := Nat.lt_of_lt_of_le Bgl hbwg20.size
              replace Bhc0 := (hbwg20.cell (p := ⟨Bhp, 0, none⟩) Bhl).trans Bhc0
              replace Bhc1 := (hbwg20.cell (p := ⟨Bhp, 1, none⟩) Bhl).trans Bhc1
              replace Bhl := Nat.lt_of_lt_of_le Bhl hbwg20.size
              replace Buc0 := (hbwg20.cell (p := ⟨Bup, 0, none⟩) Bul).trans Buc0
              replace Buc1 := (hbwg20.cell (p := ⟨Bup, 1, none⟩) Bul).trans Buc1
              replace Bul := Nat.lt_of_lt_of_le Bul hbwg20.size
              replace HW := Lib.hid (HW.out.trans (hbwg20.mono HW.out.size))
              have Ii := Lib.hid hIi
              clear hIi
              have Iv := Lib.hid hIv
              clear hIv
              clear hbwg20
              go_wp2_with fail
              obtain ⟨wg21, hwg21⟩ : ∃ wg21, wg21 = ((wg20.alloc (.cells #[.bool si, .slice ai mi ki] 28)).alloc (.cells #[.bool sv, .slice av mv kv] 28)) := ⟨_, rfl⟩
              have hbawg21 : Below wg20.heap.size wg20 wg21 := by rw [hwg21]; go_grown
              have hrBi : wg21.heap[wg20.heap.size]? = some (.cells #[.bool si, .slice ai mi ki] 28 (0, 0)) := by rw [hwg21]; exact (heap_alloc2 wg20 _ _).2
              have hrBv : wg21.heap[wg20.heap.size + 1]? = some (.cells #[.bool sv, .slice av mv kv] 28 (0, 0)) := by rw [hwg21]; exact (heap_alloc2 wg20 _ _).1
              rw [← hwg21]
              clear hwg21
              obtain ⟨Bip, hBip⟩ : ∃ p, p = wg20.heap.size := ⟨_, rfl⟩
              obtain ⟨Bvp, hBvp⟩ : ∃ p, p = wg20.heap.size + 1 := ⟨_, rfl⟩
              rw [← hBvp] at hrBv ⊢
              rw [← hBip] at hrBi ⊢
              obtain ⟨Bic0, Bic1, -, -⟩ := blk2 hrBi
              have Bil : Bip < wg21.heap.size := World.block_lt_of_cell? _ _ Bic0
              clear hBip hrBi
              obtain ⟨Bvc0, Bvc1, -, -⟩ := blk2 hrBv
              have Bvl : Bvp < wg21.heap.size := World.block_lt_of_cell? _ _ Bvc0
              clear hBvp hrBv
              replace IX1 := Lib.hid (IX1.out.below hbawg21)
              replace IY1 := Lib.hid (IY1.out.below hbawg21)
              replace IZ1 := Lib.hid (IZ1.out.below hbawg21)
              replace Ig := Lib.hid (Ig.out.below hbawg21)
              replace Ih := Lib.hid (Ih.out.below hbawg21)
              replace Iu := Lib.hid (Iu.out.below hbawg21)
              replace Ii := Lib.hid (Ii.out.below hbawg21)
              replace Iv := Lib.hid (Iv.out.below hbawg21)
              replace Xc0 := (hbawg21.cell (p := ⟨b1, 0, none⟩) Xl).trans Xc0
              replace Xc1 := (hbawg21.cell (p := ⟨b1, 1, none⟩) Xl).trans Xc1
              replace Xl := Nat.lt_of_lt_of_le Xl hbawg21.size
              replace Yc0 := (hbawg21.cell (p := ⟨b2, 0, none⟩) Yl).trans Yc0
              replace Yc1 := (hbawg21.cell (p := ⟨b2, 1, none⟩) Yl).trans Yc1
              replace Yl := Nat.lt_of_lt_of_le Yl hbawg21.size
              replace Zc0 := (hbawg21.cell (p := ⟨b3, 0, none⟩) Zl).trans Zc0
              replace Zc1 := (hbawg21.cell (p := ⟨b3, 1, none⟩) Zl).trans Zc1
              replace Zl := Nat.lt_of_lt_of_le Zl hbawg21.size
              replace Bgc0 := (hbawg21.cell (p := ⟨Bgp, 0, none⟩) Bgl).trans Bgc0
              replace Bgc1 := (hbawg21.cell (p := ⟨Bgp, 1, none⟩) Bgl).trans Bgc1
              replace Bgl := Nat.lt_of_lt_of_le Bgl hbawg21.size
              replace Bhc0 := (hbawg21.cell (p := ⟨Bhp, 0, none⟩) Bhl).trans Bhc0
              replace Bhc1 := (hbawg21.cell (p := ⟨Bhp, 1, none⟩) Bhl).trans Bhc1
              replace Bhl := Nat.lt_of_lt_of_le Bhl hbawg21.size
              replace Buc0 := (hbawg21.cell (p := ⟨Bup, 0, none⟩) Bul).trans Buc0
              replace Buc1 := (hbawg21.cell (p := ⟨Bup, 1, none⟩) Bul).trans Buc1
              replace Bul := Nat.lt_of_lt_of_le Bul hbawg21.size
              replace HW := Lib.hid (HW.out.trans (hbawg21.mono HW.out.size))
              clear hbawg21
              refine (divide_int _ sg sz ag bz mg m3 kg k3 zg zt (Nat.gcd X.natAbs Y.natAbs : Int) Z Ig.out IZ1.out HZ0.out (by omega)).mono ?_
              rintro e wg22 ⟨sj, aj, mj, kj, zj, so, ao, mo, ko, zo, rfl, hIj, hmj, hIo, hmo, hbwg22⟩
              replace IX1 := Lib.hid (IX1.out.below hbwg22)
              replace IY1 := Lib.hid (IY1.out.below hbwg22)
              replace IZ1 := Lib.hid (IZ1.out.below hbwg22)
              replace Ig := Lib.hid (Ig.out.below hbwg22)
              replace Ih := Lib.hid (Ih.out.below hbwg22)
              replace Iu := Lib.hid (Iu.out.below hbwg22)
              replace Ii := Lib.hid (Ii.out.below hbwg22)
              replace Iv := Lib.hid (Iv.out.below hbwg22)
              replace Xc0 := (hbwg22.cell (p := ⟨b1, 0, none⟩) Xl).trans Xc0
              replace Xc1 := (hbwg22.cell (p := ⟨b1, 1, none⟩) Xl).trans Xc1
              replace Xl := Nat.lt_of_lt_of_le Xl hbwg22.size
              replace Yc0 := (hbwg22.cell (p := ⟨b2, 0, none⟩) Yl).trans Yc0
              replace Yc1 := (hbwg22.cell (p := ⟨b2, 1, none⟩) Yl).trans Yc1
              replace Yl := Nat.lt_of_lt_of_le Yl hbwg22.size
              replace Zc0 := (hbwg22.cell (p := ⟨b3, 0, none⟩) Zl).trans Zc0
              replace Zc1 := (hbwg22.cell (p := ⟨b3, 1, none⟩) Zl).trans Zc1
              replace Zl := Nat.lt_of_lt_of_le Zl hbwg22.size
              replace Bgc0 := (hbwg22.cell (p := ⟨Bgp, 0, none⟩) Bgl).trans Bgc0
              replace Bgc1 := (hbwg22.cell (p := ⟨Bgp, 1, none⟩) Bgl).trans Bgc1
              replace Bgl := Nat.lt_of_lt_of_le Bgl hbwg22.size
              replace Bhc0 := (hbwg22.cell (p := ⟨Bhp, 0, none⟩) Bhl).trans Bhc0
              replace Bhc1 := (hbwg22.cell (p := ⟨Bhp, 1, none⟩) Bhl).trans Bhc1
              replace Bhl := Nat.lt_of_lt_of_le Bhl hbwg22.size
              replace Buc0 := (hbwg22.cell (p := ⟨Bup, 0, none⟩) Bul).trans Buc0
              replace Buc1 := (hbwg22.cell (p := ⟨Bup, 1, none⟩) Bul).trans Buc1
              replace Bul := Nat.lt_of_lt_of_le Bul hbwg22.size
              replace Bic0 := (hbwg22.cell (p := ⟨Bip, 0, none⟩) Bil).trans Bic0
              replace Bic1 := (hbwg22.cell (p := ⟨Bip, 1, none⟩) Bil).trans Bic1
              replace Bil := Nat.lt_of_lt_of_le Bil hbwg22.size
              replace Bvc0 := (hbwg22.cell (p := ⟨Bvp, 0, none⟩) Bvl).trans Bvc0
              replace Bvc1 := (hbwg22.cell (p := ⟨Bvp, 1, none⟩) Bvl).trans Bvc1
              replace Bvl := Nat.lt_of_lt_of_le Bvl hbwg22.size
              replace HW := Lib.hid (HW.out.trans (hbwg22.mono HW.out.size))
              have Ij := Lib.hid hIj
              clear hIj
              have Io := Lib.hid hIo
              clear hIo
              clear hbwg22
              by_cases hv0 : Y.tmod Z = 0
              · have HV0 := Lib.hid hv0
                clear hv0
                go_wp2_with fail
                obtain ⟨wg23, hwg23⟩ : ∃ wg23, wg23 = ((wg22.alloc (.cells #[.bool sj, .slice aj mj kj] 28)).alloc (.cells #[.bool so, .slice ao mo ko] 28)) := ⟨_, rfl⟩
                have hbawg23 : Below wg22.heap.size wg22 wg23 := by rw [hwg23]; go_grown
                have hrBj : wg23.heap[wg22.heap.size]? = some (.cells #[.bool sj, .slice aj mj kj] 28 (0, 0)) := by rw [hwg23]; exact (heap_alloc2 wg22 _ _).2
                have hrBo : wg23.heap[wg22.heap.size + 1]? = some (.cells #[.bool so, .slice ao mo ko] 28 (0, 0)) := by rw [hwg23]; exact (heap_alloc2 wg22 _ _).1
                rw [← hwg23]
                clear hwg23
                obtain ⟨Bjp, hBjp⟩ : ∃ p, p = wg22.heap.size := ⟨_, rfl⟩
                obtain ⟨Bop, hBop⟩ : ∃ p, p = wg22.heap.size + 1 := ⟨_, rfl⟩
                rw [← hBop] at hrBo ⊢
                rw [← hBjp] at hrBj ⊢
                obtain ⟨Bjc0, Bjc1, -, -⟩ := blk2 hrBj
                have Bjl : Bjp < wg23.heap.size := World.block_lt_of_cell? _ _ Bjc0
                clear hBjp hrBj
                obtain ⟨Boc0, Boc1, -, -⟩ := blk2 hrBo
                have Bol : Bop < wg23.heap.size := World.block_lt_of_cell? _ _ Boc0
                clear hBop hrBo
                replace IX1 := Lib.hid (IX1.out.below hbawg23)
                replace IY1 := Lib.hid (IY1.out.below hbawg23)
                replace IZ1 := Lib.hid (IZ1.out.below hbawg23)
                replace Ig := Lib.hid (Ig.out.below hbawg23)
                replace Ih := Lib.hid (Ih.out.below hbawg23)
                replace Iu := Lib.hid (Iu.out.below hbawg23)
                replace Ii := Lib.hid (Ii.out.below hbawg23)
                replace Iv := Lib.hid (Iv.out.below hbawg23)
                replace Ij := Lib.hid (Ij.out.below hbawg23)
                replace Io := Lib.hid (Io.out.below hbawg23)
                replace Xc0 := (hbawg23.cell (p := ⟨b1, 0, none⟩) Xl).trans Xc0
                replace Xc1 := (hbawg23.cell (p := ⟨b1, 1, none⟩) Xl).trans Xc1
                replace Xl := Nat.lt_of_lt_of_le Xl hbawg23.size
                replace Yc0 := (hbawg23.cell (p := ⟨b2, 0, none⟩) Yl).trans Yc0
                replace Yc1 := (hbawg23.cell (p := ⟨b2, 1, none⟩) Yl).trans Yc1
                replace Yl := Nat.lt_of_lt_of_le Yl hbawg23.size
                replace Zc0 := (hbawg23.cell (p := ⟨b3, 0, none⟩) Zl).trans Zc0
                replace Zc1 := (hbawg23.cell (p := ⟨b3, 1, none⟩) Zl).trans Zc1
                replace Zl := Nat.lt_of_lt_of_le Zl hbawg23.size
                replace Bgc0 := (hbawg23.cell (p := ⟨Bgp, 0, none⟩) Bgl).trans Bgc0
                replace Bgc1 := (hbawg23.cell (p := ⟨Bgp, 1, none⟩) Bgl).trans Bgc1
                replace Bgl := Nat.lt_of_lt_of_le Bgl hbawg23.size
                replace Bhc0 := (hbawg23.cell (p := ⟨Bhp, 0, none⟩) Bhl).trans Bhc0
                replace Bhc1 := (hbawg23.cell (p := ⟨Bhp, 1, none⟩) Bhl).trans Bhc1
                replace Bhl := Nat.lt_of_lt_of_le Bhl hbawg23.size
                replace Buc0 := (hbawg23.cell (p := ⟨Bup, 0, none⟩) Bul).trans Buc0
                replace Buc1 := (hbawg23.cell (p := ⟨Bup, 1, none⟩) Bul).trans Buc1
                replace Bul := Nat.lt_of_lt_of_le Bul hbawg23.size
                replace Bic0 := (hbawg23.cell (p := ⟨Bip, 0, none⟩) Bil).trans Bic0
                replace Bic1 := (hbawg23.cell (p := ⟨Bip, 1, none⟩) Bil).trans Bic1
                replace Bil := Nat.lt_of_lt_of_le Bil hbawg23.size
                replace Bvc0 := (hbawg23.cell (p := ⟨Bvp, 0, none⟩) Bvl).trans Bvc0
                replace Bvc1 := (hbawg23.cell (p := ⟨Bvp, 1, none⟩) Bvl).trans Bvc1
                replace Bvl := Nat.lt_of_lt_of_le Bvl hbawg23.size
                replace HW := Lib.hid (HW.out.trans (hbawg23.mono HW.out.size))
                clear hbawg23
                refine (sign_is _ sv av mv kv zv (Y.tmod Z) 0 Iv.out (cmpI_eq HV0.out)).mono ?_
                rintro e wg24 ⟨rfl, hbwg24⟩
                replace IX1 := Lib.hid (IX1.out.below hbwg24)
                replace IY1 := Lib.hid (IY1.out.below hbwg24)
                replace IZ1 := Lib.hid (IZ1.out.below hbwg24)
                replace Ig := Lib.hid (Ig.out.below hbwg24)
                replace Ih := Lib.hid (Ih.out.below hbwg24)
                replace Iu := Lib.hid (Iu.out.below hbwg24)
                replace Ii := Lib.hid (Ii.out.below hbwg24)
                replace Iv := Lib.hid (Iv.out.below hbwg24)
                replace Ij := Lib.hid (Ij.out.below hbwg24)
                replace Io := Lib.hid (Io.out.below hbwg24)
                replace Xc0 := (hbwg24.cell (p := ⟨b1, 0, none⟩) Xl).trans Xc0
                replace Xc1 := (hbwg24.cell (p := ⟨b1, 1, none⟩) Xl).trans Xc1
                replace Xl := Nat.lt_of_lt_of_le Xl hbwg24.size
                replace Yc0 := (hbwg24.cell (p := ⟨b2, 0, none⟩) Yl).trans Yc0
                replace Yc1 := (hbwg24.cell (p := ⟨b2, 1, none⟩) Yl).trans Yc1
                replace Yl := Nat.lt_of_lt_of_le Yl hbwg24.size
                replace Zc0 := (hbwg24.cell (p := ⟨b3, 0, none⟩) Zl).trans Zc0
                replace Zc1 := (hbwg24.cell (p := ⟨b3, 1, none⟩) Zl).trans Zc1
                replace Zl := Nat.lt_of_lt_of_le Zl hbwg24.size
                replace Bgc0 := (hbwg24.cell (p := ⟨Bgp, 0, none⟩) Bgl).trans Bgc0
                replace Bgc1 := (hbwg24.cell (p := ⟨Bgp, 1, none⟩) Bgl).trans Bgc1
                replace Bgl := Nat.lt_of_lt_of_le Bgl hbwg24.size
                replace Bhc0 := (hbwg24.cell (p := ⟨Bhp, 0, none⟩) Bhl).trans Bhc0
                replace Bhc1 := (hbwg24.cell (p := ⟨Bhp, 1, none⟩) Bhl).trans Bhc1
                replace Bhl := Nat.lt_of_lt_of_le Bhl hbwg24.size
                replace Buc0 := (hbwg24.cell (p := ⟨Bup, 0, none⟩) Bul).trans Buc0
                replace Buc1 := (hbwg24.cell (p := ⟨Bup, 1, none⟩) Bul).trans Buc1
                replace Bul := Nat.lt_of_lt_of_le Bul hbwg24.size
                replace Bic0 := (hbwg24.cell (p := ⟨Bip, 0, none⟩) Bil).trans Bic0
                replace Bic1 := (hbwg24.cell (p := ⟨Bip, 1, none⟩) Bil).trans Bic1
                replace Bil := Nat.lt_of_lt_of_le Bil hbwg24.size
                replace Bvc0 := (hbwg24.cell (p := ⟨Bvp, 0, none⟩) Bvl).trans Bvc0
                replace Bvc1 := (hbwg24.cell (p := ⟨Bvp, 1, none⟩) Bvl).trans Bvc1
                replace Bvl := Nat.lt_of_lt_of_le Bvl hbwg24.size
                replace Bjc0 := (hbwg24.cell (p := ⟨Bjp, 0, none⟩) Bjl).trans Bjc0
                replace Bjc1 := (hbwg24.cell (p := ⟨Bjp, 1, none⟩) Bjl).trans Bjc1
                replace Bjl := Nat.lt_of_lt_of_le Bjl hbwg24.size
                replace Boc0 := (hbwg24.cell (p := ⟨Bop, 0, none⟩) Bol).trans Boc0
                replace Boc1 := (hbwg24.cell (p := ⟨Bop, 1, none⟩) Bol).trans Boc1
                replace Bol := Nat.lt_of_lt_of_le Bol hbwg24.size
                replace HW := Lib.hid (HW.out.trans (hbwg24.mono HW.out.size))
                clear hbwg24
                go_wp2_with fail
                refine (sign_is _ so ao mo ko zo ((Nat.gcd X.natAbs Y.natAbs : Int).tmod Z) 0 Io.out (cmpI_eq (gcd_both HU0.out HV0.out))).mono ?_
                rintro e wg25 ⟨rfl, hbwg25⟩
                replace IX1 := Lib.hid (IX1.out.below hbwg25)
                replace IY1 := Lib.hid (IY1.out.below hbwg25)
                replace IZ1 := Lib.hid (IZ1.out.below hbwg25)
                replace Ig := Lib.hid (Ig.out.below hbwg25)
                replace Ih := Lib.hid (Ih.out.below hbwg25)
                replace Iu := Lib.hid (Iu.out.below hbwg25)
                replace Ii := Lib.hid (Ii.out.below hbwg25)
                replace Iv := Lib.hid (Iv.out.below hbwg25)
                replace Ij := Lib.hid (Ij.out.below hbwg25)
                replace Io := Lib.hid (Io.out.below hbwg25)
                replace Xc0 := (hbwg25.cell (p := ⟨b1, 0, none⟩) Xl).trans Xc0
                replace Xc1 := (hbwg25.cell (p := ⟨b1, 1, none⟩) Xl).trans Xc1
                replace Xl := Nat.lt_of_lt_of_le Xl hbwg25.size
                replace Yc0 := (hbwg25.cell (p := ⟨b2, 0, none⟩) Yl).trans Yc0
                replace Yc1 := (hbwg25.cell (p := ⟨b2, 1, none⟩) Yl).trans Yc1
                replace Yl := Nat.lt_of_lt_of_le Yl hbwg25.size
                replace Zc0 := (hbwg25.cell (p := ⟨b3, 0, none⟩) Zl).trans Zc0
                replace Zc1 := (hbwg25.cell (p := ⟨b3, 1, none⟩) Zl).trans Zc1
                replace Zl := Nat.lt_of_lt_of_le Zl hbwg25.size
                replace Bgc0 := (hbwg25.cell (p := ⟨Bgp, 0, none⟩) Bgl).trans Bgc0
                replace Bgc1 := (hbwg25.cell (p := ⟨Bgp, 1, none⟩) Bgl).trans Bgc1
                replace Bgl := Nat.lt_of_lt_of_le Bgl hbwg25.size
                replace Bhc0 := (hbwg25.cell (p := ⟨Bhp, 0, none⟩) Bhl).trans Bhc0
                replace Bhc1 := (hbwg25.cell (p := ⟨Bhp, 1, none⟩) Bhl).trans Bhc1
                replace Bhl := Nat.lt_of_lt_of_le Bhl hbwg25.size
                replace Buc0 := (hbwg25.cell (p := ⟨Bup, 0, none⟩) Bul).trans Buc0
                replace Buc1 := (hbwg25.cell (p := ⟨Bup, 1, none⟩) Bul).trans Buc1
                replace Bul := Nat.lt_of_lt_of_le Bul hbwg25.size
                replace Bic0 := (hbwg25.cell (p := ⟨Bip, 0, none⟩) Bil).trans Bic0
                replace Bic1 := (hbwg25.cell (p := ⟨Bip, 1, none⟩) Bil).trans Bic1
                replace Bil := Nat.lt_of_lt_of_le Bil hbwg25.size
                replace Bvc0 := (hbwg25.cell (p := ⟨Bvp, 0, none⟩) Bvl).trans Bvc0
                replace Bvc1 := (hbwg25.cell (p := ⟨Bvp, 1, none⟩) Bvl).trans Bvc1
                replace Bvl := Nat.lt_of_lt_of_le Bvl hbwg25.size
                replace Bjc0 := (hbwg25.cell (p := ⟨Bjp, 0, none⟩) Bjl).trans Bjc0
                replace Bjc1 := (hbwg25.cell (p := ⟨Bjp, 1, none⟩) Bjl).trans Bjc1
                replace Bjl := Nat.lt_of_lt_of_le Bjl hbwg25.size
                replace Boc0 := (hbwg25.cell (p := ⟨Bop, 0, none⟩) Bol).trans Boc0
                replace Boc1 := (hbwg25.cell (p := ⟨Bop, 1, none⟩) Bol).trans Boc1
                replace Bol := Nat.lt_of_lt_of_le Bol hbwg25.size
                replace HW := Lib.hid (HW.out.trans (hbwg25.mono HW.out.size))
                clear hbwg25
                go_wp2_with fail
                refine (awake_any _).mono ?_
                rintro e we ⟨rfl, hbe⟩
                go_wp2_with fail
                go_ret
                exact ⟨rfl, HW.out.trans (hbe.mono HW.out.size)⟩
              · obtain ⟨cv, hcv⟩ : ∃ c, cmpI (Y.tmod Z) 0 = c := ⟨_, rfl⟩
                have hcv0 := sign_not hcv hv0
                have hcv1 : ¬ cv = 0 := by simpa using hcv0
                have HCV := Lib.hid hcv
                clear hcv hv0
                go_wp2_with fail
                obtain ⟨wg26, hwg26⟩ : ∃ wg26, wg26 = ((wg22.alloc (.cells #[.bool sj, .slice aj mj kj] 28)).alloc (.cells #[.bool so, .slice ao mo ko] 28)) := ⟨_, rfl⟩
                have hbawg26 : Below wg22.heap.size wg22 wg26 := by rw [hwg26]; go_grown
                have hrBj : wg26.heap[wg22.heap.size]? = some (.cells #[.bool sj, .slice aj mj kj] 28 (0, 0)) := by rw [hwg26]; exact (heap_alloc2 wg22 _ _).2
                have hrBo : wg26.heap[wg22.heap.size + 1]? = some (.cells #[.bool so, .slice ao mo ko] 28 (0, 0)) := by rw [hwg26]; exact (heap_alloc2 wg22 _ _).1
                rw [← hwg26]
                clear hwg26
                obtain ⟨Bjp, hBjp⟩ : ∃ p, p = wg22.heap.size := ⟨_, rfl⟩
                obtain ⟨Bop, hBop⟩ : ∃ p, p = wg22.heap.size + 1 := ⟨_, rfl⟩
                rw [← hBop] at hrBo ⊢
                rw [← hBjp] at hrBj ⊢
                obtain ⟨Bjc0, Bjc1, -, -⟩ := blk2 hrBj
                have Bjl : Bjp < wg26.heap.size := World.block_lt_of_cell? _ _ Bjc0
                clear hBjp hrBj
                obtain ⟨Boc0, Boc1, -, -⟩ := blk2 hrBo
                have Bol : Bop < wg26.heap.size := World.block_lt_of_cell? _ _ Boc0
                clear hBop hrBo
                replace IX1 := Lib.hid (IX1.out.below hbawg26)
                replace IY1 := Lib.hid (IY1.out.below hbawg26)
                replace IZ1 := Lib.hid (IZ1.out.below hbawg26)
                replace Ig := Lib.hid (Ig.out.below hbawg26)
                replace Ih := Lib.hid (Ih.out.below hbawg26)
                replace Iu := Lib.hid (Iu.out.below hbawg26)
                replace Ii := Lib.hid (Ii.out.below hbawg26)
                replace Iv := Lib.hid (Iv.out.below hbawg26)
                replace Ij := Lib.hid (Ij.out.below hbawg26)
                replace Io := Lib.hid (Io.out.below hbawg26)
                replace Xc0 := (hbawg26.cell (p := ⟨b1, 0, none⟩) Xl).trans Xc0
                replace Xc1 := (hbawg26.cell (p := ⟨b1, 1, none⟩) Xl).trans Xc1
                replace Xl := Nat.lt_of_lt_of_le Xl hbawg26.size
                replace Yc0 := (hbawg26.cell (p := ⟨b2, 0, none⟩) Yl).trans Yc0
                replace Yc1 := (hbawg26.cell (p := ⟨b2, 1, none⟩) Yl).trans Yc1
                replace Yl := Nat.lt_of_lt_of_le Yl hbawg26.size
                replace Zc0 := (hbawg26.cell (p := ⟨b3, 0, none⟩) Zl).trans Zc0
                replace Zc1 := (hbawg26.cell (p := ⟨b3, 1, none⟩) Zl).trans Zc1
                replace Zl := Nat.lt_of_lt_of_le Zl hbawg26.size
                replace Bgc0 := (hbawg26.cell (p := ⟨Bgp, 0, none⟩) Bgl).trans Bgc0
                replace Bgc1 := (hbawg26.cell (p := ⟨Bgp, 1, none⟩) Bgl).trans Bgc1
                replace Bgl := Nat.lt_of_lt_of_le Bgl hbawg26.size
                replace Bhc0 := (hbawg26.cell (p := ⟨Bhp, 0, none⟩) Bhl).trans Bhc0
                replace Bhc1 := (hbawg26.cell (p := ⟨Bhp, 1, none⟩) Bhl).trans Bhc1
                replace Bhl := Nat.lt_of_lt_of_le Bhl hbawg26.size
                replace Buc0 := (hbawg26.cell (p := ⟨Bup, 0, none⟩) Bul).trans Buc0
                replace Buc1 := (hbawg26.cell (p := ⟨Bup, 1, none⟩) Bul).trans Buc1
                replace Bul := Nat.lt_of_lt_of_le Bul hbawg26.size
                replace Bic0 := (hbawg26.cell (p := ⟨Bip, 0, none⟩) Bil).trans Bic0
                replace Bic1 := (hbawg26.cell (p := ⟨Bip, 1, none⟩) Bil).trans Bic1
                replace Bil := Nat.lt_of_lt_of_le Bil hbawg26.size
                replace Bvc0 := (hbawg26.cell (p := ⟨Bvp, 0, none⟩) Bvl).trans Bvc0
                replace Bvc1 := (hbawg26.cell (p := ⟨Bvp, 1, none⟩) Bvl).trans Bvc1
                replace Bvl := Nat.lt_of_lt_of_le Bvl hbawg26.size
                replace HW := Lib.hid (HW.out.trans (hbawg26.mono HW.out.size))
                clear hbawg26
                refine (sign_is _ sv av mv kv zv (Y.tmod Z) cv Iv.out HCV.out).mono ?_
                rintro e wg27 ⟨rfl, hbwg27⟩
                replace IX1 := Lib.hid (IX1.out.below hbwg27)
                replace IY1 := Lib.hid (IY1.out.below hbwg27)
                replace IZ1 := Lib.hid (IZ1.out.below hbwg27)
                replace Ig := Lib.hid (Ig.out.below hbwg27)
                replace Ih := Lib.hid (Ih.out.below hbwg27)
                replace Iu := Lib.hid (Iu.out.below hbwg27)
                replace Ii := Lib.hid (Ii.out.below hbwg27)
                replace Iv := Lib.hid (Iv.out.below hbwg27)
                replace Ij := Lib.hid (Ij.out.below hbwg27)
                replace Io := Lib.hid (Io.out.below hbwg27)
                replace Xc0 := (hbwg27.cell (p := ⟨b1, 0, none⟩) Xl).trans Xc0
                replace Xc1 := (hbwg27.cell (p := ⟨b1, 1, none⟩) Xl).trans Xc1
                replace Xl := Nat.lt_of_lt_of_le Xl hbwg27.size
                replace Yc0 := (hbwg27.cell (p := ⟨b2, 0, none⟩) Yl).trans Yc0
                replace Yc1 := (hbwg27.cell (p := ⟨b2, 1, none⟩) Yl).trans Yc1
                replace Yl := Nat.lt_of_lt_of_le Yl hbwg27.size
                replace Zc0 := (hbwg27.cell (p := ⟨b3, 0, none⟩) Zl).trans Zc0
                replace Zc1 := (hbwg27.cell (p := ⟨b3, 1, none⟩) Zl).trans Zc1
                replace Zl := Nat.lt_of_lt_of_le Zl hbwg27.size
                replace Bgc0 := (hbwg27.cell (p := ⟨Bgp, 0, none⟩) Bgl).trans Bgc0
                replace Bgc1 := (hbwg27.cell (p := ⟨Bgp, 1, none⟩) Bgl).trans Bgc1
                replace Bgl := Nat.lt_of_lt_of_le Bgl hbwg27.size
                replace Bhc0 := (hbwg27.cell (p := ⟨Bhp, 0, none⟩) Bhl).trans Bhc0
                replace Bhc1 := (hbwg27.cell (p := ⟨Bhp, 1, none⟩) Bhl).trans Bhc1
                replace Bhl := Nat.lt_of_lt_of_le Bhl hbwg27.size
                replace Buc0 := (hbwg27.cell (p := ⟨Bup, 0, none⟩) Bul).trans Buc0
                replace Buc1 := (hbwg27.cell (p := ⟨Bup, 1, none⟩) Bul).trans Buc1
                replace Bul := Nat.lt_of_lt_of_le Bul hbwg27.size
                replace Bic0 := (hbwg27.cell (p := ⟨Bip, 0, none⟩) Bil).trans Bic0
                replace Bic1 := (hbwg27.cell (p := ⟨Bip, 1, none⟩) Bil).trans Bic1
                replace Bil := Nat.lt_of_lt_of_le Bil hbwg27.size
                replace Bvc0 := (hbwg27.cell (p := ⟨Bvp, 0, none⟩) Bvl).trans Bvc0
                replace Bvc1 := (hbwg27.cell (p := ⟨Bvp, 1, none⟩) Bvl).trans Bvc1
                replace Bvl := Nat.lt_of_lt_of_le Bvl hbwg27.size
                replace Bjc0 := (hbwg27.cell (p := ⟨Bjp, 0, none⟩) Bjl).trans Bjc0
                replace Bjc1 := (hbwg27.cell (p := ⟨Bjp, 1, none⟩) Bjl).trans Bjc1
                replace Bjl := Nat.lt_of_lt_of_le Bjl hbwg27.size
                replace Boc0 := (hbwg27.cell (p := ⟨Bop, 0, none⟩) Bol).trans Boc0
                replace Boc1 := (hbwg27.cell (p := ⟨Bop, 1, none⟩) Bol).trans Boc1
                replace Bol := Nat.lt_of_lt_of_le Bol hbwg27.size
                replace HW := Lib.hid (HW.out.trans (hbwg27.mono HW.out.size))
                clear hbwg27
                go_wp2_with fail
                refine (awake_any _).mono ?_
                rintro e we ⟨rfl, hbe⟩
                go_wp2_with fail
                go_ret
                exact ⟨rfl, HW.out.trans (hbe.mono HW.out.size)⟩
            · obtain ⟨cu, hcu⟩ : ∃ c, cmpI (X.tmod Z) 0 = c := ⟨_, rfl⟩
              have hcu0 := sign_not hcu hu0
              have hcu1 : ¬ cu = 0 := by simpa using hcu0
              have HCU := Lib.hid hcu
              clear hcu hu0
              go_wp2_with fail
              obtain ⟨wg28, hwg28⟩ : ∃ wg28, wg28 = ((wg17.alloc (.cells #[.bool sh, .slice ah mh kh] 28)).alloc (.cells #[.bool su, .slice au mu ku] 28)) := ⟨_, rfl⟩
              have hbawg28 : Below wg17.heap.size wg17 wg28 := by rw [hwg28]; go_grown
              have hrBh : wg28.heap[wg17.heap.size]? = some (.cells #[.bool sh, .slice ah mh kh] 28 (0, 0)) := by rw [hwg28]; exact (heap_alloc2 wg17 _ _).2
              have hrBu : wg28.heap[wg17.heap.size + 1]? = some (.cells #[.bool su, .slice au mu ku] 28 (0, 0)) := by rw [hwg28]; exact (heap_alloc2 wg17 _ _).1
              rw [← hwg28]
              clear hwg28
              obtain ⟨Bhp, hBhp⟩ : ∃ p, p = wg17.heap.size := ⟨_, rfl⟩
              obtain ⟨Bup, hBup⟩ : ∃ p, p = wg17.heap.size + 1 := ⟨_, rfl⟩
              rw [← hBup] at hrBu ⊢
              rw [← hBhp] at hrBh ⊢
              obtain ⟨Bhc0, Bhc1, -, -⟩ := blk2 hrBh
              have Bhl : Bhp < wg28.heap.size := World.block_lt_of_cell? _ _ Bhc0
              clear hBhp hrBh
              obtain ⟨Buc0, Buc1, -, -⟩ := blk2 hrBu
              have Bul : Bup < wg28.heap.size := World.block_lt_of_cell? _ _ Buc0
              clear hBup hrBu
              replace IX1 := Lib.hid (IX1.out.below hbawg28)
              replace IY1 := Lib.hid (IY1.out.below hbawg28)
              replace IZ1 := Lib.hid (IZ1.out.below hbawg28)
              replace Ig := Lib.hid (Ig.out.below hbawg28)
              replace Ih := Lib.hid (Ih.out.below hbawg28)
              replace Iu := Lib.hid (Iu.out.below hbawg28)
              replace Xc0 := (hbawg28.cell (p := ⟨b1, 0, none⟩) Xl).trans Xc0
              replace Xc1 := (hbawg28.cell (p := ⟨b1, 1, none⟩) Xl).trans Xc1
              replace Xl := Nat.lt_of_lt_of_le Xl hbawg28.size
              replace Yc0 := (hbawg28.cell (p := ⟨b2, 0, none⟩) Yl).trans Yc0
              replace Yc1 := (hbawg28.cell (p := ⟨b2, 1, none⟩) Yl).trans Yc1
              replace Yl := Nat.lt_of_lt_of_le Yl hbawg28.size
              replace Zc0 := (hbawg28.cell (p := ⟨b3, 0, none⟩) Zl).trans Zc0
              replace Zc1 := (hbawg28.cell (p := ⟨b3, 1, none⟩) Zl).trans Zc1
              replace Zl := Nat.lt_of_lt_of_le Zl hbawg28.size
              replace Bgc0 := (hbawg28.cell (p := ⟨Bgp, 0, none⟩) Bgl).trans Bgc0
              replace Bgc1 := (hbawg28.cell (p := ⟨Bgp, 1, none⟩) Bgl).trans Bgc1
              replace Bgl := Nat.lt_of_lt_of_le Bgl hbawg28.size
              replace HW := Lib.hid (HW.out.trans (hbawg28.mono HW.out.size))
              clear hbawg28
              refine (sign_is _ su au mu ku zu (X.tmod Z) cu Iu.out HCU.out).mono ?_
              rintro e wg29 ⟨rfl, hbwg29⟩
              replace IX1 := Lib.hid (IX1.out.below hbwg29)
              replace IY1 := Lib.hid (IY1.out.below hbwg29)
              replace IZ1 := Lib.hid (IZ1.out.below hbwg29)
              replace Ig := Lib.hid (Ig.out.below hbwg29)
              replace Ih := Lib.hid (Ih.out.below hbwg29)
              replace Iu := Lib.hid (Iu.out.below hbwg29)
              replace Xc0 := (hbwg29.cell (p := ⟨b1, 0, none⟩) Xl).trans Xc0
              replace Xc1 := (hbwg29.cell (p := ⟨b1, 1, none⟩) Xl).trans Xc1
              replace Xl := Nat.lt_of_lt_of_le Xl hbwg29.size
              replace Yc0 := (hbwg29.cell (p := ⟨b2, 0, none⟩) Yl).trans Yc0
              replace Yc1 := (hbwg29.cell (p := ⟨b2, 1, none⟩) Yl).trans Yc1
              replace Yl := Nat.lt_of_lt_of_le Yl hbwg29.size
              replace Zc0 := (hbwg29.cell (p := ⟨b3, 0, none⟩) Zl).trans Zc0
              replace Zc1 := (hbwg29.cell (p := ⟨b3, 1, none⟩) Zl).trans Zc1
              replace Zl := Nat.lt_of_lt_of_le Zl hbwg29.size
              replace Bgc0 := (hbwg29.cell (p := ⟨Bgp, 0, none⟩) Bgl).trans Bgc0
              replace Bgc1 := (hbwg29.cell (p := ⟨Bgp, 1, none⟩) Bgl).trans Bgc1
              replace Bgl := Nat.lt_of_lt_of_le Bgl hbwg29.size
              replace Bhc0 := (hbwg29.cell (p := ⟨Bhp, 0, none⟩) Bhl).trans Bhc0
              replace Bhc1 := (hbwg29.cell (p := ⟨Bhp, 1, none⟩) Bhl).trans Bhc1
              replace Bhl := Nat.lt_of_lt_of_le Bhl hbwg29.size
              replace Buc0 := (hbwg29.cell (p := ⟨Bup, 0, none⟩) Bul).trans Buc0
              replace Buc1 := (hbwg29.cell (p := ⟨Bup, 1, none⟩) Bul).trans Buc1
              replace Bul := Nat.lt_of_lt_of_le Bul hbwg29.size
              replace HW := Lib.hid (HW.out.trans (hbwg29.mono HW.out.size))
              clear hbwg29
              go_wp2_with fail
              refine (awake_any _).mono ?_
              rintro e we ⟨rfl, hbe⟩
              go_wp2_with fail
              go_ret
              exact ⟨rfl, HW.out.trans (hbe.mono HW.out.size)⟩

theorem divs_law (w : World) (nx ny nz : Bool) (ax ay az : Option Addr) (n1 c1 n2 c2 n3 c3 : Nat) (zx zy zz : List Int) (hx : Sl w ax n1 c1 zx) (lx : Lim zx) (hy : Sl w ay n2 c2 zy) (ly : Lim zy) (hz : Sl w az n3 c3 zz) (lz : Lim zz) :
    Calls Try.prog 11 #[.agg #[.bool nx, .slice ax n1 c1], .agg #[.bool ny, .slice ay n2 c2], .agg #[.bool nz, .slice az n3 c3]] w (RetV w (.bool true)) := by
  by_cases h : n1 ≤ 6 ∧ n2 ≤ 6 ∧ n3 ≤ 6
  · apply divs_short <;> assumption
  · exact divs_long w nx ny nz ax ay az n1 c1 n2 c2 n3 c3 h
end Go.Proofs.Ytpakfknacmcohaa
