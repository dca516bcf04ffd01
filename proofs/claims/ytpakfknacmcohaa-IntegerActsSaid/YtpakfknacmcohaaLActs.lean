/- IntegerActs: the walk. -/
import Derived.Test.YtpakfknacmcohaaActs1
import Derived.Test.YtpakfknacmcohaaOf
namespace Go.Proofs.Ytpakfknacmcohaa
open Go.RowKit
set_option autoImplicit false
set_option linter.unusedVariables false

theorem cmpI_int (w : World) (nx ny : Bool) (ao bo : Option Addr) (n m capa capb : Nat) (xs ys : List Int) (x y c : Int) (hx : IntAt w nx ao n capa xs x) (hy : IntAt w ny bo m capb ys y) (hc : cmpI x y = c) :
    Calls Try.prog 32 #[.agg #[.bool nx, .slice ao n capa], .agg #[.bool ny, .slice bo m capb]] w (RetV w (.int .i64 c)) := by
  rw [← hc]; exact cmp_int w nx ny ao bo n m capa capb xs ys x y hx hy

theorem is_yes (w : World) (nx ny : Bool) (ao bo : Option Addr) (n m capa capb : Nat) (xs ds : List Int) (x : Int) (hx : IntAt w nx ao n capa xs x) (hy : RefAt w ny bo m capb ds x) (hn : n ≤ 4294967296) (hm : m ≤ 4294967296) :
    Calls Try.prog 21 #[.agg #[.bool nx, .slice ao n capa], .agg #[.bool ny, .slice bo m capb]] w (RetV w (.bool true)) := by
  have := is_any w nx ny ao bo n m capa capb xs ds x x hx hy hn hm
  rwa [decide_eq_true rfl] at this

set_option maxRecDepth 100000 in
theorem acts_long (w : World) (nx ny : Bool) (ax ay : Option Addr) (n1 c1 n2 c2 : Nat) (h : ¬ (n1 ≤ 8 ∧ n2 ≤ 8)) :
    Calls Try.prog 4 #[.agg #[.bool nx, .slice ax n1 c1], .agg #[.bool ny, .slice ay n2 c2]] w (RetV w (.bool true)) := by
  have HD : Hid (decide (n1 ≤ 8 ∧ n2 ≤ 8) = false) := Lib.hid (decide_eq_false h)
  clear h
  go_enter Try.func4, Try.ntmps4
  go_upto_region 1 with (fail)
  obtain ⟨W, hW⟩ : ∃ W, W = (w.alloc (.cells #[.bool nx, .slice ax n1 c1] 24)).alloc (.cells #[.bool ny, .slice ay n2 c2] 24) := ⟨_, rfl⟩
  have hbW : Below w.heap.size w W := by rw [hW]; go_grown
  have hsW : w.heap.size + 1 + 1 ≤ W.heap.size := by rw [hW]; go_size
  have rx : W.heap[w.heap.size]? = some (.cells #[.bool nx, .slice ax n1 c1] 24 (0, 0)) := by rw [hW]; exact (heap_alloc2 w _ _).2
  have ry : W.heap[w.heap.size + 1]? = some (.cells #[.bool ny, .slice ay n2 c2] 24 (0, 0)) := by rw [hW]; exact (heap_alloc2 w _ _).1
  rw [← hW]
  clear hW
  obtain ⟨x0, x1, -, -⟩ := blk2 rx
  obtain ⟨y0, y1, -, -⟩ := blk2 ry
  go_wp2_with fail
  refine (short_two _ _ ⟨nx, ax, n1, c1⟩ ⟨ny, ay, n2, c2⟩ 8 (heap_alloc_new _ _)).mono ?_
  rintro e w1 ⟨rfl, hb1⟩
  rw [show decide (Num.n ⟨nx, ax, n1, c1⟩ ≤ 8 ∧ Num.n ⟨ny, ay, n2, c2⟩ ≤ 8) = false from HD.out]
  have hb2 : Below W.heap.size W w1 := Below.trans (by go_grown) (hb1.mono (by go_size))
  clear hb1 x0 x1 y0 y1
  go_wp2_with fail
  refine (awake_any _).mono ?_
  rintro e we ⟨rfl, hbe⟩
  go_wp2_with fail
  go_ret
  exact ⟨rfl, (hbW.trans (hb2.mono hbW.size)).trans (hbe.mono (Nat.le_trans hbW.size hb2.size))⟩

set_option maxRecDepth 100000 in
set_option maxHeartbeats 8000000 in
theorem acts_short (w : World) (nx ny : Bool) (ax ay : Option Addr) (n1 c1 n2 c2 : Nat) (zx zy : List Int) (hx : Sl w ax n1 c1 zx) (lx : Lim zx) (hy : Sl w ay n2 c2 zy) (ly : Lim zy) (h : n1 ≤ 8 ∧ n2 ≤ 8) :
    Calls Try.prog 4 #[.agg #[.bool nx, .slice ax n1 c1], .agg #[.bool ny, .slice ay n2 c2]] w (RetV w (.bool true)) := by
  have HX := Lib.hid hx
  have HY := Lib.hid hy
  obtain ⟨X, hX⟩ : ∃ X, sgn nx (val zx) = X := ⟨_, rfl⟩
  obtain ⟨Y, hY⟩ : ∃ Y, sgn ny (val zy) = Y := ⟨_, rfl⟩
  obtain ⟨D, hD⟩ : ∃ D, cmpI X Y = D := ⟨_, rfl⟩
  have HXV := Lib.hid hX
  have HYV := Lib.hid hY
  have HDV := Lib.hid hD
  have HD : Hid (decide (n1 ≤ 8 ∧ n2 ≤ 8) = true) := Lib.hid (decide_eq_true h)
  obtain ⟨h1, h2⟩ := h
  clear hx hy hX hY hD
  go_enter Try.func4, Try.ntmps4
  go_upto_region 1 with (fail)
  obtain ⟨W, hW⟩ : ∃ W, W = (w.alloc (.cells #[.bool nx, .slice ax n1 c1] 24)).alloc (.cells #[.bool ny, .slice ay n2 c2] 24) := ⟨_, rfl⟩
  have hbW : Below w.heap.size w W := by rw [hW]; go_grown
  have hsW : w.heap.size + 1 + 1 ≤ W.heap.size := by rw [hW]; go_size
  have rx : W.heap[w.heap.size]? = some (.cells #[.bool nx, .slice ax n1 c1] 24 (0, 0)) := by rw [hW]; exact (heap_alloc2 w _ _).2
  have ry : W.heap[w.heap.size + 1]? = some (.cells #[.bool ny, .slice ay n2 c2] 24 (0, 0)) := by rw [hW]; exact (heap_alloc2 w _ _).1
  rw [← hW]
  clear hW
  obtain ⟨x0, x1, -, -⟩ := blk2 rx
  obtain ⟨y0, y1, -, -⟩ := blk2 ry
  go_wp2_with fail
  refine (short_two _ _ ⟨nx, ax, n1, c1⟩ ⟨ny, ay, n2, c2⟩ 8 (heap_alloc_new _ _)).mono ?_
  rintro e w1 ⟨rfl, hb1⟩
  rw [show decide (Num.n ⟨nx, ax, n1, c1⟩ ≤ 8 ∧ Num.n ⟨ny, ay, n2, c2⟩ ≤ 8) = true from HD.out]
  have hb2 : Below W.heap.size W w1 := Below.trans (by go_grown) (hb1.mono (by go_size))
  clear hb1 x0 x1 y0 y1
  have HW := Lib.hid (hbW.trans (hb2.mono hbW.size))
  have rx1 := (hb2.block w.heap.size (by omega)).trans rx
  have ry1 := (hb2.block (w.heap.size + 1) (by omega)).trans ry
  obtain ⟨bxp, hbxp⟩ : ∃ p, p = w.heap.size := ⟨_, rfl⟩
  obtain ⟨byp, hbyp⟩ : ∃ p, p = w.heap.size + 1 := ⟨_, rfl⟩
  rw [← hbyp] at ry1 ⊢
  rw [← hbxp] at rx1 ⊢
  obtain ⟨bxc0, bxc1, -, -⟩ := blk2 rx1
  obtain ⟨byc0, byc1, -, -⟩ := blk2 ry1
  have bxl : bxp < w1.heap.size := World.block_lt_of_cell? _ _ bxc0
  have byl : byp < w1.heap.size := World.block_lt_of_cell? _ _ byc0
  replace HX := Lib.hid (HX.out.below HW.out)
  replace HY := Lib.hid (HY.out.below HW.out)
  clear rx ry rx1 ry1 hbxp hbyp hbW hsW hb2 HD
  go_wp2_with fail
  refine (of_any _ nx ax n1 c1 zx HX.out lx (by omega)).mono ?_
  rintro e wg1 ⟨s1, a1, m1, k1, z1, t1, d1, j1, e1, y1, rfl, hI1, hm1, hR1, hj1, hbwg1⟩
  rw [HXV.out] at hI1 hR1
  replace HX := Lib.hid (HX.out.below hbwg1)
  replace HY := Lib.hid (HY.out.below hbwg1)
  replace bxc0 := (hbwg1.cell (p := ⟨bxp, 0, none⟩) bxl).trans bxc0
  replace bxc1 := (hbwg1.cell (p := ⟨bxp, 1, none⟩) bxl).trans bxc1
  replace bxl := Nat.lt_of_lt_of_le bxl hbwg1.size
  replace byc0 := (hbwg1.cell (p := ⟨byp, 0, none⟩) byl).trans byc0
  replace byc1 := (hbwg1.cell (p := ⟨byp, 1, none⟩) byl).trans byc1
  replace byl := Nat.lt_of_lt_of_le byl hbwg1.size
  replace HW := Lib.hid (HW.out.trans (hbwg1.mono HW.out.size))
  have I1 := Lib.hid hI1
  clear hI1
  have R1 := Lib.hid hR1
  clear hR1
  clear hbwg1
  go_wp2_with fail
  obtain ⟨wg2, hwg2⟩ : ∃ wg2, wg2 = ((wg1.alloc (.cells #[.bool s1, .slice a1 m1 k1] 28)).alloc (.cells #[.bool t1, .slice d1 j1 e1] 31)) := ⟨_, rfl⟩
  have hbawg2 : Below wg1.heap.size wg1 wg2 := by rw [hwg2]; go_grown
  have hrb1 : wg2.heap[wg1.heap.size]? = some (.cells #[.bool s1, .slice a1 m1 k1] 28 (0, 0)) := by rw [hwg2]; exact (heap_alloc2 wg1 _ _).2
  have hrr1 : wg2.heap[wg1.heap.size + 1]? = some (.cells #[.bool t1, .slice d1 j1 e1] 31 (0, 0)) := by rw [hwg2]; exact (heap_alloc2 wg1 _ _).1
  rw [← hwg2]
  clear hwg2
  obtain ⟨b1p, hb1p⟩ : ∃ p, p = wg1.heap.size := ⟨_, rfl⟩
  obtain ⟨r1p, hr1p⟩ : ∃ p, p = wg1.heap.size + 1 := ⟨_, rfl⟩
  rw [← hr1p] at hrr1 ⊢
  rw [← hb1p] at hrb1 ⊢
  obtain ⟨b1c0, b1c1, -, -⟩ := blk2 hrb1
  have b1l : b1p < wg2.heap.size := World.block_lt_of_cell? _ _ b1c0
  clear hb1p hrb1
  obtain ⟨r1c0, r1c1, -, -⟩ := blk2 hrr1
  have r1l : r1p < wg2.heap.size := World.block_lt_of_cell? _ _ r1c0
  clear hr1p hrr1
  replace HX := Lib.hid (HX.out.below hbawg2)
  replace HY := Lib.hid (HY.out.below hbawg2)
  replace I1 := Lib.hid (I1.out.below hbawg2)
  replace R1 := Lib.hid (R1.out.below hbawg2)
  replace bxc0 := (hbawg2.cell (p := ⟨bxp, 0, none⟩) bxl).trans bxc0
  replace bxc1 := (hbawg2.cell (p := ⟨bxp, 1, none⟩) bxl).trans bxc1
  replace bxl := Nat.lt_of_lt_of_le bxl hbawg2.size
  replace byc0 := (hbawg2.cell (p := ⟨byp, 0, none⟩) byl).trans byc0
  replace byc1 := (hbawg2.cell (p := ⟨byp, 1, none⟩) byl).trans byc1
  replace byl := Nat.lt_of_lt_of_le byl hbawg2.size
  replace HW := Lib.hid (HW.out.trans (hbawg2.mono HW.out.size))
  clear hbawg2
  refine (of_any _ ny ay n2 c2 zy HY.out ly (by omega)).mono ?_
  rintro e wg3 ⟨s2, a2, m2, k2, z2, t2, d2, j2, e2, y2, rfl, hI2, hm2, hR2, hj2, hbwg3⟩
  rw [HYV.out] at hI2 hR2
  replace HX := Lib.hid (HX.out.below hbwg3)
  replace HY := Lib.hid (HY.out.below hbwg3)
  replace I1 := Lib.hid (I1.out.below hbwg3)
  replace R1 := Lib.hid (R1.out.below hbwg3)
  replace bxc0 := (hbwg3.cell (p := ⟨bxp, 0, none⟩) bxl).trans bxc0
  replace bxc1 := (hbwg3.cell (p := ⟨bxp, 1, none⟩) bxl).trans bxc1
  replace bxl := Nat.lt_of_lt_of_le bxl hbwg3.size
  replace byc0 := (hbwg3.cell (p := ⟨byp, 0, none⟩) byl).trans byc0
  replace byc1 := (hbwg3.cell (p := ⟨byp, 1, none⟩) byl).trans byc1
  replace byl := Nat.lt_of_lt_of_le byl hbwg3.size
  replace b1c0 := (hbwg3.cell (p := ⟨b1p, 0, none⟩) b1l).trans b1c0
  replace b1c1 := (hbwg3.cell (p := ⟨b1p, 1, none⟩) b1l).trans b1c1
  replace b1l := Nat.lt_of_lt_of_le b1l hbwg3.size
  replace r1c0 := (hbwg3.cell (p := ⟨r1p, 0, none⟩) r1l).trans r1c0
  replace r1c1 := (hbwg3.cell (p := ⟨r1p, 1, none⟩) r1l).trans r1c1
  replace r1l := Nat.lt_of_lt_of_le r1l hbwg3.size
  replace HW := Lib.hid (HW.out.trans (hbwg3.mono HW.out.size))
  have I2 := Lib.hid hI2
  clear hI2
  have R2 := Lib.hid hR2
  clear hR2
  clear hbwg3
  go_wp2_with fail
  obtain ⟨wg4, hwg4⟩ : ∃ wg4, wg4 = ((wg3.alloc (.cells #[.bool s2, .slice a2 m2 k2] 28)).alloc (.cells #[.bool t2, .slice d2 j2 e2] 31)) := ⟨_, rfl⟩
  have hbawg4 : Below wg3.heap.size wg3 wg4 := by rw [hwg4]; go_grown
  have hrb2 : wg4.heap[wg3.heap.size]? = some (.cells #[.bool s2, .slice a2 m2 k2] 28 (0, 0)) := by rw [hwg4]; exact (heap_alloc2 wg3 _ _).2
  have hrr2 : wg4.heap[wg3.heap.size + 1]? = some (.cells #[.bool t2, .slice d2 j2 e2] 31 (0, 0)) := by rw [hwg4]; exact (heap_alloc2 wg3 _ _).1
  rw [← hwg4]
  clear hwg4
  obtain ⟨b2p, hb2p⟩ : ∃ p, p = wg3.heap.size := ⟨_, rfl⟩
  obtain ⟨r2p, hr2p⟩ : ∃ p, p = wg3.heap.size + 1 := ⟨_, rfl⟩
  rw [← hr2p] at hrr2 ⊢
  rw [← hb2p] at hrb2 ⊢
  obtain ⟨b2c0, b2c1, -, -⟩ := blk2 hrb2
  have b2l : b2p < wg4.heap.size := World.block_lt_of_cell? _ _ b2c0
  clear hb2p hrb2
  obtain ⟨r2c0, r2c1, -, -⟩ := blk2 hrr2
  have r2l : r2p < wg4.heap.size := World.block_lt_of_cell? _ _ r2c0
  clear hr2p hrr2
  replace HX := Lib.hid (HX.out.below hbawg4)
  replace HY := Lib.hid (HY.out.below hbawg4)
  replace I1 := Lib.hid (I1.out.below hbawg4)
  replace R1 := Lib.hid (R1.out.below hbawg4)
  replace I2 := Lib.hid (I2.out.below hbawg4)
  replace R2 := Lib.hid (R2.out.below hbawg4)
  replace bxc0 := (hbawg4.cell (p := ⟨bxp, 0, none⟩) bxl).trans bxc0
  replace bxc1 := (hbawg4.cell (p := ⟨bxp, 1, none⟩) bxl).trans bxc1
  replace bxl := Nat.lt_of_lt_of_le bxl hbawg4.size
  replace byc0 := (hbawg4.cell (p := ⟨byp, 0, none⟩) byl).trans byc0
  replace byc1 := (hbawg4.cell (p := ⟨byp, 1, none⟩) byl).trans byc1
  replace byl := Nat.lt_of_lt_of_le byl hbawg4.size
  replace b1c0 := (hbawg4.cell (p := ⟨b1p, 0, none⟩) b1l).trans b1c0
  replace b1c1 := (hbawg4.cell (p := ⟨b1p, 1, none⟩) b1l).trans b1c1
  replace b1l := Nat.lt_of_lt_of_le b1l hbawg4.size
  replace r1c0 := (hbawg4.cell (p := ⟨r1p, 0, none⟩) r1l).trans r1c0
  replace r1c1 := (hbawg4.cell (p := ⟨r1p, 1, none⟩) r1l).trans r1c1
  replace r1l := Nat.lt_of_lt_of_le r1l hbawg4.size
  replace HW := Lib.hid (HW.out.trans (hbawg4.mono HW.out.size))
  clear hbawg4
  clear bxc0 bxc1 bxl
  clear byc0 byc1 byl
  clear HX HY HXV HYV lx ly
  obtain ⟨Q, R, c, hP, hQ⟩ := both_divide s1 t1 s2 t2 a1 d1 a2 d2 m1 j1 m2 j2 k1 e1 k2 e2 z1 y1 z2 y2 X Y wg4 I1.out R1.out I2.out R2.out (by omega) (by omega) (by omega) (by omega)
  have HP := Lib.hid hP
  clear hP
  have HQ := Lib.hid hQ
  clear hQ
  refine (HP.out _ (.refl _ _)).mono ?_
  clear HP
  rintro e wg5 ⟨s3, a3, m3, k3, z3, s4, a4, m4, k4, z4, rfl, hI3, hI4, hm3, hm4, hbwg5⟩
  replace I1 := Lib.hid (I1.out.below hbwg5)
  replace R1 := Lib.hid (R1.out.below hbwg5)
  replace I2 := Lib.hid (I2.out.below hbwg5)
  replace R2 := Lib.hid (R2.out.below hbwg5)
  replace b1c0 := (hbwg5.cell (p := ⟨b1p, 0, none⟩) b1l).trans b1c0
  replace b1c1 := (hbwg5.cell (p := ⟨b1p, 1, none⟩) b1l).trans b1c1
  replace b1l := Nat.lt_of_lt_of_le b1l hbwg5.size
  replace r1c0 := (hbwg5.cell (p := ⟨r1p, 0, none⟩) r1l).trans r1c0
  replace r1c1 := (hbwg5.cell (p := ⟨r1p, 1, none⟩) r1l).trans r1c1
  replace r1l := Nat.lt_of_lt_of_le r1l hbwg5.size
  replace b2c0 := (hbwg5.cell (p := ⟨b2p, 0, none⟩) b2l).trans b2c0
  replace b2c1 := (hbwg5.cell (p := ⟨b2p, 1, none⟩) b2l).trans b2c1
  replace b2l := Nat.lt_of_lt_of_le b2l hbwg5.size
  replace r2c0 := (hbwg5.cell (p := ⟨r2p, 0, none⟩) r2l).trans r2c0
  replace r2c1 := (hbwg5.cell (p := ⟨r2p, 1, none⟩) r2l).trans r2c1
  replace r2l := Nat.lt_of_lt_of_le r2l hbwg5.size
  replace HW := Lib.hid (HW.out.trans (hbwg5.mono HW.out.size))
  replace HQ : Hid (∀ w', Below _ _ w' → _) := Lib.hid (fun w' hb' => HQ.out w' (hbwg5.trans (hb'.mono hbwg5.size)))
  have I3 := Lib.hid hI3
  clear hI3
  have I4 := Lib.hid hI4
  clear hI4
  clear hbwg5
  go_wp2_with fail
  obtain ⟨wg6, hwg6⟩ : ∃ wg6, wg6 = ((wg5.alloc (.cells #[.bool s3, .slice a3 m3 k3] 28)).alloc (.cells #[.bool s4, .slice a4 m4 k4] 28)) := ⟨_, rfl⟩
  have hbawg6 : Below wg5.heap.size wg5 wg6 := by rw [hwg6]; go_grown
  have hrb3 : wg6.heap[wg5.heap.size]? = some (.cells #[.bool s3, .slice a3 m3 k3] 28 (0, 0)) := by rw [hwg6]; exact (heap_alloc2 wg5 _ _).2
  have hrb4 : wg6.heap[wg5.heap.size + 1]? = some (.cells #[.bool s4, .slice a4 m4 k4] 28 (0, 0)) := by rw [hwg6]; exact (heap_alloc2 wg5 _ _).1
  rw [← hwg6]
  clear hwg6
  obtain ⟨b3p, hb3p⟩ : ∃ p, p = wg5.heap.size := ⟨_, rfl⟩
  obtain ⟨b4p, hb4p⟩ : ∃ p, p = wg5.heap.size + 1 := ⟨_, rfl⟩
  rw [← hb4p] at hrb4 ⊢
  rw [← hb3p] at hrb3 ⊢
  obtain ⟨b3c0, b3c1, -, -⟩ := blk2 hrb3
  have b3l : b3p < wg6.heap.size := World.block_lt_of_cell? _ _ b3c0
  clear hb3p hrb3
  obtain ⟨b4c0, b4c1, -, -⟩ := blk2 hrb4
  have b4l : b4p < wg6.heap.size := World.block_lt_of_cell? _ _ b4c0
  clear hb4p hrb4
  replace I1 := Lib.hid (I1.out.below hbawg6)
  replace R1 := Lib.hid (R1.out.below hbawg6)
  replace I2 := Lib.hid (I2.out.below hbawg6)
  replace R2 := Lib.hid (R2.out.below hbawg6)
  replace I3 := Lib.hid (I3.out.below hbawg6)
  replace I4 := Lib.hid (I4.out.below hbawg6)
  replace b1c0 := (hbawg6.cell (p := ⟨b1p, 0, none⟩) b1l).trans b1c0
  replace b1c1 := (hbawg6.cell (p := ⟨b1p, 1, none⟩) b1l).trans b1c1
  replace b1l := Nat.lt_of_lt_of_le b1l hbawg6.size
  replace r1c0 := (hbawg6.cell (p := ⟨r1p, 0, none⟩) r1l).trans r1c0
  replace r1c1 := (hbawg6.cell (p := ⟨r1p, 1, none⟩) r1l).trans r1c1
  replace r1l := Nat.lt_of_lt_of_le r1l hbawg6.size
  replace b2c0 := (hbawg6.cell (p := ⟨b2p, 0, none⟩) b2l).trans b2c0
  replace b2c1 := (hbawg6.cell (p := ⟨b2p, 1, none⟩) b2l).trans b2c1
  replace b2l := Nat.lt_of_lt_of_le b2l hbawg6.size
  replace r2c0 := (hbawg6.cell (p := ⟨r2p, 0, none⟩) r2l).trans r2c0
  replace r2c1 := (hbawg6.cell (p := ⟨r2p, 1, none⟩) r2l).trans r2c1
  replace r2l := Nat.lt_of_lt_of_le r2l hbawg6.size
  replace HW := Lib.hid (HW.out.trans (hbawg6.mono HW.out.size))
  replace HQ : Hid (∀ w', Below _ _ w' → _) := Lib.hid (fun w' hb' => HQ.out w' (hbawg6.trans (hb'.mono hbawg6.size)))
  clear hbawg6
  refine (HQ.out _ (.refl _ _)).mono ?_
  clear HQ
  rintro e wg7 ⟨s5, a5, m5, k5, z5, s6, a6, m6, k6, z6, rfl, hR5, hR6, hm5, hm6, hbwg7⟩
  replace I1 := Lib.hid (I1.out.below hbwg7)
  replace R1 := Lib.hid (R1.out.below hbwg7)
  replace I2 := Lib.hid (I2.out.below hbwg7)
  replace R2 := Lib.hid (R2.out.below hbwg7)
  replace I3 := Lib.hid (I3.out.below hbwg7)
  replace I4 := Lib.hid (I4.out.below hbwg7)
  replace b1c0 := (hbwg7.cell (p := ⟨b1p, 0, none⟩) b1l).trans b1c0
  replace b1c1 := (hbwg7.cell (p := ⟨b1p, 1, none⟩) b1l).trans b1c1
  replace b1l := Nat.lt_of_lt_of_le b1l hbwg7.size
  replace r1c0 := (hbwg7.cell (p := ⟨r1p, 0, none⟩) r1l).trans r1c0
  replace r1c1 := (hbwg7.cell (p := ⟨r1p, 1, none⟩) r1l).trans r1c1
  replace r1l := Nat.lt_of_lt_of_le r1l hbwg7.size
  replace b2c0 := (hbwg7.cell (p := ⟨b2p, 0, none⟩) b2l).trans b2c0
  replace b2c1 := (hbwg7.cell (p := ⟨b2p, 1, none⟩) b2l).trans b2c1
  replace b2l := Nat.lt_of_lt_of_le b2l hbwg7.size
  replace r2c0 := (hbwg7.cell (p := ⟨r2p, 0, none⟩) r2l).trans r2c0
  replace r2c1 := (hbwg7.cell (p := ⟨r2p, 1, none⟩) r2l).trans r2c1
  replace r2l := Nat.lt_of_lt_of_le r2l hbwg7.size
  replace b3c0 := (hbwg7.cell (p := ⟨b3p, 0, none⟩) b3l).trans b3c0
  replace b3c1 := (hbwg7.cell (p := ⟨b3p, 1, none⟩) b3l).trans b3c1
  replace b3l := Nat.lt_of_lt_of_le b3l hbwg7.size
  replace b4c0 := (hbwg7.cell (p := ⟨b4p, 0, none⟩) b4l).trans b4c0
  replace b4c1 := (hbwg7.cell (p := ⟨b4p, 1, none⟩) b4l).trans b4c1
  replace b4l := Nat.lt_of_lt_of_le b4l hbwg7.size
  replace HW := Lib.hid (HW.out.trans (hbwg7.mono HW.out.size))
  have R5 := Lib.hid hR5
  clear hR5
  have R6 := Lib.hid hR6
  clear hR6
  clear hbwg7
  go_wp2_with fail
  obtain ⟨wg8, hwg8⟩ : ∃ wg8, wg8 = ((wg7.alloc (.cells #[.bool s5, .slice a5 m5 k5] 31)).alloc (.cells #[.bool s6, .slice a6 m6 k6] 31)) := ⟨_, rfl⟩
  have hbawg8 : Below wg7.heap.size wg7 wg8 := by rw [hwg8]; go_grown
  have hrr5 : wg8.heap[wg7.heap.size]? = some (.cells #[.bool s5, .slice a5 m5 k5] 31 (0, 0)) := by rw [hwg8]; exact (heap_alloc2 wg7 _ _).2
  have hrr6 : wg8.heap[wg7.heap.size + 1]? = some (.cells #[.bool s6, .slice a6 m6 k6] 31 (0, 0)) := by rw [hwg8]; exact (heap_alloc2 wg7 _ _).1
  rw [← hwg8]
  clear hwg8
  obtain ⟨r5p, hr5p⟩ : ∃ p, p = wg7.heap.size := ⟨_, rfl⟩
  obtain ⟨r6p, hr6p⟩ : ∃ p, p = wg7.heap.size + 1 := ⟨_, rfl⟩
  rw [← hr6p] at hrr6 ⊢
  rw [← hr5p] at hrr5 ⊢
  obtain ⟨r5c0, r5c1, -, -⟩ := blk2 hrr5
  have r5l : r5p < wg8.heap.size := World.block_lt_of_cell? _ _ r5c0
  clear hr5p hrr5
  obtain ⟨r6c0, r6c1, -, -⟩ := blk2 hrr6
  have r6l : r6p < wg8.heap.size := World.block_lt_of_cell? _ _ r6c0
  clear hr6p hrr6
  replace I1 := Lib.hid (I1.out.below hbawg8)
  replace R1 := Lib.hid (R1.out.below hbawg8)
  replace I2 := Lib.hid (I2.out.below hbawg8)
  replace R2 := Lib.hid (R2.out.below hbawg8)
  replace I3 := Lib.hid (I3.out.below hbawg8)
  replace I4 := Lib.hid (I4.out.below hbawg8)
  replace R5 := Lib.hid (R5.out.below hbawg8)
  replace R6 := Lib.hid (R6.out.below hbawg8)
  replace b1c0 := (hbawg8.cell (p := ⟨b1p, 0, none⟩) b1l).trans b1c0
  replace b1c1 := (hbawg8.cell (p := ⟨b1p, 1, none⟩) b1l).trans b1c1
  replace b1l := Nat.lt_of_lt_of_le b1l hbawg8.size
  replace r1c0 := (hbawg8.cell (p := ⟨r1p, 0, none⟩) r1l).trans r1c0
  replace r1c1 := (hbawg8.cell (p := ⟨r1p, 1, none⟩) r1l).trans r1c1
  replace r1l := Nat.lt_of_lt_of_le r1l hbawg8.size
  replace b2c0 := (hbawg8.cell (p := ⟨b2p, 0, none⟩) b2l).trans b2c0
  replace b2c1 := (hbawg8.cell (p := ⟨b2p, 1, none⟩) b2l).trans b2c1
  replace b2l := Nat.lt_of_lt_of_le b2l hbawg8.size
  replace r2c0 := (hbawg8.cell (p := ⟨r2p, 0, none⟩) r2l).trans r2c0
  replace r2c1 := (hbawg8.cell (p := ⟨r2p, 1, none⟩) r2l).trans r2c1
  replace r2l := Nat.lt_of_lt_of_le r2l hbawg8.size
  replace b3c0 := (hbawg8.cell (p := ⟨b3p, 0, none⟩) b3l).trans b3c0
  replace b3c1 := (hbawg8.cell (p := ⟨b3p, 1, none⟩) b3l).trans b3c1
  replace b3l := Nat.lt_of_lt_of_le b3l hbawg8.size
  replace b4c0 := (hbawg8.cell (p := ⟨b4p, 0, none⟩) b4l).trans b4c0
  replace b4c1 := (hbawg8.cell (p := ⟨b4p, 1, none⟩) b4l).trans b4c1
  replace b4l := Nat.lt_of_lt_of_le b4l hbawg8.size
  replace HW := Lib.hid (HW.out.trans (hbawg8.mono HW.out.size))
  clear hbawg8
  have HC1 : Hid (∀ w', Below wg8.heap.size wg8 w' → Calls Try.prog 32 #[.agg #[.bool s1, .slice a1 m1 k1], .agg #[.bool s2, .slice a2 m2 k2]] w' (RetV w' (.int .i64 D))) := Lib.hid (fun w' hb => cmpI_int w' s1 s2 a1 a2 m1 m2 k1 k2 z1 z2 X Y D (I1.out.below hb) (I2.out.below hb) HDV.out)
  have HC2 : Hid (∀ w', Below wg8.heap.size wg8 w' → Calls Try.prog 33 #[.agg #[.bool t1, .slice d1 j1 e1], .agg #[.bool t2, .slice d2 j2 e2]] w' (RetV w' (.int .i64 D))) := Lib.hid (fun w' hb => rcmp_is w' t1 t2 d1 d2 j1 j2 e1 e2 y1 y2 X Y D (R1.out.below hb) (R2.out.below hb) (by omega) (by omega) HDV.out)
  have HO10 : Hid (∀ w', Below wg8.heap.size wg8 w' → Calls Try.prog 34 #[.agg #[.bool s1, .slice a1 m1 k1]] w' (RetInt w' (-X) m1)) := Lib.hid (fun w' hb => neg_int w' s1 a1 m1 k1 z1 X (I1.out.below hb) (by omega))
  have HO11 : Hid (∀ w', Below wg8.heap.size wg8 w' → Calls Try.prog 35 #[.agg #[.bool t1, .slice d1 j1 e1]] w' (RetRef w' (-X) j1)) := Lib.hid (fun w' hb => rneg_any w' t1 d1 j1 e1 y1 X (R1.out.below hb))
  have HO12 : Hid (∀ w', Below wg8.heap.size wg8 w' → Calls Try.prog 36 #[.agg #[.bool s1, .slice a1 m1 k1]] w' (RetInt w' (X.natAbs : Int) m1)) := Lib.hid (fun w' hb => absI w' s1 a1 m1 k1 z1 X (I1.out.below hb) (by omega))
  have HO13 : Hid (∀ w', Below wg8.heap.size wg8 w' → Calls Try.prog 37 #[.agg #[.bool t1, .slice d1 j1 e1]] w' (RetRef w' (X.natAbs : Int) j1)) := Lib.hid (fun w' hb => rabs_any w' t1 d1 j1 e1 y1 X (R1.out.below hb))
  have HO14 : Hid (∀ w', Below wg8.heap.size wg8 w' → Calls Try.prog 38 #[.agg #[.bool s1, .slice a1 m1 k1], .agg #[.bool s2, .slice a2 m2 k2]] w' (RetInt w' (X + Y) (max m1 m2 + 1))) := Lib.hid (fun w' hb => add_int w' s1 s2 a1 a2 m1 m2 k1 k2 z1 z2 X Y (I1.out.below hb) (I2.out.below hb) (by omega) (by omega))
  have HO15 : Hid (∀ w', Below wg8.heap.size wg8 w' → Calls Try.prog 39 #[.agg #[.bool t1, .slice d1 j1 e1], .agg #[.bool t2, .slice d2 j2 e2]] w' (RetRef w' (X + Y) (max j1 j2 + 1))) := Lib.hid (fun w' hb => radd_any w' t1 t2 d1 d2 j1 j2 e1 e2 y1 y2 X Y (R1.out.below hb) (R2.out.below hb) (by omega) (by omega))
  have HO16 : Hid (∀ w', Below wg8.heap.size wg8 w' → Calls Try.prog 40 #[.agg #[.bool s1, .slice a1 m1 k1], .agg #[.bool s2, .slice a2 m2 k2]] w' (RetInt w' (X - Y) (max m1 m2 + 1))) := Lib.hid (fun w' hb => sub_int w' s1 s2 a1 a2 m1 m2 k1 k2 z1 z2 X Y (I1.out.below hb) (I2.out.below hb) (by omega) (by omega))
  have HO17 : Hid (∀ w', Below wg8.heap.size wg8 w' → Calls Try.prog 41 #[.agg #[.bool t1, .slice d1 j1 e1], .agg #[.bool t2, .slice d2 j2 e2]] w' (RetRef w' (X - Y) (max j1 j2 + 1))) := Lib.hid (fun w' hb => rsub_any w' t1 t2 d1 d2 j1 j2 e1 e2 y1 y2 X Y (R1.out.below hb) (R2.out.below hb) (by omega) (by omega))
  have HO18 : Hid (∀ w', Below wg8.heap.size wg8 w' → Calls Try.prog 42 #[.agg #[.bool s1, .slice a1 m1 k1], .agg #[.bool s2, .slice a2 m2 k2]] w' (RetInt w' (X * Y) (m1 + m2))) := Lib.hid (fun w' hb => mul_int w' s1 s2 a1 a2 m1 m2 k1 k2 z1 z2 X Y (I1.out.below hb) (I2.out.below hb) (by omega) (by omega))
  have HO19 : Hid (∀ w', Below wg8.heap.size wg8 w' → Calls Try.prog 43 #[.agg #[.bool t1, .slice d1 j1 e1], .agg #[.bool t2, .slice d2 j2 e2]] w' (RetRef w' (X * Y) (j1 + j2 + 1))) := Lib.hid (fun w' hb => rmul_any w' t1 t2 d1 d2 j1 j2 e1 e2 y1 y2 X Y (R1.out.below hb) (R2.out.below hb) (by omega) (by omega))
  have HQ1 : Hid (∀ w', Below wg8.heap.size wg8 w' → Calls Try.prog 21 #[.agg #[.bool s3, .slice a3 m3 k3], .agg #[.bool s5, .slice a5 m5 k5]] w' (RetV w' (.bool true))) := Lib.hid (fun w' hb => is_yes w' s3 s5 a3 a5 m3 m5 k3 k5 z3 z5 Q (I3.out.below hb) (R5.out.below hb) (by omega) (by omega))
  have HQ2 : Hid (∀ w', Below wg8.heap.size wg8 w' → Calls Try.prog 21 #[.agg #[.bool s4, .slice a4 m4 k4], .agg #[.bool s6, .slice a6 m6 k6]] w' (RetV w' (.bool true))) := Lib.hid (fun w' hb => is_yes w' s4 s6 a4 a6 m4 m6 k4 k6 z4 z6 R (I4.out.below hb) (R6.out.below hb) (by omega) (by omega))
  have HO20 : Hid (∀ w', Below wg8.heap.size wg8 w' → Calls Try.prog 44 #[.agg #[.bool s1, .slice a1 m1 k1], .agg #[.bool s2, .slice a2 m2 k2]] w' (RetInt w' (Nat.gcd X.natAbs Y.natAbs : Int) (1000 + 2))) := Lib.hid (fun w' hb => gcd_int w' s1 s2 a1 a2 m1 m2 k1 k2 z1 z2 X Y (I1.out.below hb) (I2.out.below hb) 1000 (by omega) (by omega) (by omega))
  have HO21 : Hid (∀ w', Below wg8.heap.size wg8 w' → Calls Try.prog 45 #[.agg #[.bool t1, .slice d1 j1 e1], .agg #[.bool t2, .slice d2 j2 e2]] w' (RetRef w' (Nat.gcd X.natAbs Y.natAbs : Int) 1000)) := Lib.hid (fun w' hb => rgcd_any w' t1 t2 d1 d2 j1 j2 e1 e2 y1 y2 X Y (R1.out.below hb) (R2.out.below hb) 1000 (by omega) (by omega) (by omega))
  have HKP : Hid (∀ w', Below wg8.heap.size wg8 w' → (w'.cell? ⟨b1p, 0, none⟩ = some (.bool s1) ∧ w'.cell? ⟨b1p, 1, none⟩ = some (.slice a1 m1 k1) ∧ w'.cell? ⟨r1p, 0, none⟩ = some (.bool t1) ∧ w'.cell? ⟨r1p, 1, none⟩ = some (.slice d1 j1 e1) ∧ w'.cell? ⟨b2p, 0, none⟩ = some (.bool s2) ∧ w'.cell? ⟨b2p, 1, none⟩ = some (.slice a2 m2 k2) ∧ w'.cell? ⟨r2p, 0, none⟩ = some (.bool t2) ∧ w'.cell? ⟨r2p, 1, none⟩ = some (.slice d2 j2 e2) ∧ w'.cell? ⟨b3p, 0, none⟩ = some (.bool s3) ∧ w'.cell? ⟨b3p, 1, none⟩ = some (.slice a3 m3 k3) ∧ w'.cell? ⟨b4p, 0, none⟩ = some (.bool s4) ∧ w'.cell? ⟨b4p, 1, none⟩ = some (.slice a4 m4 k4) ∧ w'.cell? ⟨r5p, 0, none⟩ = some (.bool s5) ∧ w'.cell? ⟨r5p, 1, none⟩ = some (.slice a5 m5 k5) ∧ w'.cell? ⟨r6p, 0, none⟩ = some (.bool s6) ∧ w'.cell? ⟨r6p, 1, none⟩ = some (.slice a6 m6 k6))) := Lib.hid (fun w' hb => ⟨(hb.cell (p := ⟨b1p, 0, none⟩) b1l).trans b1c0, (hb.cell (p := ⟨b1p, 1, none⟩) b1l).trans b1c1, (hb.cell (p := ⟨r1p, 0, none⟩) r1l).trans r1c0, (hb.cell (p := ⟨r1p, 1, none⟩) r1l).trans r1c1, (hb.cell (p := ⟨b2p, 0, none⟩) b2l).trans b2c0, (hb.cell (p := ⟨b2p, 1, none⟩) b2l).trans b2c1, (hb.cell (p := ⟨r2p, 0, none⟩) r2l).trans r2c0, (hb.cell (p := ⟨r2p, 1, none⟩) r2l).trans r2c1, (hb.cell (p := ⟨b3p, 0, none⟩) b3l).trans b3c0, (hb.cell (p := ⟨b3p, 1, none⟩) b3l).trans b3c1, (hb.cell (p := ⟨b4p, 0, none⟩) b4l).trans b4c0, (hb.cell (p := ⟨b4p, 1, none⟩) b4l).trans b4c1, (hb.cell (p := ⟨r5p, 0, none⟩) r5l).trans r5c0, (hb.cell (p := ⟨r5p, 1, none⟩) r5l).trans r5c1, (hb.cell (p := ⟨r6p, 0, none⟩) r6l).trans r6c0, (hb.cell (p := ⟨r6p, 1, none⟩) r6l).trans r6c1⟩)
  clear HDV I1 I2 I3 I4 R1 R2 R5 R6
  clear b1c0 b1c1 b1l
  clear r1c0 r1c1 r1l
  clear b2c0 b2c1 b2l
  clear r2c0 r2c1 r2l
  clear b3c0 b3c1 b3l
  clear b4c0 b4c1 b4l
  clear r5c0 r5c1 r5l
  clear r6c0 r6c1 r6l
  simp only [List.append_eq, List.cons_append, List.nil_append]
  go_region_held3 (fun w' => w'.cell? ⟨b1p, 0, none⟩ = some (.bool s1) ∧ w'.cell? ⟨b1p, 1, none⟩ = some (.slice a1 m1 k1) ∧ w'.cell? ⟨r1p, 0, none⟩ = some (.bool t1) ∧ w'.cell? ⟨r1p, 1, none⟩ = some (.slice d1 j1 e1) ∧ w'.cell? ⟨b2p, 0, none⟩ = some (.bool s2) ∧ w'.cell? ⟨b2p, 1, none⟩ = some (.slice a2 m2 k2) ∧ w'.cell? ⟨r2p, 0, none⟩ = some (.bool t2) ∧ w'.cell? ⟨r2p, 1, none⟩ = some (.slice d2 j2 e2) ∧ w'.cell? ⟨b3p, 0, none⟩ = some (.bool s3) ∧ w'.cell? ⟨b3p, 1, none⟩ = some (.slice a3 m3 k3) ∧ w'.cell? ⟨b4p, 0, none⟩ = some (.bool s4) ∧ w'.cell? ⟨b4p, 1, none⟩ = some (.slice a4 m4 k4) ∧ w'.cell? ⟨r5p, 0, none⟩ = some (.bool s5) ∧ w'.cell? ⟨r5p, 1, none⟩ = some (.slice a5 m5 k5) ∧ w'.cell? ⟨r6p, 0, none⟩ = some (.bool s6) ∧ w'.cell? ⟨r6p, 1, none⟩ = some (.slice a6 m6 k6)) ((first | exact HKP.out _ X23 | exact HKP.out _ X22 | exact HKP.out _ X21 | exact HKP.out _ X20 | exact HKP.out _ X19 | exact HKP.out _ X18 | exact HKP.out _ X17 | exact HKP.out _ X16 | exact HKP.out _ X15 | exact HKP.out _ X14 | exact HKP.out _ X13 | exact HKP.out _ X12 | exact HKP.out _ X11 | exact HKP.out _ X10 | exact HKP.out _ X9 | exact HKP.out _ X8 | exact HKP.out _ X7 | exact HKP.out _ X6 | exact HKP.out _ X5 | exact HKP.out _ X4 | exact HKP.out _ X3 | exact HKP.out _ X2 | exact HKP.out _ X1 | exact HKP.out _ (Below.refl _ _).drew))
    (first | (go_at_call 15; have T23 := X22; clear T23; refine (awake_any _).mono ?_; rintro e v23 ⟨rfl, u23⟩; have X23 : Below wg8.heap.size wg8 v23 := X22.trans (u23.mono X22.size)) | (go_at_call 21; have T22 := X21; clear T22; refine (is_yes _ s20 s21 a20 a21 m20 m21 k20 k21 z20 z21 (Nat.gcd X.natAbs Y.natAbs : Int) I20.out R21.out (by omega) (by omega)).mono ?_; rintro e v22 ⟨rfl, u22⟩; have X22 : Below wg8.heap.size wg8 v22 := X21.trans (u22.mono X21.size); clear u22 I20 R21 hm20 hm21) | (go_at_call 45; have T21 := X20; clear T21; refine (HO21.out _ X20).mono ?_; rintro e v21 ⟨s21, a21, m21, k21, z21, rfl, hR21, hm21, u21⟩; have X21 : Below wg8.heap.size wg8 v21 := X20.trans (u21.mono X20.size); have R21 := Lib.hid hR21; replace I20 := Lib.hid (I20.out.below u21); clear hR21 HO21 u21) | (go_at_call 44; have T20 := X19; clear T20; refine (HO20.out _ X19).mono ?_; rintro e v20 ⟨s20, a20, m20, k20, z20, rfl, hI20, hm20, u20⟩; have X20 : Below wg8.heap.size wg8 v20 := X19.trans (u20.mono X19.size); have I20 := Lib.hid hI20; clear hI20 HO20 u20) | (go_at_call 21; have T19 := X18; clear T19; refine (HQ2.out _ X18).mono ?_; rintro e v19 ⟨rfl, u19⟩; have X19 : Below wg8.heap.size wg8 v19 := X18.trans (u19.mono X18.size); clear u19) | (go_at_call 21; have T18 := X17; clear T18; refine (HQ1.out _ X17).mono ?_; rintro e v18 ⟨rfl, u18⟩; have X18 : Below wg8.heap.size wg8 v18 := X17.trans (u18.mono X17.size); clear u18) | (go_at_call 21; have T17 := X16; clear T17; refine (is_yes _ s18 s19 a18 a19 m18 m19 k18 k19 z18 z19 (X * Y) I18.out R19.out (by omega) (by omega)).mono ?_; rintro e v17 ⟨rfl, u17⟩; have X17 : Below wg8.heap.size wg8 v17 := X16.trans (u17.mono X16.size); clear u17 I18 R19 hm18 hm19) | (go_at_call 43; have T16 := X15; clear T16; refine (HO19.out _ X15).mono ?_; rintro e v16 ⟨s19, a19, m19, k19, z19, rfl, hR19, hm19, u16⟩; have X16 : Below wg8.heap.size wg8 v16 := X15.trans (u16.mono X15.size); have R19 := Lib.hid hR19; replace I18 := Lib.hid (I18.out.below u16); clear hR19 HO19 u16) | (go_at_call 42; have T15 := X14; clear T15; refine (HO18.out _ X14).mono ?_; rintro e v15 ⟨s18, a18, m18, k18, z18, rfl, hI18, hm18, u15⟩; have X15 : Below wg8.heap.size wg8 v15 := X14.trans (u15.mono X14.size); have I18 := Lib.hid hI18; clear hI18 HO18 u15) | (go_at_call 21; have T14 := X13; clear T14; refine (is_yes _ s16 s17 a16 a17 m16 m17 k16 k17 z16 z17 (X - Y) I16.out R17.out (by omega) (by omega)).mono ?_; rintro e v14 ⟨rfl, u14⟩; have X14 : Below wg8.heap.size wg8 v14 := X13.trans (u14.mono X13.size); clear u14 I16 R17 hm16 hm17) | (go_at_call 41; have T13 := X12; clear T13; refine (HO17.out _ X12).mono ?_; rintro e v13 ⟨s17, a17, m17, k17, z17, rfl, hR17, hm17, u13⟩; have X13 : Below wg8.heap.size wg8 v13 := X12.trans (u13.mono X12.size); have R17 := Lib.hid hR17; replace I16 := Lib.hid (I16.out.below u13); clear hR17 HO17 u13) | (go_at_call 40; have T12 := X11; clear T12; refine (HO16.out _ X11).mono ?_; rintro e v12 ⟨s16, a16, m16, k16, z16, rfl, hI16, hm16, u12⟩; have X12 : Below wg8.heap.size wg8 v12 := X11.trans (u12.mono X11.size); have I16 := Lib.hid hI16; clear hI16 HO16 u12) | (go_at_call 21; have T11 := X10; clear T11; refine (is_yes _ s14 s15 a14 a15 m14 m15 k14 k15 z14 z15 (X + Y) I14.out R15.out (by omega) (by omega)).mono ?_; rintro e v11 ⟨rfl, u11⟩; have X11 : Below wg8.heap.size wg8 v11 := X10.trans (u11.mono X10.size); clear u11 I14 R15 hm14 hm15) | (go_at_call 39; have T10 := X9; clear T10; refine (HO15.out _ X9).mono ?_; rintro e v10 ⟨s15, a15, m15, k15, z15, rfl, hR15, hm15, u10⟩; have X10 : Below wg8.heap.size wg8 v10 := X9.trans (u10.mono X9.size); have R15 := Lib.hid hR15; replace I14 := Lib.hid (I14.out.below u10); clear hR15 HO15 u10) | (go_at_call 38; have T9 := X8; clear T9; refine (HO14.out _ X8).mono ?_; rintro e v9 ⟨s14, a14, m14, k14, z14, rfl, hI14, hm14, u9⟩; have X9 : Below wg8.heap.size wg8 v9 := X8.trans (u9.mono X8.size); have I14 := Lib.hid hI14; clear hI14 HO14 u9) | (go_at_call 21; have T8 := X7; clear T8; refine (is_yes _ s12 s13 a12 a13 m12 m13 k12 k13 z12 z13 (X.natAbs : Int) I12.out R13.out (by omega) (by omega)).mono ?_; rintro e v8 ⟨rfl, u8⟩; have X8 : Below wg8.heap.size wg8 v8 := X7.trans (u8.mono X7.size); clear u8 I12 R13 hm12 hm13) | (go_at_call 37; have T7 := X6; clear T7; refine (HO13.out _ X6).mono ?_; rintro e v7 ⟨s13, a13, m13, k13, z13, rfl, hR13, hm13, u7⟩; have X7 : Below wg8.heap.size wg8 v7 := X6.trans (u7.mono X6.size); have R13 := Lib.hid hR13; replace I12 := Lib.hid (I12.out.below u7); clear hR13 HO13 u7) | (go_at_call 36; have T6 := X5; clear T6; refine (HO12.out _ X5).mono ?_; rintro e v6 ⟨s12, a12, m12, k12, z12, rfl, hI12, hm12, u6⟩; have X6 : Below wg8.heap.size wg8 v6 := X5.trans (u6.mono X5.size); have I12 := Lib.hid hI12; clear hI12 HO12 u6) | (go_at_call 21; have T5 := X4; clear T5; refine (is_yes _ s10 s11 a10 a11 m10 m11 k10 k11 z10 z11 (-X) I10.out R11.out (by omega) (by omega)).mono ?_; rintro e v5 ⟨rfl, u5⟩; have X5 : Below wg8.heap.size wg8 v5 := X4.trans (u5.mono X4.size); clear u5 I10 R11 hm10 hm11) | (go_at_call 35; have T4 := X3; clear T4; refine (HO11.out _ X3).mono ?_; rintro e v4 ⟨s11, a11, m11, k11, z11, rfl, hR11, hm11, u4⟩; have X4 : Below wg8.heap.size wg8 v4 := X3.trans (u4.mono X3.size); have R11 := Lib.hid hR11; replace I10 := Lib.hid (I10.out.below u4); clear hR11 HO11 u4) | (go_at_call 34; have T3 := X2; clear T3; refine (HO10.out _ X2).mono ?_; rintro e v3 ⟨s10, a10, m10, k10, z10, rfl, hI10, hm10, u3⟩; have X3 : Below wg8.heap.size wg8 v3 := X2.trans (u3.mono X2.size); have I10 := Lib.hid hI10; clear hI10 HO10 u3) | (go_at_call 33; have T2 := X1; clear T2; refine (HC2.out _ X1).mono ?_; rintro e v2 ⟨rfl, u2⟩; have X2 : Below wg8.heap.size wg8 v2 := X1.trans (u2.mono X1.size); clear u2) | (go_at_call 32; refine (HC1.out _ (Below.refl _ _).drew).mono ?_; rintro e v1 ⟨rfl, u1⟩; have X1 : Below wg8.heap.size wg8 v1 := (Below.refl _ _).drew.trans u1; clear u1))
  go_wp2_with fail
  go_ret
  exact ⟨rfl, HW.out.trans (X23.mono HW.out.size)⟩

theorem acts_law (w : World) (nx ny : Bool) (ax ay : Option Addr) (n1 c1 n2 c2 : Nat) (zx zy : List Int) (hx : Sl w ax n1 c1 zx) (lx : Lim zx) (hy : Sl w ay n2 c2 zy) (ly : Lim zy) :
    Calls Try.prog 4 #[.agg #[.bool nx, .slice ax n1 c1], .agg #[.bool ny, .slice ay n2 c2]] w (RetV w (.bool true)) := by
  by_cases h : n1 ≤ 8 ∧ n2 ≤ 8
  · exact acts_short w nx ny ax ay n1 c1 n2 c2 zx zy hx lx hy ly h
  · exact acts_long w nx ny ax ay n1 c1 n2 c2 h
end Go.Proofs.Ytpakfknacmcohaa
