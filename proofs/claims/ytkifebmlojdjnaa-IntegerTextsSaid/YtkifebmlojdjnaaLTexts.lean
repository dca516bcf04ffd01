/- IntegerTexts: the walk. -/
import Derived.Test.YtkifebmlojdjnaaParse6
import Derived.Test.YtkifebmlojdjnaaAwakes
import Derived.Test.YtkifebmlojdjnaaOf
namespace Go.Proofs.Ytkifebmlojdjnaa
open Go.RowKit
set_option autoImplicit false
set_option linter.unusedVariables false

theorem numsOne {w : World} {b : Nat} {x : Num} {t : TypeId} (h : w.heap[b]? = some (.cells #[.bool x.neg, .slice x.ao x.n x.cap] t (0, 0))) : Nums w b [x] := by
  intro i u hu
  match i, hu with
  | 0, hu =>
    simp at hu; subst hu
    exact ⟨cell_of_row _ b 0 _ t (0, 0) h, cell_of_row _ b 1 _ t (0, 0) h⟩

theorem shortN (w : World) (b : Nat) (x : Num) (most : Nat) (h : w.heap[b]? = some (.cells #[.bool x.neg, .slice x.ao x.n x.cap] 24 (0, 0))) :
    Calls Try.prog 14 #[.int .i64 most, .slice (some ⟨b, 0, none⟩) 1 1] w (RetV w (.bool (decide (x.n ≤ most)))) := by
  have := short_any w b 1 [x] most (numsOne h) (Array.getElem?_eq_some_iff.1 h).1 (by simp) (by omega)
  simpa using this

set_option maxRecDepth 100000 in
theorem texts_long (w : World) (nx : Bool) (ax : Option Addr) (n1 c1 : Nat) (s : ByteArray) (r : Int) (h : ¬ (n1 ≤ 12 ∧ s.size ≤ 200)) :
    Calls Try.prog 9 #[.agg #[.bool nx, .slice ax n1 c1], .string s, .int .i64 r] w (RetV w (.bool true)) := by
  by_cases h1 : n1 ≤ 12
  · have hsl : (200 : Int) < s.size := by omega
    have HD : Hid (decide (n1 ≤ 12) = true) := Lib.hid (decide_eq_true h1)
    clear h h1
    go_enter Try.func9, Try.ntmps9
    go_wp2_with fail
    refine (shortN _ _ ⟨nx, ax, n1, c1⟩ 12 (heap_alloc2 _ _ _).1).mono ?_
    rintro e w1 ⟨rfl, hb1⟩
    rw [show decide (Num.n ⟨nx, ax, n1, c1⟩ ≤ 12) = true from HD.out]
    have hb2 : Below w.heap.size w w1 := Below.trans (by go_grown) (hb1.mono (by go_size))
    clear hb1
    go_wp2_with fail
    refine (awake_any _).mono ?_
    rintro e w2 ⟨rfl, hb3⟩
    go_wp2_with fail
    go_ret
    exact ⟨rfl, hb2.trans (hb3.mono hb2.size)⟩
  · have HD : Hid (decide (n1 ≤ 12) = false) := Lib.hid (decide_eq_false h1)
    clear h h1
    go_enter Try.func9, Try.ntmps9
    go_wp2_with fail
    refine (shortN _ _ ⟨nx, ax, n1, c1⟩ 12 (heap_alloc2 _ _ _).1).mono ?_
    rintro e w1 ⟨rfl, hb1⟩
    rw [show decide (Num.n ⟨nx, ax, n1, c1⟩ ≤ 12) = false from HD.out]
    have hb2 : Below w.heap.size w w1 := Below.trans (by go_grown) (hb1.mono (by go_size))
    clear hb1
    go_wp2_with fail
    refine (awake_any _).mono ?_
    rintro e w2 ⟨rfl, hb3⟩
    go_wp2_with fail
    go_ret
    exact ⟨rfl, hb2.trans (hb3.mono hb2.size)⟩

set_option maxRecDepth 100000 in
set_option maxHeartbeats 1000000 in
theorem texts_short (w : World) (nx : Bool) (ax : Option Addr) (n1 c1 : Nat) (s : ByteArray) (r : Int) (zx : List Int) (hx : Sl w ax n1 c1 zx) (lx : Lim zx) (h1 : n1 ≤ 12) (h2 : s.size ≤ 200) :
    Calls Try.prog 9 #[.agg #[.bool nx, .slice ax n1 c1], .string s, .int .i64 r] w (RetV w (.bool true)) := by
  have HD : Hid (decide (n1 ≤ 12) = true) := Lib.hid (decide_eq_true h1)
  have hsl : ¬ (200 : Int) < s.size := by omega
  have HX := Lib.hid hx
  obtain ⟨X, hX⟩ : ∃ X, sgn nx (val zx) = X := ⟨_, rfl⟩
  have HXV := Lib.hid hX
  obtain ⟨P, cp, hP, hQ⟩ := both_parse s r h2
  have HP := Lib.hid hP
  have HQ := Lib.hid hQ
  clear hx hX hP hQ
  go_enter Try.func9, Try.ntmps9
  go_wp2_with fail
  refine (shortN _ _ ⟨nx, ax, n1, c1⟩ 12 (heap_alloc2 _ _ _).1).mono ?_
  rintro e w1 ⟨rfl, hb1⟩
  rw [show decide (Num.n ⟨nx, ax, n1, c1⟩ ≤ 12) = true from HD.out]
  have HW := Lib.hid (show Below w.heap.size w w1 from Below.trans (by go_grown) (hb1.mono (by go_size)))
  have rx : w1.heap[w.heap.size]? = some (.cells #[.bool nx, .slice ax n1 c1] 24 (0, 0)) := (hb1.block _ (by go_size)).trans (heap_alloc2 w _ _).2
  obtain ⟨bxp, hbxp⟩ : ∃ p, p = w.heap.size := ⟨_, rfl⟩
  rw [← hbxp] at rx ⊢
  obtain ⟨bxc0, bxc1, -, -⟩ := blk2 rx
  have bxl : bxp < w1.heap.size := World.block_lt_of_cell? _ _ bxc0
  replace HX := Lib.hid (HX.out.below HW.out)
  clear rx hbxp hb1 HD
  go_wp2_with fail
  refine (of_any _ nx ax n1 c1 zx HX.out lx (by omega)).mono ?_
  rintro e wg1 ⟨s1, a1, m1, k1, z1, t1, d1, j1, e1, y1, rfl, hI1, hm1, hR1, hj1, hbwg1⟩
  rw [HXV.out] at hI1 hR1
  replace HX := Lib.hid (HX.out.below hbwg1)
  replace bxc0 := (hbwg1.cell (p := ⟨bxp, 0, none⟩) bxl).trans bxc0
  replace bxc1 := (hbwg1.cell (p := ⟨bxp, 1, none⟩) bxl).trans bxc1
  replace bxl := Nat.lt_of_lt_of_le bxl hbwg1.size
  replace HW := Lib.hid (HW.out.trans (hbwg1.mono HW.out.size))
  have I1 := Lib.hid hI1
  clear hI1
  have R1 := Lib.hid hR1
  clear hR1
  clear hbwg1
  go_wp2_with fail
  obtain ⟨wg2, hwg2⟩ : ∃ wg2, wg2 = ((wg1.alloc (.cells #[.bool s1, .slice a1 m1 k1] 28)).alloc (.cells #[.bool t1, .slice d1 j1 e1] 31)) := ⟨_, rfl⟩
  have hbawg2 : Below wg1.heap.size wg1 wg2 := by rw [hwg2]; go_grown
  have hrb1 : wg2.heap[wg1.heap.size]? = some (.cells #[.bool s1, .slice a1 m1 k1] 28 (0, 0)) := by rw [hwg2]; exact (heap_alloc2 wg1 _ _).2
  have hrr1 : wg2.heap[wg1.heap.size + 1]? = some (.cells #[.bool t1, .slice d1 j1 e1] 31 (0, 0)) := by rw [hwg2]; exact (heap_alloc2 wg1 _ _).1
  rw [← hwg2]
  clear hwg2
  obtain ⟨b1p, hb1p⟩ : ∃ p, p = wg1.heap.size := ⟨_, rfl⟩
  obtain ⟨r1p, hr1p⟩ : ∃ p, p = wg1.heap.size + 1 := ⟨_, rfl⟩
  rw [← hr1p] at hrr1 ⊢
  rw [← hb1p] at hrb1 ⊢
  obtain ⟨b1c0, b1c1, -, -⟩ := blk2 hrb1
  have b1l : b1p < wg2.heap.size := World.block_lt_of_cell? _ _ b1c0
  clear hb1p hrb1
  obtain ⟨r1c0, r1c1, -, -⟩ := blk2 hrr1
  have r1l : r1p < wg2.heap.size := World.block_lt_of_cell? _ _ r1c0
  clear hr1p hrr1
  replace HX := Lib.hid (HX.out.below hbawg2)
  replace I1 := Lib.hid (I1.out.below hbawg2)
  replace R1 := Lib.hid (R1.out.below hbawg2)
  replace bxc0 := (hbawg2.cell (p := ⟨bxp, 0, none⟩) bxl).trans bxc0
  replace bxc1 := (hbawg2.cell (p := ⟨bxp, 1, none⟩) bxl).trans bxc1
  replace bxl := Nat.lt_of_lt_of_le bxl hbawg2.size
  replace HW := Lib.hid (HW.out.trans (hbawg2.mono HW.out.size))
  clear hbawg2
  obtain ⟨SS, ct, hT, hU⟩ := both_text r s1 t1 a1 d1 m1 j1 k1 e1 z1 y1 X wg2 I1.out R1.out (by omega) (by omega)
  have HT := Lib.hid hT
  have HU := Lib.hid hU
  clear hT hU
  refine (HT.out _ (.refl _ _)).mono ?_
  rintro e wg3 ⟨rfl, hbwg3⟩
  clear HT
  replace HX := Lib.hid (HX.out.below hbwg3)
  replace I1 := Lib.hid (I1.out.below hbwg3)
  replace R1 := Lib.hid (R1.out.below hbwg3)
  replace bxc0 := (hbwg3.cell (p := ⟨bxp, 0, none⟩) bxl).trans bxc0
  replace bxc1 := (hbwg3.cell (p := ⟨bxp, 1, none⟩) bxl).trans bxc1
  replace bxl := Nat.lt_of_lt_of_le bxl hbwg3.size
  replace b1c0 := (hbwg3.cell (p := ⟨b1p, 0, none⟩) b1l).trans b1c0
  replace b1c1 := (hbwg3.cell (p := ⟨b1p, 1, none⟩) b1l).trans b1c1
  replace b1l := Nat.lt_of_lt_of_le b1l hbwg3.size
  replace r1c0 := (hbwg3.cell (p := ⟨r1p, 0, none⟩) r1l).trans r1c0
  replace r1c1 := (hbwg3.cell (p := ⟨r1p, 1, none⟩) r1l).trans r1c1
  replace r1l := Nat.lt_of_lt_of_le r1l hbwg3.size
  replace HW := Lib.hid (HW.out.trans (hbwg3.mono HW.out.size))
  replace HU : Hid (∀ w', Below _ _ w' → _) := Lib.hid (fun w' hb' => HU.out w' (hbwg3.trans (hb'.mono hbwg3.size)))
  clear hbwg3
  go_wp2_with fail
  refine (HU.out _ (.refl _ _)).mono ?_
  rintro e wg4 ⟨rfl, hbwg4⟩
  clear HU
  replace HX := Lib.hid (HX.out.below hbwg4)
  replace I1 := Lib.hid (I1.out.below hbwg4)
  replace R1 := Lib.hid (R1.out.below hbwg4)
  replace bxc0 := (hbwg4.cell (p := ⟨bxp, 0, none⟩) bxl).trans bxc0
  replace bxc1 := (hbwg4.cell (p := ⟨bxp, 1, none⟩) bxl).trans bxc1
  replace bxl := Nat.lt_of_lt_of_le bxl hbwg4.size
  replace b1c0 := (hbwg4.cell (p := ⟨b1p, 0, none⟩) b1l).trans b1c0
  replace b1c1 := (hbwg4.cell (p := ⟨b1p, 1, none⟩) b1l).trans b1c1
  replace b1l := Nat.lt_of_lt_of_le b1l hbwg4.size
  replace r1c0 := (hbwg4.cell (p := ⟨r1p, 0, none⟩) r1l).trans r1c0
  replace r1c1 := (hbwg4.cell (p := ⟨r1p, 1, none⟩) r1l).trans r1c1
  replace r1l := Nat.lt_of_lt_of_le r1l hbwg4.size
  replace HW := Lib.hid (HW.out.trans (hbwg4.mono HW.out.size))
  clear hbwg4
  go_wp2_with fail
  refine (HP.out _).mono ?_
  rintro e wg5 ⟨s3, a3, m3, k3, z3, rfl, hI3, hm3, hbwg5⟩
  replace HX := Lib.hid (HX.out.below hbwg5)
  replace I1 := Lib.hid (I1.out.below hbwg5)
  replace R1 := Lib.hid (R1.out.below hbwg5)
  replace bxc0 := (hbwg5.cell (p := ⟨bxp, 0, none⟩) bxl).trans bxc0
  replace bxc1 := (hbwg5.cell (p := ⟨bxp, 1, none⟩) bxl).trans bxc1
  replace bxl := Nat.lt_of_lt_of_le bxl hbwg5.size
  replace b1c0 := (hbwg5.cell (p := ⟨b1p, 0, none⟩) b1l).trans b1c0
  replace b1c1 := (hbwg5.cell (p := ⟨b1p, 1, none⟩) b1l).trans b1c1
  replace b1l := Nat.lt_of_lt_of_le b1l hbwg5.size
  replace r1c0 := (hbwg5.cell (p := ⟨r1p, 0, none⟩) r1l).trans r1c0
  replace r1c1 := (hbwg5.cell (p := ⟨r1p, 1, none⟩) r1l).trans r1c1
  replace r1l := Nat.lt_of_lt_of_le r1l hbwg5.size
  replace HW := Lib.hid (HW.out.trans (hbwg5.mono HW.out.size))
  have I3 := Lib.hid hI3
  clear hI3 hbwg5 HP
  go_wp2_with fail
  obtain ⟨wg6, hwg6⟩ : ∃ wg6, wg6 = (wg5.alloc (.cells #[.bool s3, .slice a3 m3 k3] 28)) := ⟨_, rfl⟩
  have hbawg6 : Below wg5.heap.size wg5 wg6 := by rw [hwg6]; go_grown
  have hrb3 : wg6.heap[wg5.heap.size]? = some (.cells #[.bool s3, .slice a3 m3 k3] 28 (0, 0)) := by rw [hwg6]; exact heap_alloc_new wg5 _
  rw [← hwg6]
  clear hwg6
  obtain ⟨b3p, hb3p⟩ : ∃ p, p = wg5.heap.size := ⟨_, rfl⟩
  rw [← hb3p] at hrb3 ⊢
  obtain ⟨b3c0, b3c1, -, -⟩ := blk2 hrb3
  have b3l : b3p < wg6.heap.size := World.block_lt_of_cell? _ _ b3c0
  clear hb3p hrb3
  replace HX := Lib.hid (HX.out.below hbawg6)
  replace I1 := Lib.hid (I1.out.below hbawg6)
  replace R1 := Lib.hid (R1.out.below hbawg6)
  replace I3 := Lib.hid (I3.out.below hbawg6)
  replace bxc0 := (hbawg6.cell (p := ⟨bxp, 0, none⟩) bxl).trans bxc0
  replace bxc1 := (hbawg6.cell (p := ⟨bxp, 1, none⟩) bxl).trans bxc1
  replace bxl := Nat.lt_of_lt_of_le bxl hbawg6.size
  replace b1c0 := (hbawg6.cell (p := ⟨b1p, 0, none⟩) b1l).trans b1c0
  replace b1c1 := (hbawg6.cell (p := ⟨b1p, 1, none⟩) b1l).trans b1c1
  replace b1l := Nat.lt_of_lt_of_le b1l hbawg6.size
  replace r1c0 := (hbawg6.cell (p := ⟨r1p, 0, none⟩) r1l).trans r1c0
  replace r1c1 := (hbawg6.cell (p := ⟨r1p, 1, none⟩) r1l).trans r1c1
  replace r1l := Nat.lt_of_lt_of_le r1l hbawg6.size
  replace HW := Lib.hid (HW.out.trans (hbawg6.mono HW.out.size))
  clear hbawg6
  refine (HQ.out _).mono ?_
  rintro e wg7 ⟨s4, a4, m4, k4, z4, rfl, hR4, hm4, hbwg7⟩
  replace HX := Lib.hid (HX.out.below hbwg7)
  replace I1 := Lib.hid (I1.out.below hbwg7)
  replace R1 := Lib.hid (R1.out.below hbwg7)
  replace I3 := Lib.hid (I3.out.below hbwg7)
  replace bxc0 := (hbwg7.cell (p := ⟨bxp, 0, none⟩) bxl).trans bxc0
  replace bxc1 := (hbwg7.cell (p := ⟨bxp, 1, none⟩) bxl).trans bxc1
  replace bxl := Nat.lt_of_lt_of_le bxl hbwg7.size
  replace b1c0 := (hbwg7.cell (p := ⟨b1p, 0, none⟩) b1l).trans b1c0
  replace b1c1 := (hbwg7.cell (p := ⟨b1p, 1, none⟩) b1l).trans b1c1
  replace b1l := Nat.lt_of_lt_of_le b1l hbwg7.size
  replace r1c0 := (hbwg7.cell (p := ⟨r1p, 0, none⟩) r1l).trans r1c0
  replace r1c1 := (hbwg7.cell (p := ⟨r1p, 1, none⟩) r1l).trans r1c1
  replace r1l := Nat.lt_of_lt_of_le r1l hbwg7.size
  replace b3c0 := (hbwg7.cell (p := ⟨b3p, 0, none⟩) b3l).trans b3c0
  replace b3c1 := (hbwg7.cell (p := ⟨b3p, 1, none⟩) b3l).trans b3c1
  replace b3l := Nat.lt_of_lt_of_le b3l hbwg7.size
  replace HW := Lib.hid (HW.out.trans (hbwg7.mono HW.out.size))
  have R4 := Lib.hid hR4
  clear hR4 hbwg7 HQ
  go_wp2_with fail
  obtain ⟨wg8, hwg8⟩ : ∃ wg8, wg8 = (wg7.alloc (.cells #[.bool s4, .slice a4 m4 k4] 31)) := ⟨_, rfl⟩
  have hbawg8 : Below wg7.heap.size wg7 wg8 := by rw [hwg8]; go_grown
  have hrr4 : wg8.heap[wg7.heap.size]? = some (.cells #[.bool s4, .slice a4 m4 k4] 31 (0, 0)) := by rw [hwg8]; exact heap_alloc_new wg7 _
  rw [← hwg8]
  clear hwg8
  obtain ⟨r4p, hr4p⟩ : ∃ p, p = wg7.heap.size := ⟨_, rfl⟩
  rw [← hr4p] at hrr4 ⊢
  obtain ⟨r4c0, r4c1, -, -⟩ := blk2 hrr4
  have r4l : r4p < wg8.heap.size := World.block_lt_of_cell? _ _ r4c0
  clear hr4p hrr4
  replace HX := Lib.hid (HX.out.below hbawg8)
  replace I1 := Lib.hid (I1.out.below hbawg8)
  replace R1 := Lib.hid (R1.out.below hbawg8)
  replace I3 := Lib.hid (I3.out.below hbawg8)
  replace R4 := Lib.hid (R4.out.below hbawg8)
  replace bxc0 := (hbawg8.cell (p := ⟨bxp, 0, none⟩) bxl).trans bxc0
  replace bxc1 := (hbawg8.cell (p := ⟨bxp, 1, none⟩) bxl).trans bxc1
  replace bxl := Nat.lt_of_lt_of_le bxl hbawg8.size
  replace b1c0 := (hbawg8.cell (p := ⟨b1p, 0, none⟩) b1l).trans b1c0
  replace b1c1 := (hbawg8.cell (p := ⟨b1p, 1, none⟩) b1l).trans b1c1
  replace b1l := Nat.lt_of_lt_of_le b1l hbawg8.size
  replace r1c0 := (hbawg8.cell (p := ⟨r1p, 0, none⟩) r1l).trans r1c0
  replace r1c1 := (hbawg8.cell (p := ⟨r1p, 1, none⟩) r1l).trans r1c1
  replace r1l := Nat.lt_of_lt_of_le r1l hbawg8.size
  replace b3c0 := (hbawg8.cell (p := ⟨b3p, 0, none⟩) b3l).trans b3c0
  replace b3c1 := (hbawg8.cell (p := ⟨b3p, 1, none⟩) b3l).trans b3c1
  replace b3l := Nat.lt_of_lt_of_le b3l hbawg8.size
  replace HW := Lib.hid (HW.out.trans (hbawg8.mono HW.out.size))
  clear hbawg8
  have HIS : Hid (∀ w', Below wg8.heap.size wg8 w' → Calls Try.prog 21 #[.agg #[.bool s3, .slice a3 m3 k3], .agg #[.bool s4, .slice a4 m4 k4]] w' (RetV w' (.bool true))) := Lib.hid (fun w' hb => by have := is_any w' s3 s4 a3 a4 m3 m4 k3 k4 z3 z4 P P (I3.out.below hb) (R4.out.below hb) (by omega) (by omega); rwa [decide_eq_true rfl] at this)
  have HKP : Hid (∀ w', Below wg8.heap.size wg8 w' → (w'.cell? ⟨b3p, 0, none⟩ = some (.bool s3) ∧ w'.cell? ⟨b3p, 1, none⟩ = some (.slice a3 m3 k3) ∧ w'.cell? ⟨r4p, 0, none⟩ = some (.bool s4) ∧ w'.cell? ⟨r4p, 1, none⟩ = some (.slice a4 m4 k4))) := Lib.hid (fun w' hb => ⟨(hb.cell (p := ⟨b3p, 0, none⟩) b3l).trans b3c0, (hb.cell (p := ⟨b3p, 1, none⟩) b3l).trans b3c1, (hb.cell (p := ⟨r4p, 0, none⟩) r4l).trans r4c0, (hb.cell (p := ⟨r4p, 1, none⟩) r4l).trans r4c1⟩)
  clear I1 I3 R1 R4 HX HXV
  clear bxc0 bxc1 bxl
  clear b1c0 b1c1 b1l
  clear r1c0 r1c1 r1l
  clear b3c0 b3c1 b3l
  clear r4c0 r4c1 r4l
  refine (HIS.out _ (.refl _ _)).mono ?_
  rintro e v1 ⟨rfl, u1⟩
  go_wp2_with fail
  refine (awake_any _).mono ?_
  rintro e v2 ⟨rfl, u2⟩
  go_wp2_with fail
  go_ret
  exact ⟨rfl, HW.out.trans ((u1.trans (u2.mono u1.size)).mono HW.out.size)⟩

theorem texts_law (w : World) (nx : Bool) (ax : Option Addr) (n1 c1 : Nat) (s : ByteArray) (r : Int) (zx : List Int) (hx : Sl w ax n1 c1 zx) (lx : Lim zx) :
    Calls Try.prog 9 #[.agg #[.bool nx, .slice ax n1 c1], .string s, .int .i64 r] w (RetV w (.bool true)) := by
  by_cases h : n1 ≤ 12 ∧ s.size ≤ 200
  · exact texts_short w nx ax n1 c1 s r zx hx lx h.1 h.2
  · exact texts_long w nx ax n1 c1 s r h
end Go.Proofs.Ytkifebmlojdjnaa
