/- RationalNumbers at all arguments. -/
import Derived.Test.YtdfepdhflnnjpaaGreatQ11
import Derived.Test.YtdfepdhflnnjpaaGreatQ18
import Derived.Test.YtdfepdhflnnjpaaGreatOpenQ
namespace Go.Proofs.YtdfepdhflnnjpaaGreat
open Go.RowKit
set_option autoImplicit false
set_option linter.unusedVariables false

set_option maxRecDepth 100000 in
set_option maxHeartbeats 4000000 in
theorem rnumbers_long1 (w : World) (n0 : Bool) (na : Option Addr) (nl nc : Nat) (nz : List Int) (d0 : Bool) (da : Option Addr) (dl dc : Nat) (dz : List Int) (y0 : Bool) (ya : Option Addr) (yl yc : Nat) (yz : List Int) (e0 : Bool) (ea : Option Addr) (el ec : Nat) (ez : List Int) (hl : ¬ (nl ≤ 4 ∧ dl ≤ 4)) (haw : ∀ w, Calls Tryz.prog 14 #[] w (RetV w (.bool true))) :
    Calls Tryz.prog 3 #[.agg #[.bool n0, .slice na nl nc], .agg #[.bool d0, .slice da dl dc], .agg #[.bool y0, .slice ya yl yc, .bool e0, .slice ea el ec]] w (RetV w (.bool true)) := by
  have HAW := Lib.hid haw
  have HS1 : Hid (decide (nl ≤ 4 ∧ dl ≤ 4) = false) := Lib.hid (decide_eq_false hl)
  clear haw hl
  go_enter Tryz.func3, Tryz.ntmps3
  go_upto_region 1 with (fail)
  obtain ⟨w1, hw1⟩ : ∃ w1, w1 = ((w.alloc (.cells #[.bool n0, .slice na nl nc] 24)).alloc (.cells #[.bool d0, .slice da dl dc] 24)).alloc (.cells #[.bool y0, .slice ya yl yc, .bool e0, .slice ea el ec] 26) := ⟨_, rfl⟩
  have hbw : Below w.heap.size w w1 := by rw [hw1]; exact (((Below.refl _ _).alloc (Nat.le_refl _) _).alloc (by simp) _).alloc (by simp <;> omega) _
  have r0 : w1.heap[w.heap.size]? = some (.cells #[.bool n0, .slice na nl nc] 24 (0, 0)) := by rw [hw1, heap_alloc_old _ _ (by simp <;> omega), heap_alloc_old _ _ (by simp)]; exact heap_alloc_new w _
  have r1 : w1.heap[w.heap.size + 1]? = some (.cells #[.bool d0, .slice da dl dc] 24 (0, 0)) := by
    rw [hw1, heap_alloc_old _ _ (by simp)]
    have := heap_alloc_new (w.alloc (.cells #[.bool n0, .slice na nl nc] 24)) (.cells #[.bool d0, .slice da dl dc] 24)
    simpa using this
  have r2 : w1.heap[w.heap.size + 1 + 1]? = some (.cells #[.bool y0, .slice ya yl yc, .bool e0, .slice ea el ec] 26 (0, 0)) := by
    rw [hw1]
    have := heap_alloc_new ((w.alloc (.cells #[.bool n0, .slice na nl nc] 24)).alloc (.cells #[.bool d0, .slice da dl dc] 24)) (.cells #[.bool y0, .slice ya yl yc, .bool e0, .slice ea el ec] 26)
    simpa using this
  rw [← hw1]
  clear hw1
  obtain ⟨P, hP⟩ : ∃ P, P = w.heap.size := ⟨_, rfl⟩
  rw [← hP] at r0 r1 r2 ⊢
  have R0 := Lib.hid r0
  have R1 := Lib.hid r1
  have R2 := Lib.hid r2
  have HW := Lib.hid hbw
  clear r0 r1 r2 hbw hP
  obtain ⟨x0, x1, -, -⟩ := blk2 R0.out
  obtain ⟨x2, x3, -, -⟩ := blk2 R1.out
  go_wp2_with fail
  refine (short_two _ w1.heap.size ⟨n0, na, nl, nc⟩ ⟨d0, da, dl, dc⟩ 4 (heap_alloc_new _ _)).mono ?_
  rintro e w2 ⟨rfl, b⟩
  rw [show decide (Num.n ⟨n0, na, nl, nc⟩ ≤ 4 ∧ Num.n ⟨d0, da, dl, dc⟩ ≤ 4) = false from HS1.out]
  have ub : Below w1.heap.size w1 w2 := Below.trans (by go_grown) (b.mono (by go_size))
  replace R0 := Lib.hid ((ub.block _ (Array.getElem?_eq_some_iff.1 R0.out).1).trans R0.out)
  replace R1 := Lib.hid ((ub.block _ (Array.getElem?_eq_some_iff.1 R1.out).1).trans R1.out)
  replace R2 := Lib.hid ((ub.block _ (Array.getElem?_eq_some_iff.1 R2.out).1).trans R2.out)
  replace HW := Lib.hid (HW.out.trans (ub.mono HW.out.size))
  clear b ub x0 x1 x2 x3 HS1
  go_wp2_with fail
  refine (HAW.out _).mono ?_
  rintro e w9 ⟨rfl, u⟩
  replace HW := Lib.hid (HW.out.trans (u.mono HW.out.size))
  clear u
  go_wp2_with fail
  go_ret
  exact ⟨rfl, HW.out⟩

set_option maxRecDepth 100000 in
set_option maxHeartbeats 4000000 in
theorem rnumbers_long2 (w : World) (n0 : Bool) (na : Option Addr) (nl nc : Nat) (nz : List Int) (d0 : Bool) (da : Option Addr) (dl dc : Nat) (dz : List Int) (y0 : Bool) (ya : Option Addr) (yl yc : Nat) (yz : List Int) (e0 : Bool) (ea : Option Addr) (el ec : Nat) (ez : List Int) (h0 : nl ≤ 4 ∧ dl ≤ 4) (hl : ¬ (yl ≤ 4 ∧ el ≤ 4)) (haw : ∀ w, Calls Tryz.prog 14 #[] w (RetV w (.bool true))) :
    Calls Tryz.prog 3 #[.agg #[.bool n0, .slice na nl nc], .agg #[.bool d0, .slice da dl dc], .agg #[.bool y0, .slice ya yl yc, .bool e0, .slice ea el ec]] w (RetV w (.bool true)) := by
  have HAW := Lib.hid haw
  have HS1 : Hid (decide (nl ≤ 4 ∧ dl ≤ 4) = true) := Lib.hid (decide_eq_true h0)
  have HS2 : Hid (decide (yl ≤ 4 ∧ el ≤ 4) = false) := Lib.hid (decide_eq_false hl)
  clear haw hl h0
  go_enter Tryz.func3, Tryz.ntmps3
  go_upto_region 1 with (fail)
  obtain ⟨w1, hw1⟩ : ∃ w1, w1 = ((w.alloc (.cells #[.bool n0, .slice na nl nc] 24)).alloc (.cells #[.bool d0, .slice da dl dc] 24)).alloc (.cells #[.bool y0, .slice ya yl yc, .bool e0, .slice ea el ec] 26) := ⟨_, rfl⟩
  have hbw : Below w.heap.size w w1 := by rw [hw1]; exact (((Below.refl _ _).alloc (Nat.le_refl _) _).alloc (by simp) _).alloc (by simp <;> omega) _
  have r0 : w1.heap[w.heap.size]? = some (.cells #[.bool n0, .slice na nl nc] 24 (0, 0)) := by rw [hw1, heap_alloc_old _ _ (by simp <;> omega), heap_alloc_old _ _ (by simp)]; exact heap_alloc_new w _
  have r1 : w1.heap[w.heap.size + 1]? = some (.cells #[.bool d0, .slice da dl dc] 24 (0, 0)) := by
    rw [hw1, heap_alloc_old _ _ (by simp)]
    have := heap_alloc_new (w.alloc (.cells #[.bool n0, .slice na nl nc] 24)) (.cells #[.bool d0, .slice da dl dc] 24)
    simpa using this
  have r2 : w1.heap[w.heap.size + 1 + 1]? = some (.cells #[.bool y0, .slice ya yl yc, .bool e0, .slice ea el ec] 26 (0, 0)) := by
    rw [hw1]
    have := heap_alloc_new ((w.alloc (.cells #[.bool n0, .slice na nl nc] 24)).alloc (.cells #[.bool d0, .slice da dl dc] 24)) (.cells #[.bool y0, .slice ya yl yc, .bool e0, .slice ea el ec] 26)
    simpa using this
  rw [← hw1]
  clear hw1
  obtain ⟨P, hP⟩ : ∃ P, P = w.heap.size := ⟨_, rfl⟩
  rw [← hP] at r0 r1 r2 ⊢
  have R0 := Lib.hid r0
  have R1 := Lib.hid r1
  have R2 := Lib.hid r2
  have HW := Lib.hid hbw
  clear r0 r1 r2 hbw hP
  obtain ⟨x0, x1, -, -⟩ := blk2 R0.out
  obtain ⟨x2, x3, -, -⟩ := blk2 R1.out
  go_wp2_with fail
  refine (short_two _ w1.heap.size ⟨n0, na, nl, nc⟩ ⟨d0, da, dl, dc⟩ 4 (heap_alloc_new _ _)).mono ?_
  rintro e w2 ⟨rfl, b⟩
  rw [show decide (Num.n ⟨n0, na, nl, nc⟩ ≤ 4 ∧ Num.n ⟨d0, da, dl, dc⟩ ≤ 4) = true from HS1.out]
  have ub : Below w1.heap.size w1 w2 := Below.trans (by go_grown) (b.mono (by go_size))
  replace R0 := Lib.hid ((ub.block _ (Array.getElem?_eq_some_iff.1 R0.out).1).trans R0.out)
  replace R1 := Lib.hid ((ub.block _ (Array.getElem?_eq_some_iff.1 R1.out).1).trans R1.out)
  replace R2 := Lib.hid ((ub.block _ (Array.getElem?_eq_some_iff.1 R2.out).1).trans R2.out)
  replace HW := Lib.hid (HW.out.trans (ub.mono HW.out.size))
  clear b ub x0 x1 x2 x3 HS1
  obtain ⟨x0, x1, x2, x3⟩ := blk4 R2.out
  go_wp2_with fail
  refine (qshort_one _ w2.heap.size ⟨y0, ya, yl, yc⟩ ⟨e0, ea, el, ec⟩ 4 (heap_alloc_new _ _)).mono ?_
  rintro e w3 ⟨rfl, b⟩
  rw [show decide (Num.n ⟨y0, ya, yl, yc⟩ ≤ 4 ∧ Num.n ⟨e0, ea, el, ec⟩ ≤ 4) = false from HS2.out]
  have ub : Below w2.heap.size w2 w3 := Below.trans (by go_grown) (b.mono (by go_size))
  replace R0 := Lib.hid ((ub.block _ (Array.getElem?_eq_some_iff.1 R0.out).1).trans R0.out)
  replace R1 := Lib.hid ((ub.block _ (Array.getElem?_eq_some_iff.1 R1.out).1).trans R1.out)
  replace R2 := Lib.hid ((ub.block _ (Array.getElem?_eq_some_iff.1 R2.out).1).trans R2.out)
  replace HW := Lib.hid (HW.out.trans (ub.mono HW.out.size))
  clear b ub x0 x1 x2 x3 HS2
  go_wp2_with fail
  refine (HAW.out _).mono ?_
  rintro e w9 ⟨rfl, u⟩
  replace HW := Lib.hid (HW.out.trans (u.mono HW.out.size))
  clear u
  go_wp2_with fail
  go_ret
  exact ⟨rfl, HW.out⟩

theorem rnumbers_any (w : World) (n0 : Bool) (na : Option Addr) (nl nc : Nat) (nz : List Int) (d0 : Bool) (da : Option Addr) (dl dc : Nat) (dz : List Int) (y0 : Bool) (ya : Option Addr) (yl yc : Nat) (yz : List Int) (e0 : Bool) (ea : Option Addr) (el ec : Nat) (ez : List Int) (hn : Sl w na nl nc nz) (ln : Lim nz) (hd : Sl w da dl dc dz) (ld : Lim dz) (hy : Sl w ya yl yc yz) (ly : Lim yz) (he : Sl w ea el ec ez) (le : Lim ez) :
    Calls Tryz.prog 3 #[.agg #[.bool n0, .slice na nl nc], .agg #[.bool d0, .slice da dl dc], .agg #[.bool y0, .slice ya yl yc, .bool e0, .slice ea el ec]] w (RetV w (.bool true)) := by
  by_cases h1 : nl ≤ 4 ∧ dl ≤ 4
  · by_cases h2 : yl ≤ 4 ∧ el ≤ 4
    · exact rnumbers_short w n0 na nl nc nz d0 da dl dc dz y0 ya yl yc yz e0 ea el ec ez hn ln hd ld hy ly he le h1.1 h1.2 h2.1 h2.2 awake_q
    · exact rnumbers_long2 w n0 na nl nc nz d0 da dl dc dz y0 ya yl yc yz e0 ea el ec ez h1 h2 awake_q
  · exact rnumbers_long1 w n0 na nl nc nz d0 da dl dc dz y0 ya yl yc yz e0 ea el ec ez h1 awake_q

end Go.Proofs.YtdfepdhflnnjpaaGreat
