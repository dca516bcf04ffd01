/- Root of the program's integers, as the document has it. -/
import Derived.Test.YtpakfknacmcohaaRoot
namespace Go.Proofs.Ytpakfknacmcohaa
open Go.RowKit
set_option autoImplicit false
set_option linter.unusedVariables false

theorem root_neg (w : World) (ao : Option Addr) (n cap : Nat) :
    Calls Try.prog 48 #[.agg #[.bool true, .slice ao n cap]] w (RetZero w 1) := by
  go_enter Try.func48, Try.ntmps48
  go_wp2_with fail
  have hr2 := (heap_alloc2 w (.cells #[.bool true, .slice ao n cap] 28) (.cells #[.bool false, .slice none 0 0] 28)).1
  obtain ⟨c0, c1, f0, f1⟩ := blk2 hr2
  try go_wp2_with fail
  refine bodyPost_ret (v := .tuple #[.agg #[.bool false, .slice none 0 0], .int .i64 1]) (by simp [results, Try.results48, go_sem, c0, c1]) rfl ?_
  exact ⟨rfl, by go_grown⟩

theorem root_zero (w : World) (ao : Option Addr) (n cap : Nat) (xs : List Int) (hx : IntAt w false ao n cap xs 0) :
    Calls Try.prog 48 #[.agg #[.bool false, .slice ao n cap]] w (RetZero w 0) := by
  have HS : Hid (∀ w1, Below w.heap.size w w1 → Calls Try.prog 22 #[.agg #[.bool false, .slice ao n cap]] w1 (RetV w1 (.int .i64 0))) := Lib.hid (fun w1 hb => by
    have := sign_int w1 false ao n cap xs 0 (hx.below hb)
    simpa [cmpI] using this)
  clear hx
  go_enter Try.func48, Try.ntmps48
  go_wp2_with fail
  refine (HS.out _ (by go_grown)).mono ?_
  rintro e w1 ⟨rfl, hb1⟩
  have hr2 := (hb1.block (w.heap.size + 1) (by go_size)).trans (heap_alloc2 w (.cells #[.bool false, .slice ao n cap] 28) (.cells #[.bool false, .slice none 0 0] 28)).1
  have hb4 : Below w.heap.size w w1 := Below.trans (by go_grown) (hb1.mono (by go_size))
  obtain ⟨c0, c1, f0, f1⟩ := blk2 hr2
  clear hb1
  go_wp2_with fail
  refine bodyPost_ret (v := .tuple #[.agg #[.bool false, .slice none 0 0], .int .i64 0]) (by simp [results, Try.results48, go_sem, c0, c1]) rfl ?_
  exact ⟨rfl, (hb4.setCell (p := ⟨w.heap.size + 1, 0, none⟩) (by dsimp only; omega) _).setCell (p := ⟨w.heap.size + 1, 1, none⟩) (by dsimp only; omega) _⟩

/-- The root of a number above 0, with the code 0. -/
def RetRt (w : World) (X : Nat) (L : Nat) (e : Ending) (w' : World) : Prop := ∃ g : Nat, g * g ≤ X ∧ X < (g + 1) * (g + 1) ∧ RetIE w (g : Int) L e w'

set_option maxRecDepth 100000 in
theorem root_pos (w : World) (ao : Option Addr) (n cap : Nat) (xs : List Int) (X : Nat) (hx : IntAt w false ao n cap xs (X : Int)) (h0 : 0 < X) (hn : n ≤ 1048576) :
    Calls Try.prog 48 #[.agg #[.bool false, .slice ao n cap]] w (RetRt w X (n + 2)) := by
  have hval : val xs = (X : Int) := by
    have := hx.val
    simpa [sgn] using this.symm
  have HS : Hid (∀ w1, Below w.heap.size w w1 → Calls Try.prog 22 #[.agg #[.bool false, .slice ao n cap]] w1 (RetV w1 (.int .i64 1))) := Lib.hid (fun w1 hb => by
    have := sign_int w1 false ao n cap xs X (hx.below hb)
    rwa [show cmpI (X : Int) 0 = 1 by unfold cmpI; rw [if_neg (by omega), if_pos (by omega)]] at this)
  have HR : Hid (∀ w1, Below w.heap.size w w1 → Calls Try.prog 96 #[.slice ao n cap] w1 (RetRoot w1 X (n + 2))) := Lib.hid (fun w1 hb => root_any w1 ao n cap xs X (hx.sl.below hb) hx.lim hx.top hval h0 hn)
  clear hx hval
  go_enter Try.func48, Try.ntmps48
  go_wp2_with fail
  refine (HS.out _ (by go_grown)).mono ?_
  rintro e w1 ⟨rfl, hb1⟩
  have hr2 := (hb1.block (w.heap.size + 1) (by go_size)).trans (heap_alloc2 w (.cells #[.bool false, .slice ao n cap] 28) (.cells #[.bool false, .slice none 0 0] 28)).1
  have hr1 := (hb1.block w.heap.size (by go_size)).trans (heap_alloc2 w (.cells #[.bool false, .slice ao n cap] 28) (.cells #[.bool false, .slice none 0 0] 28)).2
  have hb4 : Below w.heap.size w w1 := Below.trans (by go_grown) (hb1.mono (by go_size))
  have hz1 : w.heap.size + 1 + 1 ≤ w1.heap.size := Nat.le_trans (by go_size) hb1.size
  obtain ⟨c0, c1, f0, f1⟩ := blk2 hr2
  obtain ⟨e0, e1, -, -⟩ := blk2 hr1
  clear hb1 hr1
  go_wp2_with fail
  refine (HR.out _ hb4).mono ?_
  rintro e w2 ⟨g, hg1, hg2, a2, m2, d2, z2, rfl, hown2, hl2, ht2, hv2, hm2, hb2⟩
  have HS2 := Lib.hid hown2.sl
  have HV2 := Lib.hid hv2
  have hr3 := (hb2.block (w.heap.size + 1) (by omega)).trans hr2
  have hb5 : Below w.heap.size w w2 := hb4.trans (hb2.mono hb4.size)
  have hz2 := hb2.size
  clear hown2 hv2 hb2 hr2 hb4 c0 c1 f0 f1 e0 e1
  go_wp2_with fail
  refine (wrap_int _ _ _ _ _ _ HS2.out hl2 rfl).mono ?_
  rintro e w3 ⟨neg', ao', n', cap', zs', rfl, hint, hn', hb3⟩
  have hint2 : IntAt w3 neg' ao' n' cap' zs' (g : Int) := by
    rw [HV2.out] at hint
    simpa [sgn] using hint
  have hr4 := (hb3.block (w.heap.size + 1) (by omega)).trans hr3
  have hb6 : Below w.heap.size w w3 := hb5.trans (hb3.mono hb5.size)
  have HI4 := Lib.hid (hint2.stored hr4 (.bool neg') (.slice ao' n' cap'))
  obtain ⟨d0, d1, g0, g1⟩ := blk2 hr4
  clear hint hint2 hr3 hr4 hb3 hb5
  go_wp2_with fail
  refine bodyPost_ret (v := .tuple #[.agg #[.bool neg', .slice ao' n' cap'], .int .i64 0]) (by simp [results, Try.results48, go_sem, d0, d1]) rfl ?_
  exact ⟨g, hg1, hg2, _, _, _, _, _, rfl, HI4.out, by omega, (hb6.setCell (p := ⟨w.heap.size + 1, 0, none⟩) (by dsimp only; omega) _).setCell (p := ⟨w.heap.size + 1, 1, none⟩) (by dsimp only; omega) _⟩
end Go.Proofs.Ytpakfknacmcohaa
