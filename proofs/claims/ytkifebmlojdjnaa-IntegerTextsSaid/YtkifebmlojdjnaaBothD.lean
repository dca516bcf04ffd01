/- Both sides return one number and one code. -/
import Derived.Test.YtkifebmlojdjnaaBoxes
import Derived.Test.YtkifebmlojdjnaaOf
import Derived.Test.YtkifebmlojdjnaaAwakes
import Derived.Test.YtkifebmlojdjnaaBooA
namespace Go.Proofs.Ytkifebmlojdjnaa
open Go.RowKit
set_option autoImplicit false
set_option linter.unusedVariables false

theorem ref_zero (w : World) : RefAt w false none 0 0 [] 0 :=
  ⟨⟨rfl, Nat.le_refl _, by unfold maxLen; omega, fun _ => rfl, .inl rfl⟩, by intro z hz; simp at hz, .inl rfl, by intro h; simp at h, by simp [sgn, dval]⟩

theorem int_zero' (w : World) : IntAt w false none 0 0 [] 0 :=
  ⟨⟨rfl, Nat.le_refl _, by unfold maxLen; omega, fun _ => rfl, .inl rfl⟩, by intro z hz; simp at hz, .inl rfl, by intro h; simp at h, by simp [sgn, val]⟩

/-- Both returned one number and one code. -/

def RetBoth (w : World) (p : Int) (c : Int) (L : Nat) (e : Ending) (w' : World) : Prop :=
  ∃ neg ao n cap zs, e = .returned (.tuple #[.agg #[.bool neg, .slice ao n cap], .int .i64 c]) ∧ IntAt w' neg ao n cap zs p ∧ n ≤ L ∧ Below w.heap.size w w'

def RetBothR (w : World) (p : Int) (c : Int) (L : Nat) (e : Ending) (w' : World) : Prop :=
  ∃ neg ao n cap zs, e = .returned (.tuple #[.agg #[.bool neg, .slice ao n cap], .int .i64 c]) ∧ RefAt w' neg ao n cap zs p ∧ n ≤ L ∧ Below w.heap.size w w'
end Go.Proofs.Ytkifebmlojdjnaa
