/- Both sides return one number and one code. -/
import Derived.Test.YtpakfknacmcohaaBoxes
import Derived.Test.YtpakfknacmcohaaPows
import Derived.Test.YtpakfknacmcohaaBoo4
namespace Go.Proofs.Ytpakfknacmcohaa
open Go.RowKit
set_option autoImplicit false
set_option linter.unusedVariables false

theorem ref_zero (w : World) : RefAt w false none 0 0 [] 0 :=
  ⟨⟨rfl, Nat.le_refl _, by unfold maxLen; omega, fun _ => rfl, .inl rfl⟩, by intro z hz; simp at hz, .inl rfl, by intro h; simp at h, by simp [sgn, dval]⟩

theorem int_zero' (w : World) : IntAt w false none 0 0 [] 0 :=
  ⟨⟨rfl, Nat.le_refl _, by unfold maxLen; omega, fun _ => rfl, .inl rfl⟩, by intro z hz; simp at hz, .inl rfl, by intro h; simp at h, by simp [sgn, val]⟩

/-- Both returned one number and one code. -/

def RetBoth (w : World) (p : Int) (c : Int) (L : Nat) (e : Ending) (w' : World) : Prop :=
  ∃ neg ao n cap zs, e = .returned (.tuple #[.agg #[.bool neg, .slice ao n cap], .int .i64 c]) ∧ IntAt w' neg ao n cap zs p ∧ n ≤ L ∧ Below w.heap.size w w'

def RetBothR (w : World) (p : Int) (c : Int) (L : Nat) (e : Ending) (w' : World) : Prop :=
  ∃ neg ao n cap zs, e = .returned (.tuple #[.agg #[.bool neg, .slice ao n cap], .int .i64 c]) ∧ RefAt w' neg ao n cap zs p ∧ n ≤ L ∧ Below w.heap.size w w'

theorem toBoth {w : World} {x y : Int} {L M : Nat} (hxy : x = y) (hL : L ≤ M) {e : Ending} {w' : World} (h : RetIE w x L e w') : RetBoth w y 0 M e w' := by
  obtain ⟨a, b, c, d, f, h1, h2, h3, h4⟩ := h
  exact ⟨a, b, c, d, f, h1, hxy ▸ h2, by omega, h4⟩

theorem toBothR {w : World} {x y : Int} {L M : Nat} (hxy : x = y) (hL : L ≤ M) {e : Ending} {w' : World} (h : RetRE w x L e w') : RetBothR w y 0 M e w' := by
  obtain ⟨a, b, c, d, f, h1, h2, h3, h4⟩ := h
  exact ⟨a, b, c, d, f, h1, hxy ▸ h2, by omega, h4⟩

theorem zBoth {w : World} {c : Int} {M : Nat} {e : Ending} {w' : World} (h : RetZero w c e w') : RetBoth w 0 c M e w' := by
  obtain ⟨h1, h2⟩ := h
  exact ⟨_, _, _, _, _, h1, int_zero' _, by omega, h2⟩

theorem zBothR {w : World} {c : Int} {M : Nat} {e : Ending} {w' : World} (h : RetZeroR w c e w') : RetBothR w 0 c M e w' := by
  obtain ⟨h1, h2⟩ := h
  exact ⟨_, _, _, _, _, h1, ref_zero _, by omega, h2⟩
end Go.Proofs.Ytpakfknacmcohaa
