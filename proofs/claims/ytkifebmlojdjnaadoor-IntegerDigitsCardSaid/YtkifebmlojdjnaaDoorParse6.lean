/- Both Parses, and both Texts, answer the same. -/
import Derived.Test.YtkifebmlojdjnaaDoorParse3
import Derived.Test.YtkifebmlojdjnaaDoorParse5
namespace Go.Proofs.YtkifebmlojdjnaaDoor
open Go.RowKit
set_option autoImplicit false
set_option linter.unusedVariables false

theorem number_all (s : ByteArray) (r : Int) (h2 : 2 ≤ r) (h36 : r ≤ 36) (hs : s.size ≤ 1000000) (b : Bool) (hb : b = true ↔ Good r s) (w : World) :
    Calls Tryd.prog 26 #[.string s, .int .i64 r] w (NumOut w b (pval r s.data.toList) 1000001) := by
  obtain ⟨b', hb', h⟩ := number_any w s r h2 h36 hs
  have e : b' = b := by
    cases b <;> cases b'
    · rfl
    · exact absurd (hb.2 (hb'.1 rfl)) (by decide)
    · exact absurd (hb'.2 (hb.1 rfl)) (by decide)
    · rfl
  rw [← e]
  exact h
end Go.Proofs.YtkifebmlojdjnaaDoor
