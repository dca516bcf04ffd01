/- made: the program's integers of the numbers that are handed in. -/
import Derived.Test.YtkifebmlojdjnaaAwakes
namespace Go.Proofs.Ytkifebmlojdjnaa
open Go.RowKit
set_option autoImplicit false
set_option linter.unusedVariables false

/-- A row of limbs stays while a row of other elements is appended to. -/
theorem Own.grown {B : Nat} {w w' : World} {ao : Option Addr} {n cap : Nat} {zs : List Int} (h : Own B w ao n cap zs) {row : Option Nat} (hg : w.grownBy w' row) (hr : ∀ g, row = some g → ∃ cur fz, w.heap[g]? = some (.cells cur 28 fz)) : Own B w' ao n cap zs := by
  refine ⟨h.1, ?_⟩
  rcases h.2 with h2 | ⟨g, c, cur, hv, hbg, hg2, r⟩
  · exact .inl h2
  · refine .inr ⟨g, c, cur, hv, hbg, ?_, r⟩
    rw [hg.block g (Array.getElem?_eq_some_iff.1 hg2).1 ?_]
    · exact hg2
    · intro hrow
      obtain ⟨cur', fz, h3⟩ := hr g hrow.symm
      rw [hg2] at h3
      simp at h3
end Go.Proofs.Ytkifebmlojdjnaa
