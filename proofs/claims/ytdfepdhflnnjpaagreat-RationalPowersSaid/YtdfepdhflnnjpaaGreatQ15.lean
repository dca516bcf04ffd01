/- A row of three integers out of a slice of the call's own. -/
import Derived.Test.YtdfepdhflnnjpaaGreatQ14
import Derived.Deep.AppendLies
namespace Go.Proofs.YtdfepdhflnnjpaaGreat
open Go.RowKit
set_option autoImplicit false
set_option linter.unusedVariables false

theorem row3_owned {w : World} {base g cap : Nat} {e : TypeId} {s0 : Bool} {a0 : Option Addr} {m0 k0 : Nat} {z0 : List Int} {x0 : Int} {s1 : Bool} {a1 : Option Addr} {m1 k1 : Nat} {z1 : List Int} {x1 : Int} {s2 : Bool} {a2 : Option Addr} {m2 k2 : Nat} {z2 : List Int} {x2 : Int}
    (h : w.ownsRow base e 2 (.slice (some ⟨g, 0, none⟩) 3 cap) 3 [.bool s0, .slice a0 m0 k0, .bool s1, .slice a1 m1 k1, .bool s2, .slice a2 m2 k2])
    (i0 : IntAt w s0 a0 m0 k0 z0 x0) (i1 : IntAt w s1 a1 m1 k1 z1 x1) (i2 : IntAt w s2 a2 m2 k2 z2 x2) :
    Row3 w g s0 a0 m0 k0 z0 x0 s1 a1 m1 k1 z1 x1 s2 a2 m2 k2 z2 x2 ∧ 3 ≤ cap ∧ base ≤ g := by
  rcases h.2 with ⟨hv, -⟩ | ⟨g', cap', cur, hv, hb, hg, hn, hc, hs, ht⟩
  · cases hv
  · cases hv
    have at_ : ∀ i, i < 6 → w.cell? ⟨g, i, none⟩ = [Value.bool s0, .slice a0 m0 k0, .bool s1, .slice a1 m1 k1, .bool s2, .slice a2 m2 k2][i]? := by
      intro i hi
      rw [cell_of_row w g i cur e (0, 0) hg, ← ht, List.getElem?_take_of_lt (by omega), Array.getElem?_toList]
    exact ⟨⟨at_ 0 (by omega), at_ 1 (by omega), at_ 2 (by omega), at_ 3 (by omega), at_ 4 (by omega), at_ 5 (by omega), i0, i1, i2, (Array.getElem?_eq_some_iff.1 hg).1⟩, hn, hb⟩

end Go.Proofs.YtdfepdhflnnjpaaGreat
