/- Boo1, Boo2, Boo3 in one text. -/
import Derived.Test.YtkifebmlojdjnaaDoorRefB
import Derived.Test.YtkifebmlojdjnaaDoorMade
namespace Go.Proofs.YtkifebmlojdjnaaDoor
open Go.RowKit
set_option autoImplicit false
set_option linter.unusedVariables false

/-- A row of the call's own: the digits ys, all of them. -/
def MineI (B : Nat) (w : World) (g : Nat) (ys : List Int) : Prop := OwnI B w (some ⟨g, 0, none⟩) ys.length ys.length ys

theorem MineI.set {B : Nat} {w : World} {g : Nat} {ys : List Int} (h : MineI B w g ys) (j : Nat) (v : Int) : MineI B (w.setCell ⟨g, j, none⟩ (.int .i64 v)) g (ys.set j v) := by
  have := (World.ownsRow.stored h j (.int .i64 v)).1
  unfold MineI OwnI
  rw [List.length_set, List.map_set]
  exact this
end Go.Proofs.YtkifebmlojdjnaaDoor
