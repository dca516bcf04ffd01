/- Boo1, Boo2, Boo3 in one text. -/
import Derived.Test.YtdfepdhflnnjpaaGreatNumM
namespace Go.Proofs.YtdfepdhflnnjpaaGreat
open Go.RowKit
set_option autoImplicit false
set_option maxHeartbeats 1000000
set_option linter.unusedVariables false

/-- A row of the call's own: the digits ys, all of them. -/
def MineI (B : Nat) (w : World) (g : Nat) (ys : List Int) : Prop := OwnI B w (some ⟨g, 0, none⟩) ys.length ys.length ys

theorem MineI.cell {B : Nat} {w : World} {g : Nat} {ys : List Int} (h : MineI B w g ys) (j : Nat) (hj : j < ys.length) : w.cell? ⟨g, j, none⟩ = some (.int .i64 (ys.getD j 0)) ∧ w.frozen? ⟨g, j, none⟩ = false := by
  refine ⟨?_, World.ownsRow.frozenAt h j⟩
  rw [World.ownsRow.cellAt h j (by omega), List.getElem?_map, List.getElem?_eq_getElem hj, getD_lt hj]
  rfl

theorem MineI.set {B : Nat} {w : World} {g : Nat} {ys : List Int} (h : MineI B w g ys) (j : Nat) (v : Int) : MineI B (w.setCell ⟨g, j, none⟩ (.int .i64 v)) g (ys.set j v) := by
  have := (World.ownsRow.stored h j (.int .i64 v)).1
  unfold MineI OwnI
  rw [List.length_set, List.map_set]
  exact this

theorem made_mineI {B : Nat} {w : World} {g n : Nat} (h : w.ownsRow B 3 1 (.slice (some ⟨g, 0, none⟩) n n) n (madeCells #[.int .i64 0] n).toList) : MineI B w g (List.replicate n 0) := by
  rw [toList_madeCells_one] at h
  unfold MineI OwnI
  simpa using h

/-- A slice of bits, as a function may be handed it. -/
structure SlB (w : World) (ao : Option Addr) (k cap : Nat) (f : Nat → Bool) : Prop where
  le : k ≤ cap
  most : cap ≤ 9223372036854775807
  cells : ∀ j, j < k → ∃ b o, ao = some ⟨b, o, none⟩ ∧ w.cell? ⟨b, o + j, none⟩ = some (.bool (f j))

theorem SlB.below {w w' : World} {ao : Option Addr} {k cap : Nat} {f : Nat → Bool} (h : SlB w ao k cap f) (hb : Below w.heap.size w w') : SlB w' ao k cap f :=
  ⟨h.le, h.most, fun j hj => by
    obtain ⟨b, o, h1, h2⟩ := h.cells j hj
    exact ⟨b, o, h1, by rw [hb.cell (World.block_lt_of_cell? w _ h2)]; exact h2⟩⟩
end Go.Proofs.YtdfepdhflnnjpaaGreat
