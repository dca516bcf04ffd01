/- What IntegerRoots and IntegerPowers ask of Power and Root. -/
import Derived.Test.YtkifebmlojdjnaaDoorRefB
import Derived.Test.YtkifebmlojdjnaaDoorMade
import Derived.Test.YtkifebmlojdjnaaDoorTexts
import Derived.Test.YtkifebmlojdjnaaDoorAwakes
import Derived.Test.YtkifebmlojdjnaaDoorNats
import Derived.Test.YtkifebmlojdjnaaDoorBitsA
import Derived.Test.YtkifebmlojdjnaaDoorBoxes
namespace Go.Proofs.YtkifebmlojdjnaaDoor
open Go.RowKit
set_option autoImplicit false
set_option linter.unusedVariables false

/-- One integer was returned in a row. -/
def RetMade1 (w : World) (x : Num) (X : Int) (e : Ending) (w' : World) : Prop :=
  ∃ (g cap : Nat) (r : Num) (zr : List Int), e = .returned (.slice (some ⟨g, 0, none⟩) 1 cap) ∧ 1 ≤ cap ∧ cap ≤ maxLen ∧
    (w'.cell? ⟨g, 0, none⟩ = some (.bool r.neg) ∧ w'.cell? ⟨g, 1, none⟩ = some (.slice r.ao r.n r.cap)) ∧
    IntAt w' r.neg r.ao r.n r.cap zr X ∧ r.n ≤ x.n ∧ Below w.heap.size w w'

theorem made1 (w : World) (b : Nat) (x : Num) (X : Int) (zx : List Int) (h : w.heap[b]? = some (.cells #[.bool x.neg, .slice x.ao x.n x.cap] 24 (0, 0)))
    (hx : Sl w x.ao x.n x.cap zx ∧ Lim zx ∧ X = sgn x.neg (val zx) ∧ x.n ≤ 34359738368) :
    Calls Tryd.prog 6 #[.slice (some ⟨b, 0, none⟩) 1 1] w (RetMade1 w x X) := by
  have hm := made_many w b 1 [x] (fun _ => X) (fun _ => zx) (nums_one h) (Array.getElem?_eq_some_iff.1 h).1 (by simp) (by omega) ?_
  · refine hm.mono ?_
    rintro e w' ⟨ao, cap, rs, rfl, hl, hown, hall, hb⟩
    match rs, hl with
    | [r], _ =>
      obtain ⟨h1, zr, h2⟩ := hall 0 r x rfl rfl
      rcases hown.2 with ⟨hv, h0⟩ | ⟨g, c, cur, hv, hbg, hg, hnc, hcm, hcs, htk⟩
      · simp at h0
      · simp at hv
        obtain ⟨rfl, rfl⟩ := hv
        have hcell : ∀ i v, (flat [r])[i]? = some v → w'.cell? ⟨g, i, none⟩ = some v := by
          intro i v hv
          rw [← htk] at hv
          have hi : i < [x].length * 2 := by
            have := (List.getElem?_eq_some_iff.1 hv).1
            simp at this
            simp
            omega
          rw [List.getElem?_take, if_pos hi] at hv
          rw [cell_of_row _ g i cur _ (0, 0) hg]
          simpa using hv
        refine ⟨g, cap, r, zr, rfl, hnc, hcm, ⟨hcell 0 _ rfl, hcell 1 _ rfl⟩, by simpa using h2, h1, hb⟩
  · intro i u hu
    match i, hu with
    | 0, hu => simp at hu; subst hu; simpa using hx
end Go.Proofs.YtkifebmlojdjnaaDoor
