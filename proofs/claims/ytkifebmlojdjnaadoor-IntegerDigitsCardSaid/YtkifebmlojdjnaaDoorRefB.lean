/- Ref4, Ref5, Ref6, Ref7, Ref8, Ref9, Ref10 in one text. -/
import Derived.Test.YtkifebmlojdjnaaDoorRefs
import Derived.Test.YtkifebmlojdjnaaDoorNats
import Derived.Deep.RegionHeld3
import Derived.Deep.AppendLies
namespace Go.Proofs.YtkifebmlojdjnaaDoor
open Go.RowKit
set_option autoImplicit false
set_option linter.unusedVariables false

theorem dval_lt {r : Int} (hr : 2 ≤ r) {ds : List Int} (h : Dig r ds) : dval r ds < r ^ ds.length := by
  induction ds with
  | nil => simp [dval]
  | cons z zs ih =>
    have h1 := h z (by simp)
    have h2 := ih (fun d hd => h d (by simp [hd]))
    simp only [dval, List.length_cons, Int.pow_succ]
    have h3 : r * (dval r zs + 1) ≤ r * r ^ zs.length := Int.mul_le_mul_of_nonneg_left (by omega) (by omega)
    rw [Int.mul_add] at h3
    rw [Int.mul_comm (r ^ zs.length) r]
    omega

theorem rpow_le {r : Int} (hr : 2 ≤ r) {a b : Nat} (h : a ≤ b) : r ^ a ≤ r ^ b := by
  obtain ⟨k, rfl⟩ : ∃ k, b = a + k := ⟨b - a, by omega⟩
  rw [Int.pow_add]
  have h1 := rpow_pos hr a
  have h2 := rpow_pos hr k
  have h3 : r ^ a * 1 ≤ r ^ a * r ^ k := Int.mul_le_mul_of_nonneg_left (by omega) (by omega)
  omega
end Go.Proofs.YtkifebmlojdjnaaDoor
