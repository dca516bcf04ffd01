/- Power and Root: both sides return one number and one code. -/
import Derived.Test.YtpakfknacmcohaaBothD
import Derived.Test.YtpakfknacmcohaaRootsIn
import Derived.Test.YtpakfknacmcohaaRPows
namespace Go.Proofs.Ytpakfknacmcohaa
open Go.RowKit
set_option autoImplicit false
set_option linter.unusedVariables false

theorem both_power (n : Int) (nx ux : Bool) (ao uo : Option Addr) (n1 n' capa capc : Nat) (xs us : List Int) (x : Int) (w1 : World) (hx : IntAt w1 nx ao n1 capa xs x) (hu : RefAt w1 ux uo n' capc us x)
    (h1 : n1 ≤ 2) (h2 : n' ≤ 8) (hn : n < 0 ∨ x.natAbs ≤ 1 ∨ n ≤ 40) (hhi : n ≤ 9223372036854775807) :
    ∃ p c : Int, (∀ w2, Below w1.heap.size w1 w2 → Calls Try.prog 46 #[.agg #[.bool nx, .slice ao n1 capa], .int .i64 n] w2 (RetBoth w2 p c 1048578)) ∧
      ∀ w2, Below w1.heap.size w1 w2 → Calls Try.prog 47 #[.agg #[.bool ux, .slice uo n' capc], .int .i64 n] w2 (RetBothR w2 p c 1048578) := by
  by_cases hneg : n < 0
  · exact ⟨0, 1, fun w2 hb => (power_neg w2 nx ao n1 capa n hneg).mono fun _ _ h => zBoth h, fun w2 hb => (rpower_neg w2 ux uo n' capc n hneg).mono fun _ _ h => zBothR h⟩
  · obtain ⟨k, rfl⟩ := Int.eq_ofNat_of_zero_le (show 0 ≤ n by omega)
    have h3 : x.natAbs ≤ 1 ∨ k ≤ 40 := by omega
    refine ⟨x ^ k, 0, fun w2 hb => ?_, fun w2 hb => (rpower_in w2 ux uo n' capc us x k (hu.below hb) h2 (by omega) h3).mono fun _ _ h => toBothR rfl (by omega) h⟩
    rcases h3 with h3 | h3
    · have hv : val xs ≤ 1 := by
        have := hx.abs
        omega
      exact (power_small w2 nx ao n1 capa xs x k (hx.below hb) (by omega) hv (by omega)).mono fun _ _ h => toBoth rfl (by omega) h
    · have hp : n1 * k ≤ 80 := Nat.mul_le_mul h1 h3
      exact (pow_in w2 nx ao n1 capa xs x k (hx.below hb) (by omega) (by rw [Nat.mul_assoc]; omega) (by omega)).mono fun _ _ h => toBoth rfl (by omega) h

theorem root_one {g G X : Nat} (h1 : g * g ≤ X) (h2 : X < (g + 1) * (g + 1)) (k1 : G * G ≤ X) (k2 : X < (G + 1) * (G + 1)) : g = G := by
  rcases Nat.lt_trichotomy g G with h | h | h
  · have := Nat.mul_le_mul (show g + 1 ≤ G by omega) (show g + 1 ≤ G by omega)
    omega
  · exact h
  · have := Nat.mul_le_mul (show G + 1 ≤ g by omega) (show G + 1 ≤ g by omega)
    omega

theorem isqrt_exists (X : Nat) : ∃ G, G * G ≤ X ∧ X < (G + 1) * (G + 1) := by
  induction X with
  | zero => exact ⟨0, by omega, by omega⟩
  | succ X ih =>
    obtain ⟨G, h1, h2⟩ := ih
    by_cases h : X + 1 < (G + 1) * (G + 1)
    · exact ⟨G, by omega, h⟩
    · refine ⟨G + 1, by omega, ?_⟩
      have e : (G + 1 + 1) * (G + 1 + 1) = (G + 1) * (G + 1) + 2 * G + 3 := by grind
      omega

theorem both_root (nx ux : Bool) (ao uo : Option Addr) (n1 n' capa capc : Nat) (xs us : List Int) (x : Int) (w1 : World) (hx : IntAt w1 nx ao n1 capa xs x) (hu : RefAt w1 ux uo n' capc us x) (h1 : n1 ≤ 1000) (h2 : n' ≤ 100) :
    ∃ p c : Int, (∀ w2, Below w1.heap.size w1 w2 → Calls Try.prog 48 #[.agg #[.bool nx, .slice ao n1 capa]] w2 (RetBoth w2 p c 1048578)) ∧
      ∀ w2, Below w1.heap.size w1 w2 → Calls Try.prog 49 #[.agg #[.bool ux, .slice uo n' capc]] w2 (RetBothR w2 p c 1048578) := by
  by_cases hneg : x < 0
  · refine ⟨0, 1, fun w2 hb => ?_, fun w2 hb => (rroot_neg w2 ux uo n' capc us x (hu.below hb) hneg).mono fun _ _ h => zBothR h⟩
    have hs : nx = true := by rw [neg_iff2 hx]; exact decide_eq_true hneg
    subst hs
    exact (root_neg w2 ao n1 capa).mono fun _ _ h => zBoth h
  · obtain ⟨X, rfl⟩ := Int.eq_ofNat_of_zero_le (show 0 ≤ x by omega)
    obtain ⟨G, g1, g2⟩ := isqrt_exists X
    refine ⟨(G : Int), 0, fun w2 hb => ?_, fun w2 hb => ?_⟩
    · refine (root_int w2 nx ao n1 capa xs _ (hx.below hb) (by omega) (by omega)).mono ?_
      rintro e w' ⟨g, k1, k2, k3⟩
      have : g = G := root_one (X := X) (by exact_mod_cast k1) (by exact_mod_cast k2) g1 g2
      subst this
      exact toBoth rfl (by omega) k3
    · refine (rroot_pos w2 ux uo n' capc us X (hu.below hb) h2).mono ?_
      rintro e w' ⟨g, k1, k2, k3⟩
      have : g = G := root_one k1 k2 g1 g2
      subst this
      exact toBothR rfl (by omega) k3
end Go.Proofs.Ytpakfknacmcohaa
