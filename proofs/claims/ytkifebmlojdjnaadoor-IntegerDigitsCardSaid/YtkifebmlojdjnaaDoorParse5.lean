/- Text of the reference. -/
import Derived.Test.YtkifebmlojdjnaaDoorParse2
import Derived.Test.YtkifebmlojdjnaaDoorBothD
import Derived.Test.YtkifebmlojdjnaaDoorBooA
import Derived.Test.YtkifebmlojdjnaaDoorRefB
import Derived.Test.YtkifebmlojdjnaaDoorMade
import Derived.Test.YtkifebmlojdjnaaDoorAwakes
import Derived.Test.YtkifebmlojdjnaaDoorBitsA
import Derived.Test.YtkifebmlojdjnaaDoorTexts
namespace Go.Proofs.YtkifebmlojdjnaaDoor
open Go.RowKit
set_option autoImplicit false
set_option linter.unusedVariables false

theorem digs_len {r : Nat} (h2 : 2 ≤ r) (k : Nat) : ∀ V, V < 2 ^ k → (digs r V).length ≤ k := by
  induction k with
  | zero => intro V h; have : V = 0 := by simpa using h
            rw [this, digs_zero]; simp
  | succ k ih =>
    intro V h
    by_cases h0 : V = 0
    · rw [h0, digs_zero]; simp
    · rw [digs_pos h2 h0, List.length_cons]
      have h1 : V / r < 2 ^ k := by
        rw [Nat.div_lt_iff_lt_mul (by omega)]
        rw [Nat.pow_succ] at h
        exact Nat.lt_of_lt_of_le h (Nat.mul_le_mul_left _ h2)
      have := ih _ h1
      omega

theorem nat_lt_pow {A b n : Nat} (h : (A : Int) < (b : Int) ^ n) : A < b ^ n := by
  rw [← Int.natCast_pow] at h
  exact Int.ofNat_lt.1 h

theorem digs_bound {r A n : Nat} {xs : List Int} (h2 : 2 ≤ r) (hd : Dig 65536 xs) (hl : xs.length = n) (hA : dval 65536 xs = A) : (digs r A).length ≤ 16 * n := by
  have h := dval_lt (r := 65536) (by omega) hd
  rw [hA, hl] at h
  have h1 : A < 65536 ^ n := nat_lt_pow (b := 65536) h
  refine digs_len h2 _ _ ?_
  rw [Nat.pow_mul]
  exact h1
end Go.Proofs.YtkifebmlojdjnaaDoor
