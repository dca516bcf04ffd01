/- math/bits.OnesCount32. -/
import Derived.Test.YtihfokdehcdgdaaNum10
namespace Go.Proofs.Ytihfokdehcdgdaa
open Go.RowKit
set_option autoImplicit false
set_option linter.unusedVariables false

/-- The number of ones among the lowest k bits. -/
def onesTo (v : Nat) : Nat → Nat
  | 0 => 0
  | k + 1 => onesTo v k + v / 2 ^ k % 2

def popLit : ByteArray := { data := #[0, 1, 1, 2, 1, 2, 2, 3, 1, 2, 2, 3, 2, 3, 3, 4, 1, 2, 2, 3, 2, 3, 3, 4, 2, 3, 3, 4, 3, 4, 4, 5, 1, 2, 2, 3, 2, 3, 3, 4, 2, 3, 3, 4, 3, 4, 4, 5, 2, 3, 3, 4, 3, 4, 4, 5, 3, 4, 4, 5, 4, 5, 5, 6, 1, 2, 2, 3, 2, 3, 3, 4, 2, 3, 3, 4, 3, 4, 4, 5, 2, 3, 3, 4, 3, 4, 4, 5, 3, 4, 4, 5, 4, 5, 5, 6, 2, 3, 3, 4, 3, 4, 4, 5, 3, 4, 4, 5, 4, 5, 5, 6, 3, 4, 4, 5, 4, 5, 5, 6, 4, 5, 5, 6, 5, 6, 6, 7, 1, 2, 2, 3, 2, 3, 3, 4, 2, 3, 3, 4, 3, 4, 4, 5, 2, 3, 3, 4, 3, 4, 4, 5, 3, 4, 4, 5, 4, 5, 5, 6, 2, 3, 3, 4, 3, 4, 4, 5, 3, 4, 4, 5, 4, 5, 5, 6, 3, 4, 4, 5, 4, 5, 5, 6, 4, 5, 5, 6, 5, 6, 6, 7, 2, 3, 3, 4, 3, 4, 4, 5, 3, 4, 4, 5, 4, 5, 5, 6, 3, 4, 4, 5, 4, 5, 5, 6, 4, 5, 5, 6, 5, 6, 6, 7, 3, 4, 4, 5, 4, 5, 5, 6, 4, 5, 5, 6, 5, 6, 6, 7, 4, 5, 5, 6, 5, 6, 6, 7, 5, 6, 6, 7, 6, 7, 7, 8] }
theorem pop_size : popLit.size = 256 := by decide +kernel
theorem pop_all : ∀ k : Fin 256, ((popLit[k.val]'(by rw [pop_size]; exact k.isLt)).toNat) = onesTo k.val 8 := by decide +kernel

theorem onesTo_le (v k : Nat) : onesTo v k ≤ k := by
  induction k with
  | zero => simp [onesTo]
  | succ k ih => simp only [onesTo]; omega

theorem onesTo_add (v j k : Nat) : onesTo v (j + k) = onesTo v j + onesTo (v / 2 ^ j) k := by
  induction k with
  | zero => simp [onesTo]
  | succ k ih =>
    rw [show j + (k + 1) = j + k + 1 by omega]
    simp only [onesTo]
    rw [ih, Nat.div_div_eq_div_mul, ← Nat.pow_add]
    omega

theorem onesTo_mod (v k m : Nat) (h : k ≤ m) : onesTo (v % 2 ^ m) k = onesTo v k := by
  induction k with
  | zero => rfl
  | succ k ih =>
    simp only [onesTo]
    rw [ih (by omega)]
    congr 1
    have e : v / 2 ^ k % 2 = (v % 2 ^ m) / 2 ^ k % 2 := by
      have h1 := Nat.testBit_mod_two_pow v m k
      have hk : k < m := by omega
      simp only [hk, decide_true, Bool.true_and] at h1
      rw [Nat.testBit_eq_decide_div_mod_eq, Nat.testBit_eq_decide_div_mod_eq] at h1
      have h2 := decide_eq_decide.1 h1
      omega
    exact e.symm

theorem ones32 (d : Nat) : onesTo d 32 = onesTo (d / 16777216 % 256) 8 + onesTo (d / 65536 % 256) 8 + onesTo (d / 256 % 256) 8 + onesTo (d % 256) 8 := by
  have h1 := onesTo_add d 8 24
  have h2 := onesTo_add (d / 2 ^ 8) 8 16
  have h3 := onesTo_add (d / 2 ^ 8 / 2 ^ 8) 8 8
  rw [show (256 : Nat) = 2 ^ 8 from rfl, onesTo_mod _ _ _ (Nat.le_refl 8), onesTo_mod _ _ _ (Nat.le_refl 8), onesTo_mod _ _ _ (Nat.le_refl 8), onesTo_mod _ _ _ (Nat.le_refl 8)]
  rw [Nat.div_div_eq_div_mul] at h2 h3
  rw [Nat.div_div_eq_div_mul] at h3
  simp only [Nat.reducePow, Nat.reduceMul, Nat.reduceAdd] at *
  omega
end Go.Proofs.Ytihfokdehcdgdaa
