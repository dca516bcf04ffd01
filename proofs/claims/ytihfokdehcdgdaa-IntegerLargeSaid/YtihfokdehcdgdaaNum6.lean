/- The number of binary digits of a limb. -/
import Derived.Test.YtihfokdehcdgdaaNum5
namespace Go.Proofs.Ytihfokdehcdgdaa
open Go.RowKit
set_option autoImplicit false
set_option linter.unusedVariables false

/-- The number of binary digits. -/
def blen (v : Nat) : Nat := if v = 0 then 0 else v.log2 + 1

def lenBytes : ByteArray := { data := (([0, 1, 2, 2, 3, 3, 3, 3, 4, 4, 4, 4, 4, 4, 4, 4, 5, 5, 5, 5, 5, 5, 5, 5, 5, 5, 5, 5, 5, 5, 5, 5, 6, 6, 6, 6, 6, 6, 6, 6, 6, 6, 6, 6, 6, 6, 6, 6, 6, 6, 6, 6, 6, 6, 6, 6, 6, 6, 6, 6, 6, 6, 6, 6].append [7, 7, 7, 7, 7, 7, 7, 7, 7, 7, 7, 7, 7, 7, 7, 7, 7, 7, 7, 7, 7, 7, 7, 7, 7, 7, 7, 7, 7, 7, 7, 7, 7, 7, 7, 7, 7, 7, 7, 7, 7, 7, 7, 7, 7, 7, 7, 7, 7, 7, 7, 7, 7, 7, 7, 7, 7, 7, 7, 7, 7, 7, 7, 7]).append ([8, 8, 8, 8, 8, 8, 8, 8, 8, 8, 8, 8, 8, 8, 8, 8, 8, 8, 8, 8, 8, 8, 8, 8, 8, 8, 8, 8, 8, 8, 8, 8, 8, 8, 8, 8, 8, 8, 8, 8, 8, 8, 8, 8, 8, 8, 8, 8, 8, 8, 8, 8, 8, 8, 8, 8, 8, 8, 8, 8, 8, 8, 8, 8].append [8, 8, 8, 8, 8, 8, 8, 8, 8, 8, 8, 8, 8, 8, 8, 8, 8, 8, 8, 8, 8, 8, 8, 8, 8, 8, 8, 8, 8, 8, 8, 8, 8, 8, 8, 8, 8, 8, 8, 8, 8, 8, 8, 8, 8, 8, 8, 8, 8, 8, 8, 8, 8, 8, 8, 8, 8, 8, 8, 8, 8, 8, 8, 8])).toArray }
theorem len_size : lenBytes.size = 256 := by decide +kernel
theorem len_all : ∀ k : Fin 256, ((lenBytes[k.val]'(by rw [len_size]; exact k.isLt)).toNat : Int) = (blen k.val : Int) := by decide +kernel

theorem len8_at (d : Nat) (h1 : d < 256) (w : World) :
    (Instr.index 9 (.string { data := (([0, 1, 2, 2, 3, 3, 3, 3, 4, 4, 4, 4, 4, 4, 4, 4, 5, 5, 5, 5, 5, 5, 5, 5, 5, 5, 5, 5, 5, 5, 5, 5, 6, 6, 6, 6, 6, 6, 6, 6, 6, 6, 6, 6, 6, 6, 6, 6, 6, 6, 6, 6, 6, 6, 6, 6, 6, 6, 6, 6, 6, 6, 6, 6].append [7, 7, 7, 7, 7, 7, 7, 7, 7, 7, 7, 7, 7, 7, 7, 7, 7, 7, 7, 7, 7, 7, 7, 7, 7, 7, 7, 7, 7, 7, 7, 7, 7, 7, 7, 7, 7, 7, 7, 7, 7, 7, 7, 7, 7, 7, 7, 7, 7, 7, 7, 7, 7, 7, 7, 7, 7, 7, 7, 7, 7, 7, 7, 7]).append ([8, 8, 8, 8, 8, 8, 8, 8, 8, 8, 8, 8, 8, 8, 8, 8, 8, 8, 8, 8, 8, 8, 8, 8, 8, 8, 8, 8, 8, 8, 8, 8, 8, 8, 8, 8, 8, 8, 8, 8, 8, 8, 8, 8, 8, 8, 8, 8, 8, 8, 8, 8, 8, 8, 8, 8, 8, 8, 8, 8, 8, 8, 8, 8].append [8, 8, 8, 8, 8, 8, 8, 8, 8, 8, 8, 8, 8, 8, 8, 8, 8, 8, 8, 8, 8, 8, 8, 8, 8, 8, 8, 8, 8, 8, 8, 8, 8, 8, 8, 8, 8, 8, 8, 8, 8, 8, 8, 8, 8, 8, 8, 8, 8, 8, 8, 8, 8, 8, 8, 8, 8, 8, 8, 8, 8, 8, 8, 8])).toArray }) (.int .u8 (d : Int))).run Try.prog w = .ok (.int .u8 (blen d : Int)) w := by
  have h := len_all ⟨d, h1⟩
  simp only at h
  have h2 : (d : Int) < 256 := by omega
  show (Instr.index 9 (.string lenBytes) (.int .u8 (d : Int))).run Try.prog w = .ok (.int .u8 (blen d : Int)) w
  rw [← h]
  simp [go_sem, len_size]
  rw [dif_pos h2]

theorem blen_div (v k : Nat) (h : 2 ^ k ≤ v) : blen v = blen (v / 2 ^ k) + k := by
  have hp : 0 < 2 ^ k := Nat.two_pow_pos k
  have h1 : 0 < v / 2 ^ k := Nat.div_pos h hp
  unfold blen
  rw [if_neg (by omega), if_neg (by omega)]
  have : v.log2 = (v / 2 ^ k).log2 + k := by
    have h2 := Nat.log2_self_le (n := v / 2 ^ k) (by omega)
    have h3 := Nat.lt_log2_self (n := v / 2 ^ k)
    rw [Nat.log2_eq_iff (by omega)]
    have e1 := Nat.div_add_mod v (2 ^ k)
    have e2 := Nat.mod_lt v hp
    rw [Nat.pow_add, show (v / 2 ^ k).log2 + k + 1 = (v / 2 ^ k).log2 + 1 + k by omega, Nat.pow_add]
    constructor
    · have := Nat.mul_le_mul_right (2 ^ k) h2
      rw [Nat.mul_comm (v / 2 ^ k)] at this
      omega
    · have h4 : (v / 2 ^ k + 1) * 2 ^ k ≤ 2 ^ ((v / 2 ^ k).log2 + 1) * 2 ^ k := Nat.mul_le_mul_right _ h3
      rw [Nat.add_mul, Nat.mul_comm (v / 2 ^ k)] at h4
      omega
  omega
end Go.Proofs.Ytihfokdehcdgdaa
