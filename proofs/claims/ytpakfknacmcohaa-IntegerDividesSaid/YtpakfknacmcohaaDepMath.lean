/- Bits of what Deposit makes: plain mathematics. -/
import Derived.Test.YtpakfknacmcohaaField
namespace Go.Proofs.Ytpakfknacmcohaa
open Go.RowKit
set_option autoImplicit false
set_option linter.unusedVariables false

theorem bitZ_small {v : Int} {i : Nat} (h0 : 0 ≤ v) (h1 : v < 2 ^ i) : bitZ v i = false := by
  unfold bitZ
  rw [Int.ediv_eq_zero_of_lt h0 h1]
  rfl
theorem bitZ_modge (x : Int) {n i : Nat} (h : n ≤ i) : bitZ (x % 2 ^ n) i = false := by
  have hp : (0 : Int) < 2 ^ n := Int.pow_pos (by omega)
  have h2 := two_le h
  have h3 := Int.emod_lt_of_pos x hp
  exact bitZ_small (Int.emod_nonneg _ (by omega)) (by omega)
theorem bitZ_mod' (x : Int) (n i : Nat) : bitZ (x % 2 ^ n) i = (decide (i < n) && bitZ x i) := by
  by_cases h : i < n
  · rw [bitZ_mod x h, decide_eq_true h, Bool.true_and]
  · rw [bitZ_modge x (by omega), decide_eq_false h, Bool.false_and]
theorem bitZ_shl (y : Int) (a i : Nat) : bitZ (y * 2 ^ a) i = (decide (a ≤ i) && bitZ y (i - a)) := by
  unfold bitZ
  by_cases h : a ≤ i
  · rw [decide_eq_true h, Bool.true_and]
    obtain ⟨m, rfl⟩ := Nat.exists_eq_add_of_le h
    have hp : (0 : Int) < 2 ^ a := Int.pow_pos (by omega)
    rw [Int.pow_add, Int.mul_comm y, Int.mul_ediv_mul_of_pos _ _ hp, show a + m - a = m by omega]
  · rw [decide_eq_false h, Bool.false_and]
    obtain ⟨m, rfl⟩ : ∃ m, a = i + (m + 1) := ⟨a - i - 1, by omega⟩
    have hp : (0 : Int) < 2 ^ i := Int.pow_pos (by omega)
    have e : y * 2 ^ (i + (m + 1)) = 2 ^ i * (y * 2 ^ m * 2) := by rw [Int.pow_add, Int.pow_succ]; grind
    rw [e, Int.mul_ediv_cancel_left _ (by omega), Int.mul_emod_left]
    rfl
theorem bitZ_neg1 (i : Nat) : bitZ (-1) i = true := by
  have := bitZ_compl 0 i
  simpa using this
theorem ones_mod (k : Nat) : (2 : Int) ^ k - 1 = (-1) % 2 ^ k := by
  have hp : (0 : Int) < 2 ^ k := Int.pow_pos (by omega)
  have e : (-1 : Int) = (2 ^ k - 1) + 2 ^ k * (-1) := by omega
  rw [e, Int.add_mul_emod_self_left, Int.emod_eq_of_lt (by omega) (by omega)]
theorem bitZ_test (n i : Nat) : bitZ (n : Int) i = n.testBit i := by
  rw [bitZ_nat, Nat.testBit_eq_decide_div_mod_eq]
  rw [Bool.eq_iff_iff]
  simp
theorem compl_test {b : Nat} (h : b < 4294967296) {r : Nat} (hr : r < 32) : (4294967295 - b).testBit r = !b.testBit r := by
  have := matN_bit h false hr
  unfold matN at this
  simpa using this
theorem word_bit {a b c : Int} (ha : 0 ≤ a ∧ a ≤ 4294967295) (hb : 0 ≤ b ∧ b ≤ 4294967295) (hc : 0 ≤ c ∧ c ≤ 4294967295) {r : Nat} (hr : r < 32) :
    bitZ (bits BinOp.or IntKind.u32 (bits BinOp.andNot IntKind.u32 a b) c) r = ((bitZ a r && !bitZ b r) || bitZ c r) := by
  obtain ⟨a, rfl⟩ := Int.eq_ofNat_of_zero_le ha.1
  obtain ⟨b, rfl⟩ := Int.eq_ofNat_of_zero_le hb.1
  obtain ⟨c, rfl⟩ := Int.eq_ofNat_of_zero_le hc.1
  have hb' : b < 4294967296 := by omega
  have h1 : a &&& (4294967295 - b) < 4294967296 := Nat.and_lt_two_pow (n := 32) _ (by omega)
  rw [u32_andNot_nat _ _ (by omega) (by omega), u32_or_nat _ _ h1 (by omega), bitZ_test, bitZ_test, bitZ_test, bitZ_test, Nat.testBit_or, Nat.testBit_and, compl_test hb' hr]
theorem limb_bit_all {zs : List Int} (lz : Lim zs) (q : Nat) {r : Nat} (hr : r < 32) : bitZ (val zs) (32 * q + r) = bitZ (zs.getD q 0) r := by
  by_cases hq : q < zs.length
  · exact limb_bit hq lz hr
  · rw [getD_ge (by omega), bitZ_small (v := 0) (by omega) (Int.pow_pos (by omega))]
    refine bitZ_small (val_nonneg lz) ?_
    have h1 := val_lt lz
    rw [base_pow] at h1
    have h2 := two_le (show 32 * zs.length ≤ 32 * q + r by omega)
    omega

/-- Bit i behind a Deposit of p in x. -/
def depB (x p : Int) (k a i : Nat) : Bool := if a ≤ i ∧ i < a + k then bitZ p (i - a) else bitZ x i

theorem mask_top {ms : List Int} {k a : Nat} (lm : Lim ms) (vm : val ms = (2 ^ k - 1) * 2 ^ a) (hk : 0 < k) : a + k ≤ 32 * ms.length := by
  rcases Nat.lt_or_ge (32 * ms.length) (a + k) with h | h
  · exfalso
    have h1 := val_lt lm
    rw [base_pow] at h1
    have h2 := two_le (show 32 * ms.length ≤ a + k - 1 by omega)
    have h3 : bitZ (val ms) (a + k - 1) = false := bitZ_small (val_nonneg lm) (by omega)
    rw [vm, bitZ_shl, ones_mod, bitZ_mod', bitZ_neg1, decide_eq_true (by omega), decide_eq_true (by omega)] at h3
    exact absurd h3 (by decide)
  · exact h

theorem dep_bits {x p : Int} {K k a : Nat} {As ms fs rs : List Int} (lA : Lim As) (lm : Lim ms) (lf : Lim fs) (lr : Lim rs) (hrl : rs.length = K + 1) (hAl : As.length = K + 1) (hm : ms.length ≤ K)
    (vA : val As = x % 4294967296 ^ (K + 1)) (vm : val ms = (2 ^ k - 1) * 2 ^ a) (vf : val fs = p % 2 ^ k * 2 ^ a)
    (hr : ∀ q, q < K + 1 → rs.getD q 0 = bits BinOp.or IntKind.u32 (bits BinOp.andNot IntKind.u32 (As.getD q 0) (ms.getD q 0)) (fs.getD q 0))
    (neg : Bool) (hbig : ∀ i, 32 * K ≤ i → bitZ x i = neg) (i : Nat) : bitZ (sval (K + 1) (val rs)) i = depB x p k a i := by
  have hlow : ∀ j, j < 32 * K + 32 → bitZ (val rs) j = depB x p k a j := by
    intro j hj
    obtain ⟨q, r, hr32, rfl⟩ : ∃ q r, r < 32 ∧ j = 32 * q + r := ⟨j / 32, j % 32, Nat.mod_lt _ (by omega), by omega⟩
    have hq : q < K + 1 := by omega
    rw [limb_bit_all lr q hr32, hr q hq, word_bit (Lim_getD lA q) (Lim_getD lm q) (Lim_getD lf q) hr32, ← limb_bit_all lA q hr32, ← limb_bit_all lm q hr32, ← limb_bit_all lf q hr32, vA, vm, vf, base_pow, bitZ_mod x (by omega), bitZ_shl, bitZ_shl, ones_mod, bitZ_mod', bitZ_mod', bitZ_neg1]
    unfold depB
    by_cases h1 : a ≤ 32 * q + r
    · by_cases h2 : 32 * q + r < a + k
      · rw [if_pos ⟨h1, h2⟩, decide_eq_true h1, decide_eq_true (show 32 * q + r - a < k by omega)]; simp
      · rw [if_neg (fun h => h2 h.2), decide_eq_true h1, decide_eq_false (show ¬ 32 * q + r - a < k by omega)]; simp
    · rw [if_neg (fun h => h1 h.1), decide_eq_false h1]; simp
  have h0 := val_nonneg lr
  have h1 := val_lt lr
  rw [hrl, base_pow, show 32 * (K + 1) = (32 * K + 31) + 1 by omega] at h1
  unfold sval
  rw [base_pow, show 32 * (K + 1) = (32 * K + 31) + 1 by omega, sval_bit h0 h1]
  by_cases hi : i < 32 * K + 31 + 1
  · rw [if_pos hi]
    exact hlow i (by omega)
  · rw [if_neg hi, hlow _ (by omega)]
    unfold depB
    by_cases hk : 0 < k
    · have ht := mask_top lm vm hk
      rw [if_neg (by omega), if_neg (by omega), hbig _ (by omega), hbig _ (by omega)]
    · rw [if_neg (by omega), if_neg (by omega), hbig _ (by omega), hbig _ (by omega)]
end Go.Proofs.Ytpakfknacmcohaa
