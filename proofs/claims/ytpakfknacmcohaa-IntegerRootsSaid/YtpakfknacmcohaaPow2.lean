/- smallPower and Power. -/
import Derived.Test.YtpakfknacmcohaaPow1
import Derived.Test.YtpakfknacmcohaaAwake
namespace Go.Proofs.Ytpakfknacmcohaa
open Go.RowKit
set_option autoImplicit false
set_option linter.unusedVariables false

theorem nat_pow_mul_le {a b k : Nat} (h : a ≤ b) : a ^ k ≤ b ^ k := Nat.pow_le_pow_left h k

theorem pow_big {M size k A : Nat} {y : Int} (hA : 2 ^ (size - 1) ≤ A) (h : M < (size - 1) * k) (hy : y.natAbs = A ^ k) : M < blen (cpl y).toNat := by
  rw [← Nat.not_le, blen_le_iff, Nat.not_lt]
  have h1 : 2 ^ ((size - 1) * k) ≤ A ^ k := by rw [Nat.pow_mul]; exact Nat.pow_le_pow_left hA k
  have h2 : 2 ^ (M + 1) ≤ 2 ^ ((size - 1) * k) := Nat.pow_le_pow_right (by omega) h
  have h3 : 2 ^ M * 2 = 2 ^ (M + 1) := (Nat.pow_succ ..).symm
  have h4 : 1 ≤ 2 ^ M := Nat.one_le_two_pow
  unfold cpl
  split <;> omega

theorem pow_bound {K size k A : Nat} (hA : A < 2 ^ size) (h : size * k ≤ 32 * K) : ((A : Int)) ^ k < 4294967296 ^ (K + 1) := by
  have h1 : A ^ k ≤ (2 ^ size) ^ k := Nat.pow_le_pow_left (Nat.le_of_lt hA) k
  rw [← Nat.pow_mul] at h1
  have h2 : 2 ^ (size * k) ≤ 2 ^ (32 * K) := Nat.pow_le_pow_right (by omega) h
  have h3 : (4294967296 : Int) ^ K = ((2 ^ (32 * K) : Nat) : Int) := by rw [base_pow]; simp
  have h4 : (1 : Int) ≤ 4294967296 ^ K := by have := pow_pos K; omega
  rw [Int.pow_succ, h3]
  rw [h3] at h4
  have h5 : ((A ^ k : Nat) : Int) ≤ ((2 ^ (32 * K) : Nat) : Int) := by exact_mod_cast Nat.le_trans h1 h2
  have h6 : ((A ^ k : Nat) : Int) = (A : Int) ^ k := by simp
  omega

theorem sgn_pow (neg : Bool) (v : Int) (k : Nat) : sgn neg v ^ k = sgn (neg && decide (k % 2 = 1)) (v ^ k) := by
  cases neg with
  | false => simp [sgn]
  | true =>
    simp only [sgn, if_true, Bool.true_and]
    have h2 : (-v) ^ 2 = v ^ 2 := by rw [Int.pow_succ, Int.pow_succ, Int.pow_succ, Int.pow_succ, Int.pow_zero, Int.pow_zero, Int.one_mul, Int.one_mul, Int.neg_mul_neg]
    have h3 : ∀ j, (-v) ^ (2 * j) = v ^ (2 * j) := fun j => by rw [Int.pow_mul, h2, ← Int.pow_mul]
    rcases Nat.mod_two_eq_zero_or_one k with h | h
    · rw [h]
      obtain ⟨j, hj⟩ : ∃ j, k = 2 * j := ⟨k / 2, by omega⟩
      subst hj
      rw [h3]; simp
    · rw [h]
      obtain ⟨j, hj⟩ : ∃ j, k = 2 * j + 1 := ⟨k / 2, by omega⟩
      subst hj
      rw [Int.pow_succ, h3, Int.pow_succ]; simp [Int.mul_neg]

theorem natAbs_pow' (x : Int) (k : Nat) : (x ^ k).natAbs = x.natAbs ^ k := Int.natAbs_pow x k

theorem small_pow {v : Int} (h0 : 0 ≤ v) (h1 : v ≤ 1) {k : Nat} (hk : k ≠ 0) : v ^ k = v := by
  rcases (show v = 0 ∨ v = 1 by omega) with rfl | rfl
  · exact Int.zero_pow hk
  · exact Int.one_pow

theorem smallPower_any (w : World) (nx : Bool) (ao : Option Addr) (n cap : Nat) (xs : List Int) (x : Int) (k : Nat) (hx : IntAt w nx ao n cap xs x) (hn : n ≤ 34359738368) (hv : val xs ≤ 1) (hk : k ≤ 9223372036854775807) :
    Calls Try.prog 94 #[.agg #[.bool nx, .slice ao n cap], .int .i64 (k : Int)] w (RetInt w (x ^ k) (n + 2)) := by
  have HX := Lib.hid hx
  have hv0 := val_nonneg hx.lim
  have hxv := hx.val
  by_cases hk0 : k = 0
  · subst hk0
    have HV : Hid (x ^ 0 = 1) := Lib.hid (Int.pow_zero x)
    clear hx hxv hv hv0
    go_enter Try.func94, Try.ntmps94
    go_wp2_with fail
    refine (new_int _ 1 (by omega) (by omega)).mono ?_
    rintro e w2 ⟨neg', ao', n', cap', zs', rfl, hint, hn', hb1⟩
    have hr2 : w2.heap[w.heap.size + 1]? = some (.cells #[.bool false, .slice none 0 0] 28 (0, 0)) := (hb1.block _ (by simp)).trans (heap_alloc2 _ _ _).1
    obtain ⟨c0, c1, f0, f1⟩ := blk2 hr2
    have HI := Lib.hid (hint.stored hr2 (.bool neg') (.slice ao' n' cap'))
    have hb4 : Below w.heap.size w w2 := Below.trans (by go_grown) (hb1.mono (by go_size))
    clear hint hr2
    go_wp2
    refine bodyPost_ret (v := .agg #[.bool neg', .slice ao' n' cap']) (by simp [results, Try.results94, go_sem, c0, c1]) rfl ?_
    exact fin_int (by omega) hb4 HI.out HV.out.symm (by omega)
  · have hpow : x ^ k = sgn (nx && decide (k % 2 = 1)) (val xs) := by rw [hxv, sgn_pow, small_pow hv0 hv hk0]
    have HP := Lib.hid hpow
    have hne : ((k : Int) == 0) = false := by simp; omega
    have hlim := hx.lim
    clear hx hxv hv hv0 hpow
    have hbk : decide (k % 2 = 1) = ((k : Int) % 2 == 1) := by
      rw [Bool.eq_iff_iff]
      simp
      omega
    rw [hbk] at HP
    have HC : Hid (∀ w1, Below w.heap.size w w1 → _) := fun w1 hb => clone_any w1 ao n cap xs (HX.out.sl.below hb) hn
    clear hbk
    cases nx
    all_goals
      go_enter Try.func94, Try.ntmps94
      go_wp2_with fail
      refine (HC.out _ (by go_grown)).mono ?_
      rintro e w1 ⟨ao1, cap1, rfl, hown, hb1⟩
      have hr1 : w1.heap[w.heap.size + 1]? = some (.cells #[.bool false, .slice none 0 0] 28 (0, 0)) := (hb1.block _ (by simp)).trans (heap_alloc2 _ _ _).1
      have hz1 : w.heap.size + 1 + 1 ≤ w1.heap.size := Nat.le_trans (by go_size) hb1.size
      have hb2 : Below w.heap.size w w1 := Below.trans (by go_grown) (hb1.mono (by go_size))
      have HS := Lib.hid hown.sl
      clear hown hb1
      go_wp2_with fail
      refine (wrap_int _ _ _ _ _ _ HS.out hlim rfl).mono ?_
      rintro e w2 ⟨neg', ao', n', cap', zs', rfl, hint, hn', hb3⟩
      have hr2 := (hb3.block _ (by omega)).trans hr1
      obtain ⟨c0, c1, f0, f1⟩ := blk2 hr2
      have HI := Lib.hid (hint.stored hr2 (.bool neg') (.slice ao' n' cap'))
      have hb4 : Below w.heap.size w w2 := hb2.trans (hb3.mono hb2.size)
      clear hint hr2 hr1 hb3 hb2
      go_wp2
      refine bodyPost_ret (v := .agg #[.bool neg', .slice ao' n' cap']) (by simp [results, Try.results94, go_sem, c0, c1]) rfl ?_
      exact fin_int (by omega) hb4 HI.out (by rw [HP.out]; simp) (by omega)
end Go.Proofs.Ytpakfknacmcohaa
