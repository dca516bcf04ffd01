/- Plain mathematics of digits in a radix, the least significant one first. -/
import Derived.Test.YtpakfknacmcohaaMath
namespace Go.Proofs.Ytpakfknacmcohaa
set_option autoImplicit false
set_option linter.unusedVariables false

/-- The value of digits to the base r. -/
def dval (r : Int) : List Int → Int
  | [] => 0
  | d :: ds => d + r * dval r ds
def Dig (r : Int) (ds : List Int) : Prop := ∀ d ∈ ds, 0 ≤ d ∧ d < r
theorem dval_append (r : Int) (a b : List Int) : dval r (a ++ b) = dval r a + r ^ a.length * dval r b := by
  induction a with
  | nil => simp [dval]
  | cons z zs ih =>
    simp only [List.cons_append, dval, ih, List.length_cons, Int.pow_succ]
    grind
theorem dval_snoc (r : Int) (a : List Int) (d : Int) : dval r (a ++ [d]) = dval r a + r ^ a.length * d := by
  rw [dval_append]; simp [dval]
theorem Dig_snoc {r : Int} {a : List Int} {d : Int} (h : Dig r a) (h0 : 0 ≤ d) (h1 : d < r) : Dig r (a ++ [d]) := by
  intro z hz
  rcases List.mem_append.1 hz with hz | hz
  · exact h z hz
  · simp at hz; subst hz; exact ⟨h0, h1⟩
theorem Dig_take {r : Int} {a : List Int} (h : Dig r a) (n : Nat) : Dig r (a.take n) := fun z hz => h z (List.mem_of_mem_take hz)
theorem dval_nonneg {r : Int} (hr : 0 ≤ r) {ds : List Int} (h : Dig r ds) : 0 ≤ dval r ds := by
  induction ds with
  | nil => simp [dval]
  | cons z zs ih =>
    have h1 := h z (by simp)
    have h2 := ih (fun y hy => h y (by simp [hy]))
    simp only [dval]
    have := Int.mul_nonneg hr h2
    omega
theorem rpow_pos {r : Int} (hr : 2 ≤ r) (n : Nat) : 0 < r ^ n := Int.pow_pos (by omega)
theorem two_le_rpow {r : Int} (hr : 2 ≤ r) (n : Nat) : (2 : Int) ^ n ≤ r ^ n := by
  induction n with
  | zero => simp
  | succ n ih =>
    rw [Int.pow_succ, Int.pow_succ]
    exact Int.mul_le_mul ih hr (by omega) (by have := rpow_pos hr n; omega)
theorem lt_of_two_pow {a b : Nat} (h : (2 : Int) ^ a < 2 ^ b) : a < b := by
  rcases Nat.lt_or_ge a b with h1 | h1
  · exact h1
  · obtain ⟨k, rfl⟩ := Nat.exists_eq_add_of_le h1
    rw [Int.pow_add] at h
    have h2 : (0 : Int) < 2 ^ b := Int.pow_pos (by omega)
    have h3 : (0 : Int) < 2 ^ k := Int.pow_pos (by omega)
    have h4 : (2 : Int) ^ b * 1 ≤ 2 ^ b * 2 ^ k := Int.mul_le_mul_of_nonneg_left (by omega) (by omega)
    omega
theorem base_pow (n : Nat) : (4294967296 : Int) ^ n = 2 ^ (32 * n) := by
  rw [Int.pow_mul]; rfl
theorem dval_take_succ (r : Int) (a : List Int) (i : Nat) : dval r (a.take (i + 1)) = dval r (a.take i) + r ^ i * a.getD i 0 := by
  by_cases h : i < a.length
  · rw [take_succ_getD h, dval_snoc, List.length_take, Nat.min_eq_left (by omega)]
  · rw [getD_ge (by omega), List.take_of_length_le (by omega), List.take_of_length_le (by omega)]; omega

/-- The digits of v to the base r, the least significant one first. -/
def digs (r v : Nat) : List Int := if h : v = 0 ∨ r < 2 then [] else ((v % r : Nat) : Int) :: digs r (v / r)
termination_by v
decreasing_by exact Nat.div_lt_self (by omega) (by omega)

theorem digs_zero (r : Nat) : digs r 0 = [] := by rw [digs]; simp
theorem digs_pos {r v : Nat} (hr : 2 ≤ r) (hv : v ≠ 0) : digs r v = ((v % r : Nat) : Int) :: digs r (v / r) := by
  rw [digs, dif_neg (by omega)]

/-- Digits without a zero at the top are those of their value. -/
theorem digs_of {r : Nat} (hr : 2 ≤ r) {ds : List Int} (h : Dig r ds) (ht : ds = [] ∨ ds.getD (ds.length - 1) 0 ≠ 0) : ∃ v : Nat, dval r ds = v ∧ digs r v = ds ∧ (ds ≠ [] → v ≠ 0) := by
  induction ds with
  | nil => exact ⟨0, rfl, digs_zero r, fun h => absurd rfl h⟩
  | cons z zs ih =>
    have hz := h z (by simp)
    obtain ⟨k, rfl⟩ := Int.eq_ofNat_of_zero_le hz.1
    obtain ⟨v, hv, hd, hne⟩ := ih (fun y hy => h y (by simp [hy])) (by
      rcases ht with ht | ht
      · simp at ht
      · cases zs with
        | nil => exact .inl rfl
        | cons y ys => right; simpa [List.getD] using ht)
    have hkr : k < r := by omega
    have hpos : k + r * v ≠ 0 := by
      intro h0
      have hk0 : k = 0 := by omega
      have hv0 : v = 0 := by
        have : r * v = 0 := by omega
        rcases Nat.mul_eq_zero.1 this with h1 | h1
        · omega
        · exact h1
      have hzs : zs = [] := by
        rcases Classical.em (zs = []) with h1 | h1
        · exact h1
        · exact absurd hv0 (hne h1)
      rcases ht with ht | ht
      · simp at ht
      · rw [hzs, hk0] at ht; simp [List.getD] at ht
    refine ⟨k + r * v, ?_, ?_, fun _ => hpos⟩
    · simp only [dval, hv]; simp
    · rw [digs_pos hr hpos, Nat.add_mul_mod_self_left, Nat.mod_eq_of_lt hkr, Nat.add_mul_div_left _ _ (by omega), Nat.div_eq_of_lt hkr, Nat.zero_add, hd]

/-- A digit's letter. -/
def letter (d : Int) : Int := if d < 10 then 48 + d else 55 + d
theorem letter_range {d : Int} (h0 : 0 ≤ d) (h1 : d < 36) : 48 ≤ letter d ∧ letter d ≤ 90 := by unfold letter; split <;> omega
theorem letter_zero {d : Int} (h0 : 0 ≤ d) : letter d = 48 ↔ d = 0 := by unfold letter; split <;> omega
/-- The text of x to the base r: the sign, and the digits, the most significant one first. -/
def textOf (r : Nat) (x : Int) : List Int := if x = 0 then [48] else (if x < 0 then [45] else []) ++ ((digs r x.natAbs).map letter).reverse
end Go.Proofs.Ytpakfknacmcohaa
