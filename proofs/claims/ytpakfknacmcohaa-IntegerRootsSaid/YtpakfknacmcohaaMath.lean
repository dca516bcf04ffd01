/- Plain mathematics of limbs: digits to the base 2^32, the least significant first. It imports nothing of the translation. -/
import Derived.WalkKit
namespace Go.Proofs.Ytpakfknacmcohaa
def val : List Int → Int
  | [] => 0
  | z :: zs => z + 4294967296 * val zs
def Lim (zs : List Int) : Prop := ∀ z ∈ zs, 0 ≤ z ∧ z ≤ 4294967295
theorem val_append (a b : List Int) : val (a ++ b) = val a + 4294967296 ^ a.length * val b := by
  induction a with
  | nil => simp [val]
  | cons z zs ih =>
    simp only [List.cons_append, val, ih, List.length_cons, Int.pow_succ]
    grind
theorem val_snoc (a : List Int) (z : Int) : val (a ++ [z]) = val a + 4294967296 ^ a.length * z := by
  rw [val_append]; simp [val]
theorem pow_pos (n : Nat) : (0 : Int) < 4294967296 ^ n := Int.pow_pos (by omega)
theorem getD_lt {a : List Int} {n : Nat} (h : n < a.length) : a.getD n 0 = a[n] := by simp [List.getD, h]
theorem getD_ge {a : List Int} {n : Nat} (h : a.length ≤ n) : a.getD n 0 = 0 := by simp [List.getD, h]
theorem Lim_nil : Lim [] := by simp [Lim]
theorem Lim_append {a b : List Int} (ha : Lim a) (hb : Lim b) : Lim (a ++ b) := by
  intro z hz; rcases List.mem_append.1 hz with h | h
  · exact ha z h
  · exact hb z h
theorem Lim_snoc {a : List Int} {z : Int} (ha : Lim a) (h0 : 0 ≤ z) (h1 : z ≤ 4294967295) : Lim (a ++ [z]) :=
  Lim_append ha (by intro y hy; simp at hy; subst hy; exact ⟨h0, h1⟩)
theorem Lim_take {a : List Int} (ha : Lim a) (n : Nat) : Lim (a.take n) := fun z hz => ha z (List.mem_of_mem_take hz)
theorem Lim_drop {a : List Int} (ha : Lim a) (n : Nat) : Lim (a.drop n) := fun z hz => ha z (List.mem_of_mem_drop hz)
theorem Lim_getD {a : List Int} (ha : Lim a) (n : Nat) : 0 ≤ a.getD n 0 ∧ a.getD n 0 ≤ 4294967295 := by
  by_cases h : n < a.length
  · rw [getD_lt h]; exact ha _ (List.getElem_mem h)
  · rw [getD_ge (by omega)]; omega
theorem val_nonneg {zs : List Int} (h : Lim zs) : 0 ≤ val zs := by
  induction zs with
  | nil => simp [val]
  | cons z zs ih =>
    have h1 := h z (by simp)
    have h2 := ih (fun y hy => h y (by simp [hy]))
    simp only [val]; omega
theorem val_lt {zs : List Int} (h : Lim zs) : val zs < 4294967296 ^ zs.length := by
  induction zs with
  | nil => simp [val]
  | cons z zs ih =>
    have h1 := h z (by simp)
    have h2 := ih (fun y hy => h y (by simp [hy]))
    simp only [val, List.length_cons, Int.pow_succ]; omega
theorem take_succ_getD {a : List Int} {i : Nat} (h : i < a.length) : a.take (i + 1) = a.take i ++ [a.getD i 0] := by
  rw [List.take_succ_eq_append_getElem h, getD_lt h]
theorem val_take_succ (a : List Int) (i : Nat) : val (a.take (i + 1)) = val (a.take i) + 4294967296 ^ i * a.getD i 0 := by
  by_cases h : i < a.length
  · rw [take_succ_getD h, val_snoc, List.length_take, Nat.min_eq_left (by omega)]
  · rw [getD_ge (by omega), List.take_of_length_le (by omega), List.take_of_length_le (by omega)]; omega
/-- the top: how many limbs are left when zeros are cut off the first n -/
def tl (zs : List Int) : Nat → Nat
  | 0 => 0
  | n + 1 => if zs.getD n 0 = 0 then tl zs n else n + 1
theorem tl_le (zs : List Int) (n : Nat) : tl zs n ≤ n := by
  induction n with
  | zero => simp [tl]
  | succ n ih => unfold tl; split <;> omega
theorem tl_val (zs : List Int) (n : Nat) : val (zs.take (tl zs n)) = val (zs.take n) := by
  induction n with
  | zero => simp [tl]
  | succ n ih =>
    unfold tl; split
    · rw [ih, val_take_succ, ‹zs.getD n 0 = 0›]; omega
    · rfl
def trm (zs : List Int) : List Int := zs.take (tl zs zs.length)
theorem trm_val (zs : List Int) : val (trm zs) = val zs := by rw [trm, tl_val, List.take_length]
theorem trm_length (zs : List Int) : (trm zs).length = tl zs zs.length := by
  rw [trm, List.length_take]; have := tl_le zs zs.length; omega
/-- no zero at the top -/
def Top (zs : List Int) : Prop := zs = [] ∨ zs.getD (zs.length - 1) 0 ≠ 0
theorem tl_top (zs : List Int) (n : Nat) : tl zs n = 0 ∨ zs.getD (tl zs n - 1) 0 ≠ 0 := by
  induction n with
  | zero => simp [tl]
  | succ n ih =>
    unfold tl; split
    · exact ih
    · right; simpa using ‹¬ zs.getD n 0 = 0›
theorem trm_top (zs : List Int) : Top (trm zs) := by
  rcases tl_top zs zs.length with h | h
  · left; rw [trm, h]; simp
  · by_cases h0 : tl zs zs.length = 0
    · left; rw [trm, h0]; simp
    · right
      rw [trm_length]
      have := tl_le zs zs.length
      rw [trm, List.getD_eq_getElem?_getD, List.getElem?_take, if_pos (by omega), ← List.getD_eq_getElem?_getD]
      exact h
theorem trm_lim {zs : List Int} (h : Lim zs) : Lim (trm zs) := Lim_take h _
theorem snoc_of_pos {zs : List Int} (h : zs ≠ []) : ∃ ys, zs = ys ++ [zs.getD (zs.length - 1) 0] := by
  refine ⟨zs.dropLast, ?_⟩
  have hl : 0 < zs.length := List.length_pos_iff.2 h
  rw [getD_lt (by omega)]
  have := List.dropLast_concat_getLast h
  rw [List.getLast_eq_getElem] at this
  exact this.symm
theorem val_pos_of_top {zs : List Int} (hl : Lim zs) (ht : Top zs) (hne : zs ≠ []) : 4294967296 ^ (zs.length - 1) ≤ val zs := by
  obtain ⟨ys, hy⟩ := snoc_of_pos hne
  have hd := Lim_getD hl (zs.length - 1)
  rcases ht with h | h
  · exact absurd h hne
  · generalize zs.getD (zs.length - 1) 0 = d at *
    subst hy
    rw [val_snoc]
    have hy := val_nonneg (zs := ys) (fun z hz => hl z (by simp [hz]))
    have hp := pow_pos ys.length
    have hd1 : 1 ≤ d := by omega
    simp only [List.length_append, List.length_cons, List.length_nil, Nat.zero_add, Nat.add_sub_cancel]
    have : (4294967296 : Int) ^ ys.length * 1 ≤ 4294967296 ^ ys.length * d := Int.mul_le_mul_of_nonneg_left hd1 (by omega)
    omega
theorem pow_le {m n : Nat} (h : m ≤ n) : (4294967296 : Int) ^ m ≤ 4294967296 ^ n := by
  obtain ⟨k, rfl⟩ := Nat.exists_eq_add_of_le h
  rw [Int.pow_add]
  have h1 := pow_pos m
  have h2 := pow_pos k
  have : (4294967296 : Int) ^ m * 1 ≤ 4294967296 ^ m * 4294967296 ^ k := Int.mul_le_mul_of_nonneg_left (by omega) (by omega)
  omega
/-- limbs without a zero at the top are known by their value -/
theorem val_inj {a b : List Int} (la : Lim a) (lb : Lim b) (h : val a = val b) (hlen : a.length = b.length) : a = b := by
  induction a generalizing b with
  | nil => exact (List.eq_nil_of_length_eq_zero (by simpa using hlen.symm)).symm
  | cons x xs ih =>
    cases b with
    | nil => simp at hlen
    | cons y ys =>
      simp only [val] at h
      have hx := la x (by simp)
      have hy := lb y (by simp)
      have e1 : x = y := by omega
      have e2 : val xs = val ys := by omega
      rw [e1, ih (fun z hz => la z (by simp [hz])) (fun z hz => lb z (by simp [hz])) e2 (by simpa using hlen)]
theorem len_le_of_val {a b : List Int} (la : Lim a) (lb : Lim b) (ta : Top a) (h : val a ≤ val b) : a.length ≤ b.length := by
  by_cases hne : a = []
  · subst hne; simp
  · have h1 := val_pos_of_top la ta hne
    have h2 := val_lt lb
    have h3 : ¬ b.length ≤ a.length - 1 := fun hc => by have := pow_le hc; omega
    have : 0 < a.length := List.length_pos_iff.2 hne
    omega
theorem eq_of_val {a b : List Int} (la : Lim a) (lb : Lim b) (ta : Top a) (tb : Top b) (h : val a = val b) : a = b :=
  val_inj la lb h (Nat.le_antisymm (len_le_of_val la lb ta (by omega)) (len_le_of_val lb la tb (by omega)))
theorem sum_step {rs : List Int} {a b : List Int} {i : Nat} {c : Int} (hl : rs.length = i) (h : val rs + 4294967296 ^ i * c = val (a.take i) + val (b.take i)) :
    val (rs ++ [(a.getD i 0 + b.getD i 0 + c) % 4294967296]) + 4294967296 ^ (i + 1) * ((a.getD i 0 + b.getD i 0 + c) / 4294967296) = val (a.take (i + 1)) + val (b.take (i + 1)) := by
  rw [val_snoc, val_take_succ, val_take_succ, hl, Int.pow_succ]
  have := Int.emod_add_mul_ediv (a.getD i 0 + b.getD i 0 + c) 4294967296
  grind
theorem diff_step {rs : List Int} {a b : List Int} {i : Nat} {c t : Int} (hl : rs.length = i) (h : val rs - 4294967296 ^ i * c = val (a.take i) - val (b.take i)) (ht : t = a.getD i 0 - b.getD i 0 - c) :
    val (rs ++ [t % 4294967296]) - 4294967296 ^ (i + 1) * (- (t / 4294967296)) = val (a.take (i + 1)) - val (b.take (i + 1)) := by
  rw [val_snoc, val_take_succ, val_take_succ, hl, Int.pow_succ]
  have := Int.emod_add_mul_ediv t 4294967296
  grind

theorem val_set (zs : List Int) (i : Nat) (v : Int) (h : i < zs.length) : val (zs.set i v) = val zs + 4294967296 ^ i * (v - zs.getD i 0) := by
  induction zs generalizing i with
  | nil => simp at h
  | cons z zs ih =>
    cases i with
    | zero => simp [val]; omega
    | succ i =>
      simp only [List.set_cons_succ, val, ih i (by simpa using h), Int.pow_succ]
      have : (z :: zs).getD (i + 1) 0 = zs.getD i 0 := by simp [List.getD]
      rw [this]
      grind
theorem Lim_set {zs : List Int} (h : Lim zs) (i : Nat) {v : Int} (h0 : 0 ≤ v) (h1 : v ≤ 4294967295) : Lim (zs.set i v) := by
  intro z hz
  rcases List.mem_or_eq_of_mem_set hz with h' | rfl
  · exact h z h'
  · exact ⟨h0, h1⟩
theorem getD_set_ne {zs : List Int} {i j : Nat} {v : Int} (h : i ≠ j) : (zs.set i v).getD j 0 = zs.getD j 0 := by
  simp [List.getD, h]
theorem getD_set_eq {zs : List Int} {i : Nat} {v : Int} (h : i < zs.length) : (zs.set i v).getD i 0 = v := by
  simp [List.getD, h]
theorem val_replicate (n : Nat) : val (List.replicate n 0) = 0 := by
  induction n with
  | zero => rfl
  | succ n ih => simp [List.replicate_succ, val, ih]
theorem Lim_replicate (n : Nat) : Lim (List.replicate n 0) := by
  intro z hz; rw [List.eq_of_mem_replicate hz]; omega
theorem val_split (zs : List Int) (i : Nat) : val zs = val (zs.take i) + 4294967296 ^ (zs.take i).length * val (zs.drop i) := by
  rw [← val_append, List.take_append_drop]
theorem drop_getD {a : List Int} {i : Nat} (h : i < a.length) : a.drop i = a.getD i 0 :: a.drop (i + 1) := by
  rw [getD_lt h]; exact List.drop_eq_getElem_cons h
theorem val_cmp {a b : List Int} (la : Lim a) (lb : Lim b) {i : Nat} (hl : a.length = b.length) (hi : i < a.length) (hd : val (a.drop (i + 1)) = val (b.drop (i + 1))) (h : a.getD i 0 < b.getD i 0) : val a < val b := by
  rw [val_split a i, val_split b i, drop_getD hi, drop_getD (by omega : i < b.length)]
  simp only [val, hd, List.length_take, Nat.min_eq_left (by omega : i ≤ a.length), Nat.min_eq_left (by omega : i ≤ b.length)]
  have h1 := val_lt (Lim_take la i)
  have h2 := val_nonneg (Lim_take lb i)
  rw [List.length_take, Nat.min_eq_left (by omega)] at h1
  have h3 : (4294967296 : Int) ^ i * (a.getD i 0 + 4294967296 * val (b.drop (i + 1)) + 1) ≤ 4294967296 ^ i * (b.getD i 0 + 4294967296 * val (b.drop (i + 1))) :=
    Int.mul_le_mul_of_nonneg_left (by omega) (by have := pow_pos i; omega)
  rw [Int.mul_add _ _ 1] at h3
  omega
theorem val_lt_of_len {a b : List Int} (la : Lim a) (lb : Lim b) (tb : Top b) (h : a.length < b.length) : val a < val b := by
  have h1 := val_lt la
  have h2 := val_pos_of_top lb tb (by intro hb; subst hb; simp at h)
  have h3 := pow_le (show a.length ≤ b.length - 1 by omega)
  omega
/-- one step of the inner loop of a product -/
theorem prod_step {r : List Int} {i k : Nat} {S x c : Int} {b : List Int} (hk : i + k < r.length)
    (h : val r + 4294967296 ^ (i + k) * c = S + 4294967296 ^ i * (x * val (b.take k))) :
    val (r.set (i + k) ((x * b.getD k 0 + r.getD (i + k) 0 + c) % 4294967296)) + 4294967296 ^ (i + (k + 1)) * ((x * b.getD k 0 + r.getD (i + k) 0 + c) / 4294967296) = S + 4294967296 ^ i * (x * val (b.take (k + 1))) := by
  rw [val_set _ _ _ hk, val_take_succ, show i + (k + 1) = i + k + 1 by omega, Int.pow_succ, Int.pow_add]
  rw [Int.pow_add] at h
  have := Int.emod_add_mul_ediv (x * b.getD k 0 + r.getD (i + k) 0 + c) 4294967296
  grind
theorem prod_bound {x y r c : Int} (hx0 : 0 ≤ x) (hx : x ≤ 4294967295) (hy0 : 0 ≤ y) (hy : y ≤ 4294967295) (hr0 : 0 ≤ r) (hr : r ≤ 4294967295) (hc0 : 0 ≤ c) (hc : c ≤ 4294967295) :
    0 ≤ x * y ∧ x * y ≤ 18446744065119617025 ∧ 0 ≤ x * y + r + c ∧ x * y + r + c ≤ 18446744073709551615 ∧ 0 ≤ (x * y + r + c) / 4294967296 ∧ (x * y + r + c) / 4294967296 ≤ 4294967295 := by
  have h1 : 0 ≤ x * y := Int.mul_nonneg hx0 hy0
  have h2 : x * y ≤ 4294967295 * 4294967295 := Int.mul_le_mul hx hy hy0 (by omega)
  omega
theorem prod_end {r : List Int} {i m : Nat} {c x : Int} {a b : List Int} (hm : b.length = m) (hi : i + m < r.length) (h0 : r.getD (i + m) 0 = 0)
    (h : val r + 4294967296 ^ (i + m) * c = val (a.take i) * val b + 4294967296 ^ i * (x * val (b.take m))) (hx : x = a.getD i 0) :
    val (r.set (i + m) c) = val (a.take (i + 1)) * val b := by
  rw [val_set _ _ _ hi, h0, val_take_succ, ← hx]
  rw [List.take_of_length_le (l := b) (by omega)] at h
  grind
end Go.Proofs.Ytpakfknacmcohaa
