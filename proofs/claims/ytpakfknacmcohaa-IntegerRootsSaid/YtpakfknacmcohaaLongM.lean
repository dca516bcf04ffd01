/- Long division: the mathematics of a step. -/
import Derived.Test.YtpakfknacmcohaaGuess
import Derived.Test.YtpakfknacmcohaaNumB
namespace Go.Proofs.Ytpakfknacmcohaa
open Go.RowKit
set_option autoImplicit false
set_option linter.unusedVariables false

theorem top_form {ds : List Int} {k : Nat} (ld : Lim ds) (hl : ds.length = k + 2) : ∃ P f s v : Int, P = 4294967296 ^ k ∧ ds.getD (k + 1) 0 = f ∧ ds.getD k 0 = s ∧ 0 < P ∧ 0 ≤ v ∧ v < P ∧ val ds = v + P * (f * 4294967296 + s) := by
  refine ⟨_, _, _, val (ds.take k), rfl, rfl, rfl, pow_pos k, val_nonneg (Lim_take ld k), ?_, two_top hl⟩
  have := val_lt (Lim_take ld k)
  rwa [List.length_take, Nat.min_eq_left (by omega)] at this

/-- guess: the digit, or 1 more. -/
def RetDigit (w : World) (q : Int) (e : Ending) (w' : World) : Prop := ∃ d m, e = .returned (.int .u32 d) ∧ w' = w.drewN m ∧ 0 ≤ d ∧ d ≤ 4294967295 ∧ (d = q ∨ d = q + 1)

theorem guess_any (w : World) (ga ia k pc : Nat) (gb ib dc : Nat) (ps ds : List Int)
    (hp : Sl w (some ⟨ga, ia, none⟩) (k + 3) pc ps) (lp : Lim ps) (hd : Sl w (some ⟨gb, ib, none⟩) (k + 2) dc ds) (ld : Lim ds) (hk : k ≤ 1073741824) (hf : 2147483648 ≤ ds.getD (k + 1) 0) (hU : val ps < val ds * 4294967296) :
    Calls Try.prog 134 #[.slice (some ⟨ga, ia, none⟩) (k + 3) pc, .slice (some ⟨gb, ib, none⟩) (k + 2) dc] w (RetDigit w (val ps / val ds)) := by
  obtain ⟨P, f, s, v, hP, hff, hss, hP0, v0, v1, hV⟩ := top_form ld hd.len
  have h3 := three_top hp.len
  rw [← hP] at h3
  have u0 := val_nonneg (Lim_take lp k)
  have u1 := val_lt (Lim_take lp k)
  rw [List.length_take, hp.len, Nat.min_eq_left (by omega), ← hP] at u1
  have bf := Lim_getD ld (k + 1)
  have bs := Lim_getD ld k
  have b2 := Lim_getD lp (k + 2)
  have b1 := Lim_getD lp (k + 1)
  have b0 := Lim_getD lp k
  have hU0 := val_nonneg lp
  obtain ⟨p2, e2⟩ : ∃ x, ps.getD (k + 2) 0 = x := ⟨_, rfl⟩
  obtain ⟨p1, e1⟩ : ∃ x, ps.getD (k + 1) 0 = x := ⟨_, rfl⟩
  obtain ⟨p0, e0⟩ : ∃ x, ps.getD k 0 = x := ⟨_, rfl⟩
  obtain ⟨u, eu⟩ : ∃ x, val (ps.take k) = x := ⟨_, rfl⟩
  obtain ⟨U, hUU⟩ : ∃ x, val ps = x := ⟨_, rfl⟩
  obtain ⟨V, hVV⟩ : ∃ x, val ds = x := ⟨_, rfl⟩
  rw [hff] at bf hf
  rw [hss] at bs
  rw [e2] at b2 h3
  rw [e1] at b1 h3
  rw [e0] at b0 h3
  rw [eu] at u0 u1 h3
  rw [hUU] at hU hU0 h3
  rw [hVV] at hU hV
  have W0 : 0 < f * 4294967296 + s := by omega
  have hPW : P * 1 ≤ P * (f * 4294967296 + s) := Int.mul_le_mul_of_nonneg_left (by omega) (by omega)
  have hV0 : 0 < V := by omega
  have hVlo : P * (f * 4294967296 + s) ≤ V := by omega
  have hVhi : V ≤ P * (f * 4294967296 + s + 1) := by rw [Int.mul_add]; omega
  have hUlo : P * ((p2 * 4294967296 + p1) * 4294967296 + p0) ≤ U := by omega
  have hUhi : U < P * ((p2 * 4294967296 + p1) * 4294967296 + p0 + 1) := by rw [Int.mul_add P _ 1]; omega
  obtain ⟨q, hq⟩ : ∃ q, U / V = q := ⟨_, rfl⟩
  have hqV : q * V ≤ U := by rw [← hq]; exact Int.ediv_mul_le U (by omega)
  have hq0 : 0 ≤ q := by rw [← hq]; exact Int.ediv_nonneg hU0 (by omega)
  have hq1 : q ≤ 4294967295 := by
    have : U / V < 4294967296 := Int.ediv_lt_of_lt_mul hV0 (by rw [Int.mul_comm]; exact hU)
    omega
  have hp2 : p2 ≤ f := by
    have h1 : P * ((p2 * 4294967296 + p1) * 4294967296 + p0) < P * ((f * 4294967296 + s + 1) * 4294967296) := by
      have : V * 4294967296 ≤ P * (f * 4294967296 + s + 1) * 4294967296 := Int.mul_le_mul_of_nonneg_right hVhi (by omega)
      rw [Int.mul_assoc] at this
      omega
    have h2 := lt_of_mul hP0 h1
    omega
  have hqT := q_top hqV hq0 hP0 hVlo hUhi
  have hqt : q * f ≤ p2 * 4294967296 + p1 := by
    refine q_top (P := P * 4294967296) hqV hq0 (by omega) ?_ ?_
    · have e : P * 4294967296 * f = P * (f * 4294967296) := by rw [Int.mul_assoc, Int.mul_comm 4294967296 f]
      rw [e]
      have : P * (f * 4294967296) ≤ P * (f * 4294967296 + s) := Int.mul_le_mul_of_nonneg_left (by omega) (by omega)
      omega
    · have e : P * 4294967296 * (p2 * 4294967296 + p1 + 1) = P * ((p2 * 4294967296 + p1 + 1) * 4294967296) := by rw [Int.mul_assoc, Int.mul_comm 4294967296]
      rw [e]
      have : P * ((p2 * 4294967296 + p1) * 4294967296 + p0 + 1) ≤ P * ((p2 * 4294967296 + p1 + 1) * 4294967296) := Int.mul_le_mul_of_nonneg_left (by omega) (by omega)
      omega
  rw [hUU, hVV, hq]
  refine (guess_walk w ga ia k pc gb ib dc ps ds f s p2 p1 p0 q hp hd (by omega) hff hss e2 e1 e0 ⟨hf, bf.2⟩ bs ⟨b2.1, hp2⟩ b1 b0 hq0 hq1 hqT hqt).mono ?_
  rintro e w' ⟨d, m, rfl, rfl, d0, d1, hqd, hdT⟩
  have hd1 := d_ok hV0 hdT d0 (by omega) hP0 hVhi hUlo hU0
  rw [hq] at hd1
  exact ⟨d, m, rfl, rfl, d0, d1, by omega⟩

theorem Same.take {a b : List Int} {i k : Nat} (h : Same a b i k) : b.take i = a.take i := by
  apply List.ext_getElem (by rw [List.length_take, List.length_take, h.1])
  intro j h1 h2
  rw [List.length_take] at h1 h2
  rw [List.getElem_take, List.getElem_take]
  have := h.2 j (.inl (by omega))
  rwa [getD_lt (by omega), getD_lt (by omega)] at this
theorem Same.drop {a b : List Int} {i k : Nat} (h : Same a b i k) : b.drop (i + k) = a.drop (i + k) := by
  apply List.ext_getElem (by rw [List.length_drop, List.length_drop, h.1])
  intro j h1 h2
  rw [List.length_drop] at h1 h2
  rw [List.getElem_drop, List.getElem_drop]
  have := h.2 (i + k + j) (.inr (by omega))
  rwa [getD_lt (by omega), getD_lt (by omega)] at this
theorem Same.trans {a b c : List Int} {i k : Nat} (h : Same a b i k) (h2 : Same b c i k) : Same a c i k := ⟨h2.1.trans h.1, fun j hj => (h2.2 j hj).trans (h.2 j hj)⟩

theorem drop_seg {R : List Int} {i k : Nat} (h : i + k ≤ R.length) : val (R.drop i) = val (seg R i k) + 4294967296 ^ k * val (R.drop (i + k)) := by
  have := val_split (R.drop i) k
  rw [List.length_take, List.length_drop, Nat.min_eq_left (by omega), List.drop_drop] at this
  exact this

/-- The rest above a place is less than the divisor: there is nothing beyond m limbs of it. -/
theorem rest_top {R : List Int} {i m : Nat} {V : Int} (lR : Lim R) (h : i + 1 + m ≤ R.length) (hV : V < 4294967296 ^ m) (hlt : val (R.drop (i + 1)) < V) :
    val (R.drop (i + (m + 1))) = 0 ∧ val (R.drop i) = val (seg R i (m + 1)) ∧ val (seg R i (m + 1)) < V * 4294967296 := by
  have h1 := drop_seg (R := R) (i := i + 1) (k := m) h
  have h2 := drop_seg (R := R) (i := i) (k := m + 1) (by omega)
  have e : i + 1 + m = i + (m + 1) := by omega
  rw [e] at h1
  have n1 := val_nonneg (seg_lim lR (i + 1) m)
  have n2 := val_nonneg (Lim_drop lR (i + (m + 1)))
  have hz : val (R.drop (i + (m + 1))) = 0 := by
    rcases Int.lt_or_eq_of_le n2 with h3 | h3
    · exfalso
      have : 4294967296 ^ m * 1 ≤ 4294967296 ^ m * val (R.drop (i + (m + 1))) := Int.mul_le_mul_of_nonneg_left (by omega) (Int.le_of_lt (pow_pos m))
      omega
    · exact h3.symm
  refine ⟨hz, by rw [h2, hz]; omega, ?_⟩
  have h3 : val (R.drop i) = R.getD i 0 + 4294967296 * val (R.drop (i + 1)) := by rw [drop_getD (by omega)]; simp [val]
  have h4 := Lim_getD lR i
  rw [hz, Int.mul_zero, Int.add_zero] at h2
  omega

/-- One step of long division. -/
theorem long_step {R R' Q : List Int} {i m : Nat} {V A : Int} (lR : Lim R) (h : i + 1 + m ≤ R.length) (hi : i < Q.length) (hV0 : 0 < V) (hV : V < 4294967296 ^ m) (hlt : val (R.drop (i + 1)) < V) (hA : val R + V * (4294967296 ^ (i + 1) * val (Q.drop (i + 1))) = A)
    (hs : Same R R' i (m + 1)) (hr : val (seg R' i (m + 1)) = val (seg R i (m + 1)) % V) :
    val R' + V * (4294967296 ^ i * val ((Q.set i (val (seg R i (m + 1)) / V)).drop i)) = A ∧ val (R'.drop i) < V := by
  obtain ⟨hz, hU, -⟩ := rest_top lR h hV hlt
  have h2 := drop_seg (R := R') (i := i) (k := m + 1) (by rw [hs.1]; omega)
  rw [hs.drop, hz, Int.mul_zero, Int.add_zero, hr] at h2
  refine ⟨?_, by rw [h2]; exact Int.emod_lt_of_pos _ hV0⟩
  have h3 := val_split R i
  have h4 := val_split R' i
  rw [List.length_take, Nat.min_eq_left (by omega)] at h3
  rw [List.length_take, hs.1, Nat.min_eq_left (by omega), hs.take] at h4
  have h5 : (Q.set i (val (seg R i (m + 1)) / V)).drop i = (val (seg R i (m + 1)) / V) :: Q.drop (i + 1) := by
    rw [List.drop_eq_getElem_cons (by rw [List.length_set]; exact hi), List.getElem_set_self, List.drop_set_of_lt (by omega)]
  rw [h5]
  simp only [val]
  rw [h4, h2, ← hA, h3, hU, Int.pow_succ]
  have := Int.emod_add_mul_ediv (val (seg R i (m + 1))) V
  grind

theorem digit_right {U V M d q : Int} (hU0 : 0 ≤ U) (hV0 : 0 < V) (hq : U / V = q) (hd : d = q ∨ d = q + 1) (hVM : V ≤ M) (hn : ¬ U < d * V) : d = q ∧ (U - d * V) % M = U % V := by
  have h1 := Int.emod_add_mul_ediv U V
  have h2 := Int.emod_lt_of_pos U hV0
  have h3 := Int.emod_nonneg U (show V ≠ 0 by omega)
  rw [hq] at h1
  rcases hd with rfl | rfl
  · refine ⟨rfl, ?_⟩
    rw [show U - d * V = U % V by rw [Int.mul_comm d V]; omega, Int.emod_eq_of_lt h3 (by omega)]
  · exfalso
    apply hn
    rw [Int.add_mul, Int.mul_comm q V]
    omega
theorem digit_more {U V M d q : Int} (hU0 : 0 ≤ U) (hV0 : 0 < V) (hq : U / V = q) (hd : d = q ∨ d = q + 1) (hVM : V ≤ M) (hn : U < d * V) : d - 1 = q ∧ ((U - d * V) % M + V) % M = U % V := by
  have h1 := Int.emod_add_mul_ediv U V
  have h2 := Int.emod_lt_of_pos U hV0
  have h3 := Int.emod_nonneg U (show V ≠ 0 by omega)
  rw [hq] at h1
  rcases hd with rfl | rfl
  · exfalso
    rw [Int.mul_comm d V] at hn
    omega
  · refine ⟨by omega, ?_⟩
    rw [Int.emod_add_emod, show U - (q + 1) * V + V = U % V by rw [Int.add_mul, Int.mul_comm q V]; omega, Int.emod_eq_of_lt h3 (by omega)]
end Go.Proofs.Ytpakfknacmcohaa
