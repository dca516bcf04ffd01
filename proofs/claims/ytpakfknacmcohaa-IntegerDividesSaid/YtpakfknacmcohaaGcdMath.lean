/- Lehmer's steps: what the cofactors of Euclid's algorithm on the top words say of the whole numbers. Plain mathematics. -/
import Derived.WalkKit
namespace Go.Proofs.Ytpakfknacmcohaa

/-- The head of the loop: the remainders x and y of x0 and y0, with their cofactors; s is 1 or -1. -/
structure Euc (x0 y0 x y u1 v1 u2 v2 : Nat) (s : Int) : Prop where
  le : y ≤ x
  hx : (x : Int) = s * ((u1 : Int) * x0 - v1 * y0)
  hy : (y : Int) = s * ((v2 : Int) * y0 - u2 * x0)
  a0 : x * v2 + y * v1 = x0
  b0 : x * u2 + y * u1 = y0
  det : (u1 : Int) * v2 - (v1 : Int) * u2 = s
  sgn : s = 1 ∨ s = -1
  uv2 : u2 ≤ v2
  uv : u1 + u2 ≤ v1 + v2
  u : 1 ≤ u1 + u2
  v : 1 ≤ v2
  two : v1 = 0 ∨ 1 ≤ u2
  mv : v1 ≤ v2
  mu : u1 ≤ v2

theorem Euc.start {x0 y0 : Nat} (h : y0 ≤ x0) : Euc x0 y0 x0 y0 1 0 0 1 1 :=
  ⟨h, by simp, by simp, by simp, by simp, by simp, .inl rfl, by omega, by omega, by omega, by omega, .inl rfl, by omega, by omega⟩

theorem Euc.step {x0 y0 x y u1 v1 u2 v2 : Nat} {s : Int} (h : Euc x0 y0 x y u1 v1 u2 v2 s) (hy : 1 ≤ y) : Euc x0 y0 y (x % y) u2 v2 (u1 + x / y * u2) (v1 + x / y * v2) (-s) := by
  have hdm := Nat.div_add_mod x y
  have hq : 1 ≤ x / y := Nat.div_pos h.le (by omega)
  obtain ⟨q, hq'⟩ : ∃ q, x / y = q := ⟨_, rfl⟩
  obtain ⟨r, hr'⟩ : ∃ r, x % y = r := ⟨_, rfl⟩
  have hrl : r < y := by rw [← hr']; exact Nat.mod_lt _ (by omega)
  rw [hq', hr'] at hdm
  rw [hq'] at hq
  rw [hq', hr']
  have hxI : (x : Int) = q * y + r := by rw [← hdm]; push_cast; grind
  have hqu : u2 ≤ q * u2 := Nat.le_mul_of_pos_left _ hq
  have hqv : v2 ≤ q * v2 := Nat.le_mul_of_pos_left _ hq
  obtain ⟨p, rfl⟩ : ∃ p, q = p + 1 := ⟨q - 1, by omega⟩
  have hpu : p * u2 ≤ p * v2 := Nat.mul_le_mul_left _ h.uv2
  have e1 : (p + 1) * u2 = p * u2 + u2 := Nat.succ_mul ..
  have e2 : (p + 1) * v2 = p * v2 + v2 := Nat.succ_mul ..
  have h1 := h.hx
  have h2 := h.hy
  have h3 := h.det
  have h4 := h.uv
  have h5 := h.u
  have h6 := h.uv2
  refine ⟨by omega, by rw [h2]; grind, ?_, ?_, ?_, ?_, by rcases h.sgn with g | g <;> simp [g], by omega, by omega, by omega, by omega, .inr (by omega), by omega, by omega⟩
  · have : (r : Int) = x - ((p + 1 : Nat) : Int) * y := by omega
    rw [this, h1, h2]
    push_cast
    grind
  · rw [← h.a0, ← hdm]
    grind
  · rw [← h.b0, ← hdm]
    grind
  · push_cast
    grind

/-- The condition at the head: the whole numbers' remainders are in order. -/
theorem Euc.whole {x0 y0 x y u1 v1 u2 v2 : Nat} {s : Int} (h : Euc x0 y0 x y u1 v1 u2 v2 s) (c1 : v2 ≤ y) (c2 : v1 + v2 ≤ x - y) {A B E a b : Nat} (hA : A = x0 * E + a) (hB : B = y0 * E + b) (ha : a < E) (hb : b < E) :
    ∃ X Y : Nat, (X : Int) = s * ((u1 : Int) * A - v1 * B) ∧ (Y : Int) = s * ((v2 : Int) * B - u2 * A) ∧ 0 < Y ∧ Y < X ∧ v2 * X + v1 * Y = A ∧ u2 * X + u1 * Y = B := by
  have h1 := h.hx
  have h2 := h.hy
  obtain ⟨Xi, hXi⟩ : ∃ Xi : Int, Xi = s * ((u1 : Int) * A - v1 * B) := ⟨_, rfl⟩
  obtain ⟨Yi, hYi⟩ : ∃ Yi : Int, Yi = s * ((v2 : Int) * B - u2 * A) := ⟨_, rfl⟩
  have hX2 : Xi = x * E + s * ((u1 : Int) * a - v1 * b) := by rw [hXi, h1, hA, hB]; push_cast; grind
  have hY2 : Yi = y * E + s * ((v2 : Int) * b - u2 * a) := by rw [hYi, h2, hA, hB]; push_cast; grind
  have hEy : (v2 : Int) * E ≤ y * E := Int.mul_le_mul_of_nonneg_right (by omega) (by omega)
  have hEx : ((v1 : Int) + v2) * E ≤ ((x : Int) - y) * E := Int.mul_le_mul_of_nonneg_right (by have := h.le; omega) (by omega)
  have n1 : (0 : Int) ≤ u1 * a := Int.mul_nonneg (by omega) (by omega)
  have n2 : (0 : Int) ≤ u2 * a := Int.mul_nonneg (by omega) (by omega)
  have n3 : (0 : Int) ≤ v1 * b := Int.mul_nonneg (by omega) (by omega)
  have n4 : (0 : Int) ≤ v2 * b := Int.mul_nonneg (by omega) (by omega)
  have m2 : (u2 : Int) * a ≤ u2 * E := Int.mul_le_mul_of_nonneg_left (by omega) (by omega)
  have m4 : (v2 : Int) * b < v2 * E := Int.mul_lt_mul_of_pos_left (by omega) (by have := h.v; omega)
  have m24 : (u2 : Int) * E ≤ v2 * E := Int.mul_le_mul_of_nonneg_right (by have := h.uv2; omega) (by omega)
  have mv : ((v1 : Int) + v2) * b < ((v1 : Int) + v2) * E := Int.mul_lt_mul_of_pos_left (by omega) (by have := h.v; omega)
  have mu : ((u1 : Int) + u2) * a < ((u1 : Int) + u2) * E := Int.mul_lt_mul_of_pos_left (by omega) (by have := h.u; omega)
  have muv : ((u1 : Int) + u2) * E ≤ ((v1 : Int) + v2) * E := Int.mul_le_mul_of_nonneg_right (by have := h.uv; omega) (by omega)
  have hY0 : 0 < Yi := by
    rcases h.sgn with g | g
    · rw [hY2, g]
      rcases Nat.eq_zero_or_pos u2 with hu | hu
      · rw [hu]
        have : (0 : Int) < v2 * E := Int.mul_pos (by have := h.v; omega) (by omega)
        simp
        omega
      · have : (u2 : Int) * a < u2 * E := Int.mul_lt_mul_of_pos_left (by omega) (by omega)
        omega
    · rw [hY2, g]; omega
  have hXY : Yi < Xi := by
    rcases h.sgn with g | g
    · rw [hX2, hY2, g]
      grind
    · rw [hX2, hY2, g]
      grind
  obtain ⟨X, rfl⟩ := Int.eq_ofNat_of_zero_le (show 0 ≤ Xi by omega)
  obtain ⟨Y, rfl⟩ := Int.eq_ofNat_of_zero_le (show 0 ≤ Yi by omega)
  have hd := h.det
  have ss : s * s = 1 := by rcases h.sgn with g | g <;> rw [g] <;> rfl
  refine ⟨X, Y, hXi, hYi, by omega, by omega, ?_, ?_⟩
  · have : (v2 : Int) * X + v1 * Y = A := by
      rw [hXi, hYi]
      have e : (v2 : Int) * (s * ((u1 : Int) * A - v1 * B)) + v1 * (s * ((v2 : Int) * B - u2 * A)) = s * ((u1 : Int) * v2 - (v1 : Int) * u2) * A := by grind
      rw [e, hd, ss, Int.one_mul]
    exact_mod_cast this
  · have : (u2 : Int) * X + u1 * Y = B := by
      rw [hXi, hYi]
      have e : (u2 : Int) * (s * ((u1 : Int) * A - v1 * B)) + u1 * (s * ((v2 : Int) * B - u2 * A)) = s * ((u1 : Int) * v2 - (v1 : Int) * u2) * B := by grind
      rw [e, hd, ss, Int.one_mul]
    exact_mod_cast this

/-- Whole steps keep the greatest common divisor. -/
theorem whole_gcd {X Y A B u1 v1 u2 v2 : Nat} {s : Int} (hX : (X : Int) = s * ((u1 : Int) * A - v1 * B)) (hY : (Y : Int) = s * ((v2 : Int) * B - u2 * A)) (hA : v2 * X + v1 * Y = A) (hB : u2 * X + u1 * Y = B) : Nat.gcd X Y = Nat.gcd A B := by
  apply Nat.dvd_antisymm
  · apply Nat.dvd_gcd
    · rw [← hA]
      exact Nat.dvd_add (Nat.dvd_trans (Nat.gcd_dvd_left _ _) (Nat.dvd_mul_left _ _)) (Nat.dvd_trans (Nat.gcd_dvd_right _ _) (Nat.dvd_mul_left _ _))
    · rw [← hB]
      exact Nat.dvd_add (Nat.dvd_trans (Nat.gcd_dvd_left _ _) (Nat.dvd_mul_left _ _)) (Nat.dvd_trans (Nat.gcd_dvd_right _ _) (Nat.dvd_mul_left _ _))
  · apply Nat.dvd_gcd
    · have h : ((Nat.gcd A B : Nat) : Int) ∣ (X : Int) := by
        rw [hX]
        exact Int.dvd_trans (Int.dvd_sub (Int.dvd_trans (Int.natCast_dvd_natCast.2 (Nat.gcd_dvd_left A B)) (Int.dvd_mul_left _ _)) (Int.dvd_trans (Int.natCast_dvd_natCast.2 (Nat.gcd_dvd_right A B)) (Int.dvd_mul_left _ _))) (Int.dvd_mul_left _ _)
      exact Int.natCast_dvd_natCast.1 h
    · have h : ((Nat.gcd A B : Nat) : Int) ∣ (Y : Int) := by
        rw [hY]
        exact Int.dvd_trans (Int.dvd_sub (Int.dvd_trans (Int.natCast_dvd_natCast.2 (Nat.gcd_dvd_right A B)) (Int.dvd_mul_left _ _)) (Int.dvd_trans (Int.natCast_dvd_natCast.2 (Nat.gcd_dvd_left A B)) (Int.dvd_mul_left _ _))) (Int.dvd_mul_left _ _)
      exact Int.natCast_dvd_natCast.1 h

/-- The condition bounds the factors. -/
theorem Euc.small {x0 y0 x y u1 v1 u2 v2 : Nat} {s : Int} (h : Euc x0 y0 x y u1 v1 u2 v2 s) (c1 : v2 ≤ y) (hx0 : x0 < 18446744073709551616) : v2 < 4294967296 := by
  have h1 : v2 * v2 ≤ x * v2 := Nat.mul_le_mul_right _ (Nat.le_trans c1 h.le)
  have h2 := h.a0
  by_cases hh : v2 < 4294967296
  · exact hh
  · have : 4294967296 * 4294967296 ≤ v2 * v2 := Nat.mul_le_mul (by omega) (by omega)
    omega
/-- No product or sum of the loop is too large. -/
theorem Euc.fits {x0 y0 x y u1 v1 u2 v2 : Nat} {s : Int} (h : Euc x0 y0 x y u1 v1 u2 v2 s) (hx : 1 ≤ x) : v2 ≤ x0 ∧ u2 ≤ y0 ∧ (1 ≤ y → v1 ≤ x0 ∧ u1 ≤ y0) := by
  have h1 := h.a0
  have h2 := h.b0
  have h3 : v2 ≤ x * v2 := Nat.le_mul_of_pos_left _ hx
  have h4 : u2 ≤ x * u2 := Nat.le_mul_of_pos_left _ hx
  refine ⟨by omega, by omega, fun hy => ?_⟩
  have h5 : v1 ≤ y * v1 := Nat.le_mul_of_pos_left _ hy
  have h6 : u1 ≤ y * u1 := Nat.le_mul_of_pos_left _ hy
  exact ⟨by omega, by omega⟩
end Go.Proofs.Ytpakfknacmcohaa
