/- What IntegerRoots and IntegerPowers ask of Power and Root. -/
import Derived.Test.YtpakfknacmcohaaRootInt
import Derived.Test.YtpakfknacmcohaaBoxes
namespace Go.Proofs.Ytpakfknacmcohaa
open Go.RowKit
set_option autoImplicit false
set_option linter.unusedVariables false

/-- One integer was returned in a row. -/
def RetMade1 (w : World) (x : Num) (X : Int) (e : Ending) (w' : World) : Prop :=
  ∃ (g cap : Nat) (r : Num) (zr : List Int), e = .returned (.slice (some ⟨g, 0, none⟩) 1 cap) ∧ 1 ≤ cap ∧ cap ≤ maxLen ∧
    (w'.cell? ⟨g, 0, none⟩ = some (.bool r.neg) ∧ w'.cell? ⟨g, 1, none⟩ = some (.slice r.ao r.n r.cap)) ∧
    IntAt w' r.neg r.ao r.n r.cap zr X ∧ r.n ≤ x.n ∧ Below w.heap.size w w'

theorem made1 (w : World) (b : Nat) (x : Num) (X : Int) (zx : List Int) (h : w.heap[b]? = some (.cells #[.bool x.neg, .slice x.ao x.n x.cap] 24 (0, 0)))
    (hx : Sl w x.ao x.n x.cap zx ∧ Lim zx ∧ X = sgn x.neg (val zx) ∧ x.n ≤ 34359738368) :
    Calls Try.prog 64 #[.slice (some ⟨b, 0, none⟩) 1 1] w (RetMade1 w x X) := by
  have hm := made_many w b 1 [x] (fun _ => X) (fun _ => zx) (nums_one h) (Array.getElem?_eq_some_iff.1 h).1 (by simp) (by omega) ?_
  · refine hm.mono ?_
    rintro e w' ⟨ao, cap, rs, rfl, hl, hown, hall, hb⟩
    match rs, hl with
    | [r], _ =>
      obtain ⟨h1, zr, h2⟩ := hall 0 r x rfl rfl
      rcases hown.2 with ⟨hv, h0⟩ | ⟨g, c, cur, hv, hbg, hg, hnc, hcm, hcs, htk⟩
      · simp at h0
      · simp at hv
        obtain ⟨rfl, rfl⟩ := hv
        have hcell : ∀ i v, (flat [r])[i]? = some v → w'.cell? ⟨g, i, none⟩ = some v := by
          intro i v hv
          rw [← htk] at hv
          have hi : i < [x].length * 2 := by
            have := (List.getElem?_eq_some_iff.1 hv).1
            simp at this
            simp
            omega
          rw [List.getElem?_take, if_pos hi] at hv
          rw [cell_of_row _ g i cur _ (0, 0) hg]
          simpa using hv
        refine ⟨g, cap, r, zr, rfl, hnc, hcm, ⟨hcell 0 _ rfl, hcell 1 _ rfl⟩, by simpa using h2, h1, hb⟩
  · intro i u hu
    match i, hu with
    | 0, hu => simp at hu; subst hu; simpa using hx

theorem pow_fits {M s k : Nat} {x : Int} (h : x.natAbs < 2 ^ s) (hk : s * k < M) : blen (cpl (x ^ k)).toNat ≤ M := by
  rw [blen_le_iff]
  have h1 : (x ^ k).natAbs ≤ 2 ^ (s * k) := by
    rw [Int.natAbs_pow, Nat.pow_mul]
    exact Nat.pow_le_pow_left (Nat.le_of_lt h) k
  have h2 : 2 ^ (s * k) < 2 ^ M := Nat.pow_lt_pow_right (by omega) hk
  obtain ⟨P, hP⟩ : ∃ P, 2 ^ M = P := ⟨_, rfl⟩
  rw [hP] at h2 ⊢
  obtain ⟨y, hy⟩ : ∃ y, x ^ k = y := ⟨_, rfl⟩
  rw [hy] at h1 ⊢
  unfold cpl
  split <;> omega

theorem abs_bits {w : World} {nx : Bool} {ao : Option Addr} {n cap : Nat} {xs : List Int} {x : Int} (hx : IntAt w nx ao n cap xs x) : x.natAbs < 2 ^ (32 * n) := by
  have h1 := hx.abs
  have h2 := len_of_blen hx.lim hx.top
  rw [hx.sl.len] at h2
  have h3 := blen_lt (val xs).toNat
  have h4 : 2 ^ blen (val xs).toNat ≤ 2 ^ (32 * n) := Nat.pow_le_pow_right (by omega) h2
  omega

theorem two_base (k : Nat) : (4294967296 : Int) ^ k = ((2 ^ (32 * k) : Nat) : Int) := by rw [base_pow]; simp

/-- The limbs of a power. -/
theorem pow_len {w : World} {ny : Bool} {bo : Option Addr} {m cb : Nat} {ys : List Int} {x : Int} {n k : Nat} (hy : IntAt w ny bo m cb ys (x ^ k)) (h : x.natAbs < 2 ^ (32 * n)) : m ≤ n * k + 1 := by
  have h1 := hy.abs
  rw [Int.natAbs_pow] at h1
  have h2 : x.natAbs ^ k ≤ 2 ^ (32 * (n * k)) := by
    rw [← Nat.mul_assoc, Nat.pow_mul]
    exact Nat.pow_le_pow_left (Nat.le_of_lt h) k
  have h3 : 2 ^ (32 * (n * k)) < 2 ^ (32 * (n * k + 1)) := Nat.pow_lt_pow_right (by omega) (by omega)
  have h4 := val_nonneg hy.lim
  have h5 : val ys < 4294967296 ^ (n * k + 1) := by
    rw [two_base]
    obtain ⟨P, hP⟩ : ∃ P, 2 ^ (32 * (n * k + 1)) = P := ⟨_, rfl⟩
    rw [hP] at h3 ⊢
    omega
  have := len_of_val hy.lim hy.top h5
  rwa [hy.sl.len] at this

/-- A power within reach is returned, with the code 0. -/
theorem pow_in (w : World) (nx : Bool) (ao : Option Addr) (n cap : Nat) (xs : List Int) (x : Int) (k : Nat) (hx : IntAt w nx ao n cap xs x) (hn : n ≤ 1048576) (hk : 32 * n * k < 65536) (hk2 : k ≤ 65536) :
    Calls Try.prog 46 #[.agg #[.bool nx, .slice ao n cap], .int .i64 (k : Int)] w (RetIE w (x ^ k) (n * k + 1)) := by
  refine (power_any w nx ao n cap xs x k hx hn (by omega)).mono ?_
  rintro e w' (⟨_, h⟩ | ⟨h, _⟩)
  · obtain ⟨ny, bo, m, cb, ys, he, hi, _, hb⟩ := h
    exact ⟨ny, bo, m, cb, ys, he, hi, pow_len hi (abs_bits hx), hb⟩
  · have := pow_fits (abs_bits hx) hk
    omega

theorem root_uniq {g X : Nat} (h1 : g * g ≤ X * X) (h2 : X * X < (g + 1) * (g + 1)) : g = X := by
  have h3 : g ≤ X := by
    apply Nat.le_of_not_lt
    intro h
    have := Nat.mul_self_lt_mul_self h
    omega
  have h4 : X < g + 1 := by
    apply Nat.lt_of_not_le
    intro h
    have := Nat.mul_self_le_mul_self h
    omega
  omega

/-- The root of a number that is not below 0. -/
def RetRtI (w : World) (x : Int) (L : Nat) (e : Ending) (w' : World) : Prop := ∃ g : Nat, (g : Int) * g ≤ x ∧ x < ((g : Int) + 1) * (g + 1) ∧ RetIE w (g : Int) L e w'

theorem root_int (w : World) (nx : Bool) (ao : Option Addr) (n cap : Nat) (xs : List Int) (x : Int) (hx : IntAt w nx ao n cap xs x) (hn : n ≤ 1048576) (h0 : 0 ≤ x) :
    Calls Try.prog 48 #[.agg #[.bool nx, .slice ao n cap]] w (RetRtI w x (n + 2)) := by
  obtain rfl : nx = false := by rw [neg_iff2 hx]; simpa using h0
  by_cases hz : x = 0
  · subst hz
    refine (root_zero w ao n cap xs hx).mono ?_
    rintro e w' ⟨rfl, hb⟩
    exact ⟨0, by omega, by omega, false, none, 0, 0, [], rfl, int_zero2 w', by omega, hb⟩
  · obtain ⟨X, rfl⟩ : ∃ X : Nat, x = X := ⟨x.toNat, by omega⟩
    refine (root_pos w ao n cap xs X hx (by omega) hn).mono ?_
    rintro e w' ⟨g, h1, h2, h3⟩
    exact ⟨g, by exact_mod_cast h1, by exact_mod_cast h2, h3⟩

theorem root_square (w : World) (nx : Bool) (ao : Option Addr) (n cap : Nat) (xs : List Int) (x : Int) (hx : IntAt w nx ao n cap xs (x * x)) (hn : n ≤ 1048576) :
    Calls Try.prog 48 #[.agg #[.bool nx, .slice ao n cap]] w (RetIE w (x.natAbs : Int) (n + 2)) := by
  refine (root_int w nx ao n cap xs _ hx hn (by rw [← Int.natAbs_mul_self' x]; exact Int.mul_nonneg (by omega) (by omega))).mono ?_
  rintro e w' ⟨g, h1, h2, h3⟩
  rw [← Int.natAbs_mul_self' x] at h1 h2
  have : g = x.natAbs := root_uniq (by exact_mod_cast h1) (by exact_mod_cast h2)
  rw [← this]
  exact h3
end Go.Proofs.Ytpakfknacmcohaa
