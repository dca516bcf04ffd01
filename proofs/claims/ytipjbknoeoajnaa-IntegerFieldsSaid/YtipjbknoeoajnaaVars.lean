/- Variables of a law: integers that lie in boxes. Bits of sums. Shift by a number that is not below 0. -/
import Derived.Test.YtipjbknoeoajnaaDep
import Derived.Test.YtipjbknoeoajnaaDown
import Derived.Test.YtipjbknoeoajnaaRing
namespace Go.Proofs.Ytipjbknoeoajnaa
open Go.RowKit
set_option autoImplicit false
set_option linter.unusedVariables false

/-- An integer in the box at block p. -/
structure BV where
  p : Nat
  neg : Bool
  ao : Option Addr
  n : Nat
  cap : Nat
  zs : List Int
  x : Int

/-- A box, and the integer in it. -/
structure BAt (w : World) (v : BV) : Prop where
  c0 : w.cell? ⟨v.p, 0, none⟩ = some (.bool v.neg)
  c1 : w.cell? ⟨v.p, 1, none⟩ = some (.slice v.ao v.n v.cap)
  it : IntAt w v.neg v.ao v.n v.cap v.zs v.x
  small : v.n ≤ 100000
  lt : v.p < w.heap.size

theorem BAt.below {w w' : World} {v : BV} (h : BAt w v) (hb : Below w.heap.size w w') : BAt w' v :=
  ⟨(hb.cell (p := ⟨v.p, 0, none⟩) h.lt).trans h.c0, (hb.cell (p := ⟨v.p, 1, none⟩) h.lt).trans h.c1, h.it.below hb, h.small, Nat.lt_of_lt_of_le h.lt hb.size⟩

def Vars (w : World) (l : List BV) : Prop := ∀ v ∈ l, BAt w v
theorem Vars.below {w w' : World} {l : List BV} (h : Vars w l) (hb : Below w.heap.size w w') : Vars w' l := fun v hv => (h v hv).below hb
theorem Vars.push {w : World} {l : List BV} {v : BV} (h : Vars w l) (hv : BAt w v) : Vars w (v :: l) := by
  intro u hu
  rcases List.mem_cons.1 hu with rfl | hu
  · exact hv
  · exact h u hu
theorem BAt.new {w : World} {neg : Bool} {ao : Option Addr} {n cap : Nat} {zs : List Int} {x : Int} {t : TypeId} (h : IntAt w neg ao n cap zs x) (hn : n ≤ 100000) :
    BAt (w.alloc (.cells #[.bool neg, .slice ao n cap] t)) ⟨w.heap.size, neg, ao, n, cap, zs, x⟩ := by
  obtain ⟨a, b, _, _⟩ := blk2 (heap_alloc_new w (.cells #[.bool neg, .slice ao n cap] t))
  exact ⟨a, b, h.below ((Below.refl _ _).alloc (Nat.le_refl _) _), hn, by simp⟩

theorem BAt.put {w : World} {p : Nat} {neg a : Bool} {ao b : Option Addr} {n cap c d : Nat} {zs : List Int} {x : Int} (h : IntAt w neg ao n cap zs x) (hn : n ≤ 100000) (hr : w.heap[p]? = some (.cells #[.bool a, .slice b c d] 28 (0, 0))) :
    BAt ((w.setCell ⟨p, 0, none⟩ (.bool neg)).setCell ⟨p, 1, none⟩ (.slice ao n cap)) ⟨p, neg, ao, n, cap, zs, x⟩ := by
  obtain ⟨c0, c1, f0, f1⟩ := blk2 hr
  have hl : p < w.heap.size := World.block_lt_of_cell? w _ c0
  refine ⟨?_, ?_, h.stored hr _ _, hn, ?_⟩
  · simp [go_sem, c0]
  · simp [go_sem, c1]
  · simpa using hl

theorem shift_nonneg (w : World) (nx : Bool) (ao : Option Addr) (n cap : Nat) (xs : List Int) (x : Int) (k : Nat) (hx : IntAt w nx ao n cap xs x) (hn : n ≤ 1000) (hk : k ≤ 1000) :
    Calls Try.prog 50 #[.agg #[.bool nx, .slice ao n cap], .int .i64 (k : Int)] w (RetIE w (x * 2 ^ k) (n + 2050)) := by
  by_cases h0 : k = 0
  · subst h0
    have := shift_down w nx ao n cap xs x 0 hx (by omega) (by omega)
    simp at this ⊢
    refine this.mono ?_
    rintro e w' ⟨neg, a, m, c, zs, he, hi, hm, hb⟩
    exact ⟨neg, a, m, c, zs, he, hi, by omega, hb⟩
  · refine shift_up w nx ao n cap xs x k hx (by omega) (by omega) (by omega) (.inr ?_)
    have h1 := hx.abs
    have h2 := len_of_blen hx.lim hx.top
    rw [hx.sl.len] at h2
    have h3 := blen_lt (val xs).toNat
    have h4 : blen (cpl x).toNat ≤ blen (val xs).toNat := by
      rw [blen_le_iff]
      have := val_nonneg hx.lim
      unfold cpl
      split <;> omega
    omega

/-- The sum is that of exclusive or and twice and. -/
theorem xor_and {x y u v : Int} (hu : ∀ i, bitZ u i = tb 6 (bitZ x i) (bitZ y i)) (hv : ∀ i, bitZ v i = tb 8 (bitZ x i) (bitZ y i)) : u + v + v = x + y := by
  have hb : ∀ i, u / 2 ^ i % 2 + 2 * (v / 2 ^ i % 2) = x / 2 ^ i % 2 + y / 2 ^ i % 2 := by
    intro i
    have h1 := hu i
    have h2 := hv i
    unfold bitZ at h1 h2
    have hx := Int.emod_two_eq (x / 2 ^ i)
    have hy := Int.emod_two_eq (y / 2 ^ i)
    have h3 := Int.emod_two_eq (u / 2 ^ i)
    have h4 := Int.emod_two_eq (v / 2 ^ i)
    rcases hx with hx | hx <;> rcases hy with hy | hy <;> rcases h3 with h3 | h3 <;> rcases h4 with h4 | h4 <;> rw [hx, hy, h3] at h1 <;> rw [hx, hy, h4] at h2 <;> revert h1 h2 <;> rw [hx, hy, h3, h4] <;> decide
  have hm : ∀ k, u % 2 ^ k + 2 * (v % 2 ^ k) = x % 2 ^ k + y % 2 ^ k := by
    intro k
    induction k with
    | zero => simp [Int.emod_one]
    | succ k ih =>
      rw [mod_step u, mod_step v, mod_step x, mod_step y]
      have := hb k
      grind
  obtain ⟨D, hD⟩ : ∃ D, u + v + v - (x + y) = D := ⟨_, rfl⟩
  have hdiv : ∀ k, (2 : Int) ^ k ∣ D := by
    intro k
    have h1 := Int.emod_add_mul_ediv u (2 ^ k)
    have h2 := Int.emod_add_mul_ediv v (2 ^ k)
    have h3 := Int.emod_add_mul_ediv x (2 ^ k)
    have h4 := Int.emod_add_mul_ediv y (2 ^ k)
    have h5 := hm k
    refine ⟨u / 2 ^ k + 2 * (v / 2 ^ k) - x / 2 ^ k - y / 2 ^ k, ?_⟩
    rw [← hD]
    grind
  have h0 : D = 0 := by
    have h1 := blen_lt D.natAbs
    have h2 := hdiv (blen D.natAbs)
    refine Int.eq_zero_of_dvd_of_natAbs_lt_natAbs h2 ?_
    rw [Int.natAbs_pow]
    exact h1
  omega

theorem cpl_flip (x : Int) : cpl (-1 - x) = cpl x := by unfold cpl; split <;> split <;> omega

theorem bitZ_div (x : Int) (a i : Nat) : bitZ (x / 2 ^ a) i = bitZ x (a + i) := by
  unfold bitZ
  rw [Int.pow_add, Int.ediv_ediv_of_nonneg (Int.le_of_lt (Int.pow_pos (by omega)))]
theorem field_bit (x : Int) (k a i : Nat) : bitZ (x / 2 ^ a % 2 ^ k) i = (decide (i < k) && bitZ x (a + i)) := by
  rw [bitZ_mod', bitZ_div]

/-- The field of what Deposit made is the field. -/
theorem dep_field {x p D : Int} {k a : Nat} (h : ∀ i, bitZ D i = depB x p k a i) : D / 2 ^ a % 2 ^ k = p / 2 ^ 0 % 2 ^ k := by
  apply eq_of_bits
  intro i
  rw [field_bit, field_bit, h, Nat.zero_add]
  unfold depB
  by_cases hi : i < k
  · rw [if_pos ⟨by omega, by omega⟩, show a + i - a = i by omega]
  · rw [decide_eq_false hi]; simp
/-- Deposit of a field changes nothing. -/
theorem dep_own {x D : Int} {k a : Nat} (h : ∀ i, bitZ D i = depB x (x / 2 ^ a % 2 ^ k) k a i) : D = x := by
  apply eq_of_bits
  intro i
  rw [h]
  unfold depB
  by_cases hi : a ≤ i ∧ i < a + k
  · rw [if_pos hi, field_bit, decide_eq_true (by omega), Bool.true_and, show a + (i - a) = i by omega]
  · rw [if_neg hi]
theorem dep_out {x p D : Int} {k a i : Nat} (h : ∀ i, bitZ D i = depB x p k a i) (hi : i < a ∨ a + k ≤ i) : bitZ D i = bitZ x i := by
  rw [h]
  unfold depB
  rw [if_neg (by omega)]

/-- Boole returns a number with the bits that its table gives. -/
def RetBoo (w : World) (x y : Int) (op : Nat) (L : Nat) (e : Ending) (w' : World) : Prop :=
  ∃ neg ao n cap zs P, e = .returned (.tuple #[.agg #[.bool neg, .slice ao n cap], .int .i64 0]) ∧ IntAt w' neg ao n cap zs P ∧ (∀ i, bitZ P i = tb op (bitZ x i) (bitZ y i)) ∧ n ≤ L ∧ Below w.heap.size w w'
theorem boole_bits (w : World) (nx ny : Bool) (ao bo : Option Addr) (n m capa capb : Nat) (xs ys : List Int) (x y : Int) (op : Nat) (hx : IntAt w nx ao n capa xs x) (hy : IntAt w ny bo m capb ys y) (ho : op ≤ 15) (hn : n ≤ 1000) (hm : m ≤ 1000) :
    Calls Try.prog 51 #[.agg #[.bool nx, .slice ao n capa], .int .i64 (op : Int), .agg #[.bool ny, .slice bo m capb]] w (RetBoo w x y op 1001) := by
  refine (boole_any w nx ny ao bo n m capa capb xs ys x y op hx hy (by omega) (by omega) (by omega) (by omega)).mono ?_
  rintro e w' ⟨neg, a1, n1, c1, zs, As, Bs, rfl, la, hA, vA, lb, hB, vB, hint, hn, hb⟩
  rw [boole_same hx hy rfl la lb hA hB vA vB, neg_iff' hx, neg_iff' hy] at hint
  exact ⟨neg, a1, n1, c1, zs, _, rfl, hint, fun i => boolR_bit op x y i, by omega, hb⟩
end Go.Proofs.Ytipjbknoeoajnaa
