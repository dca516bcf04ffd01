/- Bit1, Bit2, Boo5, Boo6 in one text. -/
import Derived.Test.YtpakfknacmcohaaBoo4
import Derived.Test.YtpakfknacmcohaaPows
import Derived.Test.YtpakfknacmcohaaBitsA
namespace Go.Proofs.Ytpakfknacmcohaa
open Go.RowKit
set_option autoImplicit false
set_option linter.unusedVariables false

/-- Bit i of x in two's complement. -/
def bitZ (x : Int) (i : Nat) : Bool := x / 2 ^ i % 2 == 1

theorem bitZ_nat (v i : Nat) : bitZ (v : Int) i = (v / 2 ^ i % 2 == 1) := by
  unfold bitZ
  have e : (v : Int) / 2 ^ i % 2 = ((v / 2 ^ i % 2 : Nat) : Int) := by simp
  rw [e, Bool.eq_iff_iff]
  simp
  omega

theorem compl_div (c i : Nat) : (-1 - (c : Int)) / 2 ^ i = -1 - ((c / 2 ^ i : Nat) : Int) := by
  have hp : (0 : Int) < 2 ^ i := Int.pow_pos (by omega)
  have h1 := Nat.div_add_mod c (2 ^ i)
  have h2 := Nat.mod_lt c (Nat.two_pow_pos i)
  have e2 : ((2 ^ i : Nat) : Int) = 2 ^ i := by simp
  have e : (-1 - (c : Int)) = (2 ^ i - 1 - ((c % 2 ^ i : Nat) : Int)) + 2 ^ i * (-1 - ((c / 2 ^ i : Nat) : Int)) := by
    have : (c : Int) = 2 ^ i * ((c / 2 ^ i : Nat) : Int) + ((c % 2 ^ i : Nat) : Int) := by
      rw [← e2, ← Int.natCast_mul, ← Int.natCast_add, h1]
    rw [Int.mul_sub]
    omega
  rw [e, Int.add_mul_ediv_left _ _ (by omega), Int.ediv_eq_zero_of_lt (by omega) (by omega)]
  omega

theorem bitZ_compl (c i : Nat) : bitZ (-1 - (c : Int)) i = !(c / 2 ^ i % 2 == 1) := by
  unfold bitZ
  rw [compl_div]
  have h : (-1 - ((c / 2 ^ i : Nat) : Int)) % 2 = 1 - ((c / 2 ^ i % 2 : Nat) : Int) := by omega
  rw [h]
  rcases Nat.mod_two_eq_zero_or_one (c / 2 ^ i) with h0 | h0 <;> rw [h0] <;> rfl

theorem bitZ_of (x : Int) (i : Nat) : bitOf (cpl x).toNat (decide (x < 0)) i = bitZ x i := by
  unfold bitOf cpl
  by_cases h : x < 0
  · rw [if_pos h, decide_eq_true h]
    obtain ⟨c, hc⟩ : ∃ c : Nat, -1 - x = c := ⟨(-1 - x).toNat, by omega⟩
    obtain rfl : x = -1 - (c : Int) := by omega
    rw [bitZ_compl, hc, Int.toNat_natCast]
    cases (c / 2 ^ i % 2 == 1) <;> rfl
  · rw [if_neg h, decide_eq_false h]
    obtain ⟨v, rfl⟩ := Int.eq_ofNat_of_zero_le (show 0 ≤ x by omega)
    rw [bitZ_nat]
    simp

theorem neg_iff {w : World} {neg : Bool} {ao : Option Addr} {n cap : Nat} {zs : List Int} {x : Int} (h : RefAt w neg ao n cap zs x) : neg = decide (x < 0) := by
  have h0 := dval_nonneg (r := 65536) (by omega) h.lim
  cases neg with
  | false => rw [h.val]; simp [sgn]; omega
  | true =>
    have h1 := dval_pos_of_top (r := 65536) (by omega) h.lim h.top (h.sign rfl)
    have h2 := rpow_pos (r := 65536) (by omega) (zs.length - 1)
    rw [h.val]; simp [sgn]; omega

theorem neg_iff' {w : World} {neg : Bool} {ao : Option Addr} {n cap : Nat} {zs : List Int} {x : Int} (h : IntAt w neg ao n cap zs x) : neg = decide (x < 0) := by
  have h0 := val_nonneg h.lim
  have hv := h.val
  cases neg with
  | false => rw [hv]; simp [sgn]; omega
  | true =>
    have h1 := val_pos_of_top h.lim h.top (h.sign rfl)
    have h2 := pow_pos (zs.length - 1)
    rw [hv]; simp [sgn]; omega

theorem rset_far (w : World) (nx : Bool) (ao : Option Addr) (n cap : Nat) (xs : List Int) (x : Int) (hx : RefAt w nx ao n cap xs x) (hn : n ≤ 34359738368) (i : Nat) (hi0 : 1099511627776 < i) (hi : i ≤ 9223372036854775807) :
    Calls Try.prog 105 #[.agg #[.bool nx, .slice ao n cap], .int .i64 (i : Int)] w (RetV w (.bool (x.natAbs / 2 ^ i % 2 == 1))) := by
  have hv : (x.natAbs / 2 ^ i % 2 == 1) = false := by
    have h1 := dval_nonneg (r := 65536) (by omega) hx.lim
    have h2 := dval_lt (r := 65536) (by omega) hx.lim
    rw [pow16, hx.sl.len] at h2
    have h3 : x.natAbs < 2 ^ (16 * n) := by
      obtain ⟨P, hP⟩ : ∃ P : Nat, 2 ^ (16 * n) = P := ⟨_, rfl⟩
      rw [hP] at h2 ⊢
      rw [hx.val]
      cases nx <;> simp only [sgn] <;> (try simp) <;> omega
    have h4 : 2 ^ (16 * n) ≤ 2 ^ i := Nat.pow_le_pow_right (by omega) (by omega)
    rw [Nat.div_eq_of_lt (by omega)]
    rfl
  rw [hv]
  have ei : (i : Int) / 16 = ((i / 16 : Nat) : Int) := by omega
  obtain ⟨q, hq⟩ : ∃ q, i / 16 = q := ⟨_, rfl⟩
  rw [hq] at ei
  have hqi : ¬ (q : Int) < n := by omega
  have hqi2 : (n : Int) ≤ q := by omega
  have hi0' : (0 : Int) ≤ i := by omega
  clear hx hv hq
  go_enter Try.func105, Try.ntmps105
  go_wp2_with fail
  go_ret
  exact ⟨rfl, by go_grown⟩

theorem rset_all (w : World) (nx : Bool) (ao : Option Addr) (n cap : Nat) (xs : List Int) (x : Int) (hx : RefAt w nx ao n cap xs x) (hn : n ≤ 34359738368) (i : Nat) (hi : i ≤ 9223372036854775807) :
    Calls Try.prog 105 #[.agg #[.bool nx, .slice ao n cap], .int .i64 (i : Int)] w (RetV w (.bool (x.natAbs / 2 ^ i % 2 == 1))) := by
  by_cases h : i ≤ 1099511627776
  · exact rset_any w nx ao n cap xs x hx hn i h
  · exact rset_far w nx ao n cap xs x hx hn i (by omega) hi

/-- A bit of x for any int: none below 0. -/
def bitI (x i : Int) : Bool := if i < 0 then false else bitZ x i.toNat

set_option maxRecDepth 100000 in
theorem rbit_any (w : World) (nx : Bool) (ao : Option Addr) (n cap : Nat) (xs : List Int) (x i : Int) (hx : RefAt w nx ao n cap xs x) (hn : n ≤ 1048576) (hi : i ≤ 9223372036854775807) :
    Calls Try.prog 54 #[.agg #[.bool nx, .slice ao n cap], .int .i64 i] w (RetV w (.bool (bitI x i))) := by
  by_cases hneg : i < 0
  · have hb : bitI x i = false := by unfold bitI; rw [if_pos hneg]
    rw [hb]
    clear hx
    go_enter Try.func54, Try.ntmps54
    go_wp2_with fail
    go_ret
    exact ⟨rfl, by go_grown⟩
  · obtain ⟨k, rfl⟩ := Int.eq_ofNat_of_zero_le (show 0 ≤ i by omega)
    have hb : bitI x k = bitZ x k := by unfold bitI; rw [if_neg hneg, Int.toNat_natCast]
    rw [hb]
    have hn0 := neg_iff hx
    have HX := Lib.hid hx
    cases nx
    · have hx0 : 0 ≤ x := by have := hn0.symm; simpa using this
      have HBZ : Hid (bitZ x k = (x.natAbs / 2 ^ k % 2 == 1)) := Lib.hid (by
        obtain ⟨v, rfl⟩ := Int.eq_ofNat_of_zero_le hx0
        rw [bitZ_nat]; rfl)
      clear hx hn0 hb
      go_enter Try.func54, Try.ntmps54
      go_wp2_with fail
      refine (rset_all _ false ao n cap xs x (HX.out.below (by go_grown)) (by omega) k (by omega)).mono ?_
      rintro e w1 ⟨rfl, hb1⟩
      rw [← HBZ.out]
      have hb2 : Below w.heap.size w w1 := Below.trans (by go_grown) (hb1.mono (by go_size))
      clear hb1
      go_wp2_with fail
      go_ret
      exact ⟨rfl, hb2⟩
    · have hx0 : x < 0 := by have := hn0.symm; simpa using this
      have HBZ : Hid (bitZ x k = !((-1 - x).natAbs / 2 ^ k % 2 == 1)) := Lib.hid (by
        obtain ⟨c, hc⟩ : ∃ c : Nat, -1 - x = c := ⟨(-1 - x).toNat, by omega⟩
        obtain rfl : x = -1 - (c : Int) := by omega
        rw [bitZ_compl, hc]; rfl)
      obtain ⟨B, hB⟩ : ∃ B, ((-1 - x).natAbs / 2 ^ k % 2 == 1) = B := ⟨_, rfl⟩
      rw [hB] at HBZ
      have HBB := Lib.hid hB
      clear hx hn0 hb hB
      go_enter Try.func54, Try.ntmps54
      go_wp2_with fail
      go_region_held3 (fun w' => w'.cell? ⟨w.heap.size, 0, none⟩ = some (.bool true) ∧ w'.cell? ⟨w.heap.size, 1, none⟩ = some (.slice ao n cap)) (((try dsimp only); (repeat' apply And.intro) <;> (first | (go_keep; done) | (go_split_ands; rw [u1.cell (by go_size)]; assumption) | (go_split_ands; rw [u2.cell (by dsimp only; omega)]; assumption) | (go_split_ands; rw [u3.cell (by dsimp only; omega)]; assumption))))
        (first | (go_at_call 18; refine (rnew_any _ (-1) (by omega) (by omega)).mono ?_; rintro e v1 ⟨n1, a1, k1, cc1, z1, rfl, hint1, hk1, u1⟩; have hz1 : w.heap.size + 1 ≤ v1.heap.size := Nat.le_trans (by go_size) u1.size; have X1 : Below w.heap.size w v1 := Below.trans (by go_grown) (u1.mono (by go_size)); have HI1 := Lib.hid hint1; clear hint1) | (go_at_call 41; refine (rsub_any _ n1 true a1 ao k1 n cc1 cap z1 xs (-1) x HI1.out (HX.out.below X1) (by omega) (by omega)).mono ?_; rintro e v2 ⟨yneg, ya, yn, yc, ys, rfl, hint, hn', u2⟩; have hz2 := u2.size; have X2 : Below w.heap.size w v2 := X1.trans (u2.mono X1.size); have HI := Lib.hid hint; clear hint) | (go_at_call 105; refine (rset_all _ yneg ya yn yc ys (-1 - x) HI.out (by omega) k (by omega)).mono ?_; rintro e v3 ⟨rfl, u3⟩; have X3 : Below w.heap.size w v3 := X2.trans (u3.mono X2.size)))
      go_wp2_with fail
      go_ret
      exact ⟨by rw [HBZ.out, ← HBB.out]; rfl, X3⟩

theorem mod_div (x P M : Int) (hP : 0 < P) (hM : 0 < M) : x % (P * M) / P = x / P % M := by
  have h1 := Int.emod_add_mul_ediv x P
  have h2 := Int.emod_add_mul_ediv (x / P) M
  have a0 := Int.emod_nonneg x (show P ≠ 0 by omega)
  have a1 := Int.emod_lt_of_pos x hP
  have b0 := Int.emod_nonneg (x / P) (show M ≠ 0 by omega)
  have b1 := Int.emod_lt_of_pos (x / P) hM
  have e : x = (x % P + P * (x / P % M)) + (P * M) * (x / P / M) := by grind
  have hb : P * (x / P % M) ≤ P * (M - 1) := Int.mul_le_mul_of_nonneg_left (by omega) (by omega)
  have hb0 : 0 ≤ P * (x / P % M) := Int.mul_nonneg (by omega) b0
  have hb2 : P * (M - 1) = P * M - P := by rw [Int.mul_sub]; omega
  have e2 : x % (P * M) = x % P + P * (x / P % M) := by
    conv => lhs; rw [e]
    rw [Int.add_mul_emod_self_left, Int.emod_eq_of_lt (by omega) (by omega)]
  rw [e2, Int.add_mul_ediv_left _ _ (by omega), Int.ediv_eq_zero_of_lt a0 a1]
  omega

theorem top_limb {zs : List Int} (lz : Lim zs) {q : Nat} (hl : zs.length = q + 1) {x : Int} (hv : val zs = x % 4294967296 ^ (q + 1)) : zs.getD q 0 = x / 4294967296 ^ q % 4294967296 := by
  have h1 := val_take_succ zs q
  rw [List.take_of_length_le (by omega)] at h1
  have h2 := val_nonneg (Lim_take lz q)
  have h3 := val_lt (Lim_take lz q)
  rw [List.length_take, Nat.min_eq_left (by omega)] at h3
  have hp := pow_pos q
  have h4 : val zs / 4294967296 ^ q = zs.getD q 0 := by
    rw [h1, Int.add_mul_ediv_left _ _ (by omega), Int.ediv_eq_zero_of_lt h2 h3]
    omega
  rw [← h4, hv, Int.pow_succ]
  exact mod_div x _ 4294967296 hp (by omega)

theorem low_bit (y : Int) (r : Nat) (hr : r < 32) : (y % 4294967296) / 2 ^ r % 2 = y / 2 ^ r % 2 := by
  obtain ⟨m, hm⟩ : ∃ m, 32 - r = m + 1 := ⟨31 - r, by omega⟩
  have hp : (0 : Int) < 2 ^ r := Int.pow_pos (by omega)
  have e : (4294967296 : Int) = 2 ^ r * (2 ^ m * 2) := by
    rw [← Int.pow_succ, ← Int.pow_add, show r + m.succ = 32 by omega]; rfl
  have h := Int.emod_add_mul_ediv y 4294967296
  have h2 : y / 2 ^ r = (y % 4294967296) / 2 ^ r + 2 * (2 ^ m * (y / 4294967296)) := by
    have e3 : y = y % 4294967296 + 2 ^ r * (2 * (2 ^ m * (y / 4294967296))) := by
      have e4 : 2 ^ r * (2 * (2 ^ m * (y / 4294967296))) = 4294967296 * (y / 4294967296) := by
        conv => rhs; rw [e]
        grind
      rw [e4]; omega
    conv => lhs; rw [e3]
    rw [Int.add_mul_ediv_left _ _ (by omega)]
  rw [h2]
  omega

theorem div_div_pow (x : Int) (q r : Nat) : x / 4294967296 ^ q / 2 ^ r = x / 2 ^ (32 * q + r) := by
  rw [Int.ediv_ediv_of_nonneg (by have := pow_pos q; omega), base_pow, Int.pow_add]

theorem bit_far {v : Int} {neg : Bool} {n i : Nat} (h0 : 0 ≤ v) (h1 : v < 4294967296 ^ n) (hs : neg = true → 0 < v) (hi : 32 * n ≤ i) : bitZ (sgn neg v) i = neg := by
  obtain ⟨u, rfl⟩ := Int.eq_ofNat_of_zero_le h0
  rw [base_pow, show ((2 : Int) ^ (32 * n)) = ((2 ^ (32 * n) : Nat) : Int) by simp] at h1
  have hp : 2 ^ (32 * n) ≤ 2 ^ i := Nat.pow_le_pow_right (by omega) hi
  cases neg
  · show bitZ (u : Int) i = false
    rw [bitZ_nat, Nat.div_eq_of_lt (by omega)]
    rfl
  · have h2 := hs rfl
    have e0 : sgn true (u : Int) = -(u : Int) := rfl
    have e : sgn true (u : Int) = -1 - ((u - 1 : Nat) : Int) := by rw [e0]; omega
    rw [e, bitZ_compl, Nat.div_eq_of_lt (by omega)]
    rfl

set_option maxRecDepth 100000 in
theorem bit_any (w : World) (nx : Bool) (ao : Option Addr) (n cap : Nat) (xs : List Int) (x i : Int) (hx : IntAt w nx ao n cap xs x) (hn : n ≤ 1048576) (hi : i ≤ 9223372036854775807) :
    Calls Try.prog 53 #[.agg #[.bool nx, .slice ao n cap], .int .i64 i] w (RetV w (.bool (bitI x i))) := by
  by_cases hneg : i < 0
  · have hb : bitI x i = false := by unfold bitI; rw [if_pos hneg]
    rw [hb]
    clear hx
    go_enter Try.func53, Try.ntmps53
    go_wp2_with fail
    go_ret
    exact ⟨rfl, by go_grown⟩
  · obtain ⟨k, rfl⟩ := Int.eq_ofNat_of_zero_le (show 0 ≤ i by omega)
    have hb : bitI x k = bitZ x k := by unfold bitI; rw [if_neg hneg, Int.toNat_natCast]
    rw [hb]
    have e1 : (k : Int) / 32 = ((k / 32 : Nat) : Int) := by omega
    have e2 : (k : Int) % 32 = ((k % 32 : Nat) : Int) := by omega
    obtain ⟨q, hq⟩ : ∃ q, k / 32 = q := ⟨_, rfl⟩
    obtain ⟨r, hr⟩ : ∃ r, k % 32 = r := ⟨_, rfl⟩
    rw [hq] at e1
    rw [hr] at e2
    have hk0 : (0 : Int) ≤ (k : Int) := by omega
    by_cases hfar : n ≤ q
    · have hv : bitZ x k = nx := by
        rw [hx.val]
        refine bit_far (n := n) (val_nonneg hx.lim) ?_ ?_ (by omega)
        · have := val_lt hx.lim; rwa [hx.sl.len] at this
        · intro h; have h1 := val_pos_of_top hx.lim hx.top (hx.sign h); have h2 := pow_pos (xs.length - 1); omega
      rw [hv]
      have hqi : (n : Int) ≤ (q : Int) := by omega
      clear hx hv hb hq hr
      go_enter Try.func53, Try.ntmps53
      go_wp2_with fail
      go_ret
      exact ⟨rfl, by go_grown⟩
    · have hqi : ¬ (n : Int) ≤ (q : Int) := by omega
      have hq0 : (0 : Int) ≤ (q : Int) := by omega
      have hrl : r < 32 := by omega
      have hkk : k = 32 * q + r := by omega
      have HW : Hid (∀ w1, Below w.heap.size w w1 → Calls Try.prog 101 #[.agg #[.bool nx, .slice ao n cap], .int .i64 ((q : Int) + 1)] w1 (RetWords w1 x (q + 1))) := Lib.hid (fun w1 hb => by
        have := words_any w1 nx ao n cap xs x (q + 1) (hx.below hb) (by omega)
        simpa using this)
      have HKK := Lib.hid hkk
      clear hx hb hq hr hkk hfar
      go_enter Try.func53, Try.ntmps53
      go_wp2_with fail
      refine (HW.out _ (by go_grown)).mono ?_
      rintro e w1 ⟨g, zs, rfl, hm, hzl, hlim, hval, hb1⟩
      have htop := top_limb hlim hzl hval
      obtain ⟨hc, -⟩ := hm.cell q (by omega)
      have hl := Lim_getD hlim q
      obtain ⟨t, ht⟩ : ∃ t : Nat, zs.getD q 0 = t := ⟨(zs.getD q 0).toNat, by omega⟩
      rw [ht] at hc htop hl
      have hb2 : Below w.heap.size w w1 := Below.trans (by go_grown) (hb1.mono (by go_size))
      have hand : bits BinOp.and IntKind.u32 ((t : Int) / 2 ^ r) 1 = ((t / 2 ^ r % 2 : Nat) : Int) := by
        have e3 : (t : Int) / 2 ^ r = ((t / 2 ^ r : Nat) : Int) := by simp
        rw [e3]
        have hle : t / 2 ^ r ≤ t := Nat.div_le_self _ _
        have := u32_and_nat (t / 2 ^ r) 1 (by omega) (by omega)
        rw [Nat.and_one_is_mod] at this
        exact this
      have hbit : bitZ x k = (((t / 2 ^ r % 2 : Nat) : Int) == 1) := by
        unfold bitZ
        have e5 : x / 2 ^ k % 2 = ((t / 2 ^ r % 2 : Nat) : Int) := by
          rw [HKK.out, ← div_div_pow, ← low_bit _ r hrl, ← htop]
          simp
        rw [e5]
      obtain ⟨b, hbb⟩ : ∃ b : Nat, t / 2 ^ r % 2 = b := ⟨_, rfl⟩
      rw [hbb] at hand hbit
      have HBIT := Lib.hid hbit
      clear htop hval hm hzl hlim hb1 ht hbit hbb
      go_wp2_with fail
      go_ret
      exact ⟨by rw [HBIT.out]; rfl, hb2⟩

theorem mod_step (x : Int) (k : Nat) : x % 2 ^ (k + 1) = x % 2 ^ k + 2 ^ k * (x / 2 ^ k % 2) := by
  have hp : (0 : Int) < 2 ^ k := Int.pow_pos (by omega)
  have h1 := Int.emod_add_mul_ediv x (2 ^ k)
  have h2 := Int.emod_add_mul_ediv (x / 2 ^ k) 2
  have a0 := Int.emod_nonneg x (show (2 : Int) ^ k ≠ 0 by omega)
  have a1 := Int.emod_lt_of_pos x hp
  rw [Int.pow_succ]
  rcases Int.emod_two_eq (x / 2 ^ k) with h | h
  · rw [h]
    have e : x = x % 2 ^ k + (2 ^ k * 2) * (x / 2 ^ k / 2) := by grind
    conv => lhs; rw [e]
    rw [Int.add_mul_emod_self_left, Int.emod_eq_of_lt a0 (by omega)]
    omega
  · rw [h]
    have e : x = (x % 2 ^ k + 2 ^ k) + (2 ^ k * 2) * (x / 2 ^ k / 2) := by grind
    conv => lhs; rw [e]
    rw [Int.add_mul_emod_self_left, Int.emod_eq_of_lt (by omega) (by omega)]
    omega

theorem bitZ_eq {x y : Int} {i : Nat} (h : bitZ x i = bitZ y i) : x / 2 ^ i % 2 = y / 2 ^ i % 2 := by
  unfold bitZ at h
  rw [Bool.eq_iff_iff] at h
  simp at h
  rcases Int.emod_two_eq (x / 2 ^ i) with h1 | h1 <;> rcases Int.emod_two_eq (y / 2 ^ i) with h2 | h2 <;> rw [h1, h2] at h ⊢ <;> simp at h

theorem mod_eq_of_bits {x y : Int} (h : ∀ i, bitZ x i = bitZ y i) (k : Nat) : x % 2 ^ k = y % 2 ^ k := by
  induction k with
  | zero => simp [Int.emod_one]
  | succ k ih => rw [mod_step, mod_step, ih, bitZ_eq (h k)]

theorem eq_of_bits {x y : Int} (h : ∀ i, bitZ x i = bitZ y i) : x = y := by
  obtain ⟨K, hK⟩ : ∃ K, K = x.natAbs + y.natAbs := ⟨_, rfl⟩
  have h1 : K < 2 ^ K := Nat.lt_two_pow_self
  have hm := mod_eq_of_bits h (K + 1)
  have e : ((2 : Int) ^ (K + 1)) = ((2 ^ K : Nat) : Int) * 2 := by rw [Int.pow_succ]; simp
  rw [e] at hm
  obtain ⟨P, hP⟩ : ∃ P : Nat, 2 ^ K = P := ⟨_, rfl⟩
  rw [hP] at h1 hm
  rcases (show x < 0 ∨ 0 ≤ x by omega) with hx | hx <;> rcases (show y < 0 ∨ 0 ≤ y by omega) with hy | hy
  · rw [← Int.add_emod_right x, ← Int.add_emod_right y, Int.emod_eq_of_lt (by omega) (by omega), Int.emod_eq_of_lt (by omega) (by omega)] at hm
    omega
  · rw [← Int.add_emod_right x, Int.emod_eq_of_lt (by omega) (by omega), Int.emod_eq_of_lt (by omega) (by omega)] at hm
    omega
  · rw [← Int.add_emod_right y, Int.emod_eq_of_lt (by omega) (by omega), Int.emod_eq_of_lt (by omega) (by omega)] at hm
    omega
  · rw [Int.emod_eq_of_lt (by omega) (by omega), Int.emod_eq_of_lt (by omega) (by omega)] at hm
    omega

theorem bitZ_mod (x : Int) {n i : Nat} (h : i < n) : bitZ (x % 2 ^ n) i = bitZ x i := by
  unfold bitZ
  have e : x % 2 ^ n / 2 ^ i % 2 = x / 2 ^ i % 2 := by
    obtain ⟨m, rfl⟩ : ∃ m, n = i + (m + 1) := ⟨n - i - 1, by omega⟩
    have hp : (0 : Int) < 2 ^ i := Int.pow_pos (by omega)
    have hp2 : (0 : Int) < 2 ^ (m + 1) := Int.pow_pos (by omega)
    rw [Int.pow_add, mod_div x _ _ hp hp2, Int.pow_succ, Int.mul_comm (2 ^ m) 2, Int.emod_emod_of_dvd _ ⟨2 ^ m, rfl⟩]
  rw [e]

theorem limb_bit {zs : List Int} {q r : Nat} (hq : q < zs.length) (lz : Lim zs) (hr : r < 32) : bitZ (val zs) (32 * q + r) = bitZ (zs.getD q 0) r := by
  unfold bitZ
  have hs := val_split zs q
  rw [drop_getD hq, List.length_take, Nat.min_eq_left (by omega)] at hs
  simp only [val] at hs
  have h2 := val_nonneg (Lim_take lz q)
  have h3 := val_lt (Lim_take lz q)
  rw [List.length_take, Nat.min_eq_left (by omega)] at h3
  have hp := pow_pos q
  have e : val zs / 4294967296 ^ q = zs.getD q 0 + 4294967296 * val (zs.drop (q + 1)) := by
    rw [hs, Int.add_mul_ediv_left _ _ (by omega), Int.ediv_eq_zero_of_lt h2 h3]
    omega
  rw [← div_div_pow, e, ← low_bit _ r hr, Int.add_mul_emod_self_left, low_bit _ r hr]

theorem tb_bits (op : Nat) (A B : Bool) : tb op A B = ((op.testBit 0 && (!A && !B)) || (op.testBit 1 && (!A && B)) || (op.testBit 2 && (A && !B)) || (op.testBit 3 && (A && B))) := by
  unfold tb
  have e : ∀ i, (op / 2 ^ i % 2 == 1) = op.testBit i := fun i => by rw [Nat.testBit_eq_decide_div_mod_eq]; rfl
  rw [e]
  cases A <;> cases B <;> simp

/-- matching, of a natural number -/
def matN (a : Nat) (b : Bool) : Nat := if b then a else 4294967295 - a
theorem matN_lt {a : Nat} (h : a < 4294967296) (b : Bool) : matN a b < 4294967296 := by unfold matN; split <;> omega
theorem mat_nat {a : Nat} (h : a < 4294967296) (b : Bool) : mat (a : Int) b = (matN a b : Int) := by
  unfold mat matN
  cases b <;> simp <;> omega
theorem matN_bit {a : Nat} (h : a < 4294967296) (b : Bool) {r : Nat} (hr : r < 32) : (matN a b).testBit r = (a.testBit r == b) := by
  unfold matN
  cases b
  · have := Nat.testBit_two_pow_sub_succ (n := 32) (x := a) h r
    rw [show 2 ^ 32 - (a + 1) = 4294967295 - a by omega] at this
    simp [this, hr]
  · simp

theorem combTo_nat {op a b : Nat} (ha : a < 4294967296) (hb : b < 4294967296) (p : Nat) : ∃ u : Nat, combTo (op : Int) a b p = (u : Int) ∧ u < 4294967296 ∧
    ∀ r, r < 32 → u.testBit r = ((List.range p).any fun j => op.testBit j && ((a.testBit r == decide (j / 2 % 2 = 1)) && (b.testBit r == decide (j % 2 = 1)))) := by
  induction p with
  | zero => exact ⟨0, rfl, by omega, fun r hr => by simp⟩
  | succ p ih =>
    obtain ⟨u, h1, h2, h3⟩ := ih
    have hbit : ((op : Int) / 2 ^ p % 2 = 1) ↔ op.testBit p = true := by
      have e : (op : Int) / 2 ^ p % 2 = ((op / 2 ^ p % 2 : Nat) : Int) := by simp
      rw [e, Nat.testBit_eq_decide_div_mod_eq, decide_eq_true_iff]
      omega
    unfold combTo
    by_cases h : op.testBit p = true
    · rw [if_pos (hbit.2 h), h1, mat_nat ha, mat_nat hb, u32_and_nat _ _ (matN_lt ha _) (matN_lt hb _)]
      have hand : matN a (decide (p / 2 % 2 = 1)) &&& matN b (decide (p % 2 = 1)) < 4294967296 := Nat.and_lt_two_pow _ (n := 32) (matN_lt hb _)
      rw [u32_or_nat _ _ h2 hand]
      refine ⟨_, rfl, Nat.or_lt_two_pow (n := 32) h2 hand, fun r hr => ?_⟩
      rw [Nat.testBit_or, Nat.testBit_and, matN_bit ha _ hr, matN_bit hb _ hr, h3 r hr, List.range_succ, List.any_append]
      simp [h]
    · rw [if_neg (fun hc => h (hbit.1 hc)), h1]
      refine ⟨u, rfl, h2, fun r hr => ?_⟩
      rw [h3 r hr, List.range_succ, List.any_append]
      simp [h]

theorem comb_bit {op : Nat} {a b : Int} (ha0 : 0 ≤ a) (ha1 : a ≤ 4294967295) (hb0 : 0 ≤ b) (hb1 : b ≤ 4294967295) {r : Nat} (hr : r < 32) :
    bitZ (comb (op : Int) a b) r = tb op (bitZ a r) (bitZ b r) := by
  obtain ⟨a, rfl⟩ := Int.eq_ofNat_of_zero_le ha0
  obtain ⟨b, rfl⟩ := Int.eq_ofNat_of_zero_le hb0
  obtain ⟨u, h1, h2, h3⟩ := combTo_nat (op := op) (a := a) (b := b) (by omega) (by omega) 4
  have e : ∀ v : Nat, bitZ (v : Int) r = v.testBit r := fun v => by rw [bitZ_nat, Nat.testBit_eq_decide_div_mod_eq]; rfl
  unfold comb
  rw [h1, e, e, e, h3 r hr, tb_bits]
  simp only [show List.range 4 = [0, 1, 2, 3] from rfl, List.any_cons, List.any_nil]
  cases a.testBit r <;> cases b.testBit r <;> simp

theorem zip_getD {f : Int → Int → Int} {As Bs : List Int} {q : Nat} (ha : q < As.length) (hb : q < Bs.length) : (List.zipWith f As Bs).getD q 0 = f (As.getD q 0) (Bs.getD q 0) := by
  rw [getD_lt (by rw [List.length_zipWith]; omega), List.getElem_zipWith, getD_lt ha, getD_lt hb]

theorem zip_lim {op : Int} {As Bs : List Int} : Lim (List.zipWith (comb op) As Bs) := by
  intro z hz
  obtain ⟨i, hi, rfl⟩ := List.getElem_of_mem hz
  rw [List.getElem_zipWith]
  exact comb_range _ _ _

theorem zip_bit {op k : Nat} {As Bs : List Int} {x y : Int} (la : As.length = k) (lb : Bs.length = k) (hA : Lim As) (hB : Lim Bs) (vA : val As = x % 4294967296 ^ k) (vB : val Bs = y % 4294967296 ^ k) {i : Nat} (hi : i < 32 * k) :
    bitZ (val (List.zipWith (comb (op : Int)) As Bs)) i = tb op (bitZ x i) (bitZ y i) := by
  obtain ⟨q, hq⟩ : ∃ q, i / 32 = q := ⟨_, rfl⟩
  obtain ⟨r, hr⟩ : ∃ r, i % 32 = r := ⟨_, rfl⟩
  have hi2 : i = 32 * q + r := by omega
  have hrl : r < 32 := by omega
  have hA1 := Lim_getD hA q
  have hB1 := Lim_getD hB q
  have ea : bitZ x i = bitZ (As.getD q 0) r := by
    rw [← limb_bit (by omega) hA hrl, ← hi2, vA, base_pow, bitZ_mod x hi]
  have eb : bitZ y i = bitZ (Bs.getD q 0) r := by
    rw [← limb_bit (by omega) hB hrl, ← hi2, vB, base_pow, bitZ_mod y hi]
  rw [ea, eb, ← comb_bit hA1.1 hA1.2 hB1.1 hB1.2 hrl, ← zip_getD (f := comb (op : Int)) (As := As) (Bs := Bs) (q := q) (by omega) (by omega), hi2, limb_bit (by rw [List.length_zipWith]; omega) zip_lim hrl]

/-- the bits of the signed number of words -/
theorem sval_bit {v : Int} {n i : Nat} (h0 : 0 ≤ v) (h1 : v < 2 ^ (n + 1)) : bitZ (if 2 ^ (n + 1) ≤ 2 * v then v - 2 ^ (n + 1) else v) i = if i < n + 1 then bitZ v i else bitZ v n := by
  have hp : (0 : Int) < 2 ^ n := Int.pow_pos (by omega)
  have hs : (2 : Int) ^ (n + 1) = 2 ^ n * 2 := Int.pow_succ ..
  have htop : bitZ v n = decide ((2 : Int) ^ (n + 1) ≤ 2 * v) := by
    unfold bitZ
    by_cases h : (2 : Int) ^ (n + 1) ≤ 2 * v
    · rw [decide_eq_true h]
      have e : v = (v - 2 ^ n) + 2 ^ n * 1 := by omega
      rw [e, Int.add_mul_ediv_left _ _ (by omega), Int.ediv_eq_zero_of_lt (by omega) (by omega)]
      rfl
    · rw [decide_eq_false h, Int.ediv_eq_zero_of_lt h0 (by omega)]
      rfl
  by_cases hi : i < n + 1
  · rw [if_pos hi]
    split
    · have := bitZ_mod (v - 2 ^ (n + 1)) hi
      rw [← this, Int.sub_emod_right, bitZ_mod v hi]
    · rfl
  · rw [if_neg hi, htop]
    obtain ⟨m, rfl⟩ : ∃ m, i = n + 1 + m := ⟨i - (n + 1), by omega⟩
    have hm : (2 : Int) ^ (n + 1) ≤ 2 ^ (n + 1 + m) := by
      rw [Int.pow_add _ (n + 1) m]
      have h2 : (1 : Int) ≤ 2 ^ m := by have : (0 : Int) < 2 ^ m := Int.pow_pos (by omega); omega
      have : (2 : Int) ^ (n + 1) * 1 ≤ 2 ^ (n + 1) * 2 ^ m := Int.mul_le_mul_of_nonneg_left h2 (by omega)
      omega
    by_cases h : (2 : Int) ^ (n + 1) ≤ 2 * v
    · rw [if_pos h, decide_eq_true h]
      unfold bitZ
      have e : v - 2 ^ (n + 1) = (v - 2 ^ (n + 1) + 2 ^ (n + 1 + m)) + 2 ^ (n + 1 + m) * (-1) := by omega
      rw [e, Int.add_mul_ediv_left _ _ (by omega), Int.ediv_eq_zero_of_lt (by omega) (by omega)]
      rfl
    · rw [if_neg h, decide_eq_false h]
      unfold bitZ
      rw [Int.ediv_eq_zero_of_lt h0 (by omega)]
      rfl

theorem bitZ_big {w : World} {neg : Bool} {ao : Option Addr} {n cap : Nat} {zs : List Int} {x : Int} (h : IntAt w neg ao n cap zs x) {i : Nat} (hi : 32 * n ≤ i) : bitZ x i = neg := by
  rw [h.val]
  refine bit_far (n := n) (val_nonneg h.lim) ?_ ?_ hi
  · have := val_lt h.lim; rwa [h.sl.len] at this
  · intro hh; have h1 := val_pos_of_top h.lim h.top (h.sign hh); have h2 := pow_pos (zs.length - 1); omega

theorem ofSign_bit (s : Bool) (v i : Nat) : bitZ (ofSign s (v : Int)) i = ((v / 2 ^ i % 2 == 1) != s) := by
  cases s with
  | false => show bitZ (v : Int) i = _; rw [bitZ_nat]; simp
  | true =>
    show bitZ (-1 - (v : Int)) i = _
    rw [bitZ_compl]
    cases (v / 2 ^ i % 2 == 1) <;> rfl

theorem boolR_bit (op : Nat) (x y : Int) (i : Nat) : bitZ (boolR op (decide (x < 0)) (decide (y < 0)) x y (max (blen (cpl x).toNat) (blen (cpl y).toNat))) i = tb op (bitZ x i) (bitZ y i) := by
  unfold boolR
  obtain ⟨k, hk⟩ : ∃ k, max (blen (cpl x).toNat) (blen (cpl y).toNat) = k := ⟨_, rfl⟩
  rw [hk, ofSign_bit]
  obtain ⟨s, hs⟩ : ∃ s, tb op (decide (x < 0)) (decide (y < 0)) = s := ⟨_, rfl⟩
  rw [hs]
  by_cases hi : i < k
  · rw [bval_bit _ _ _ hi, bitZ_of, bitZ_of]
    cases tb op (bitZ x i) (bitZ y i) <;> cases s <;> rfl
  · rw [Nat.div_eq_of_lt (Nat.lt_of_lt_of_le (bval_lt _ k) (Nat.pow_le_pow_right (by omega) (by omega)))]
    have far : ∀ z : Int, blen (cpl z).toNat ≤ i → bitZ z i = decide (z < 0) := by
      intro z hz
      rw [← bitZ_of]
      unfold bitOf
      rw [Nat.div_eq_of_lt (blen_le_iff.1 hz)]
      cases decide (z < 0) <;> rfl
    rw [far x (by omega), far y (by omega), hs]
    cases s <;> rfl

theorem boole_same {w1 w2 : World} {op k : Nat} {nx ny : Bool} {ao bo : Option Addr} {n m capa capb : Nat} {xs ys As Bs : List Int} {x y : Int} (hx : IntAt w1 nx ao n capa xs x) (hy : IntAt w2 ny bo m capb ys y) (hk : k = max n m + 1)
    (la : As.length = k) (lb : Bs.length = k) (hA : Lim As) (hB : Lim Bs) (vA : val As = x % 4294967296 ^ k) (vB : val Bs = y % 4294967296 ^ k) :
    sval k (val (List.zipWith (comb (op : Int)) As Bs)) = boolR op nx ny x y (max (blen (cpl x).toNat) (blen (cpl y).toNat)) := by
  refine eq_of_bits fun i => ?_
  have e1 := neg_iff' hx
  have e2 := neg_iff' hy
  have hZ0 := val_nonneg (zs := List.zipWith (comb (op : Int)) As Bs) zip_lim
  have hZ1 := val_lt (zs := List.zipWith (comb (op : Int)) As Bs) zip_lim
  rw [List.length_zipWith, la, lb, Nat.min_self] at hZ1
  rw [show (boolR op nx ny x y (max (blen (cpl x).toNat) (blen (cpl y).toNat))) = boolR op (decide (x < 0)) (decide (y < 0)) x y (max (blen (cpl x).toNat) (blen (cpl y).toNat)) by rw [← e1, ← e2], boolR_bit]
  obtain ⟨t, ht⟩ : ∃ t, 32 * k = t + 1 := ⟨32 * k - 1, by omega⟩
  unfold sval
  rw [base_pow, ht] at hZ1 ⊢
  rw [sval_bit hZ0 hZ1]
  by_cases hi : i < t + 1
  · rw [if_pos hi, zip_bit la lb hA hB vA vB (by omega)]
  · rw [if_neg hi, zip_bit la lb hA hB vA vB (by omega), bitZ_big hx (by omega), bitZ_big hy (by omega), bitZ_big hx (by omega), bitZ_big hy (by omega)]
end Go.Proofs.Ytpakfknacmcohaa
