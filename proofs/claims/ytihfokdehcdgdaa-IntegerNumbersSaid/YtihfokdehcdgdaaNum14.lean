/- The reference's set: one binary digit. -/
import Derived.Test.YtihfokdehcdgdaaNum13
namespace Go.Proofs.Ytihfokdehcdgdaa
open Go.RowKit
set_option autoImplicit false
set_option linter.unusedVariables false

theorem digit_bit (d rest r : Nat) (h : r < 16) : (d + 65536 * rest) / 2 ^ r % 2 = d / 2 ^ r % 2 := by
  have e : 65536 * rest = 2 ^ r * (2 ^ (16 - r) * rest) := by
    rw [← Nat.mul_assoc, ← Nat.pow_add, show r + (16 - r) = 16 by omega]
  rw [e, Nat.add_mul_div_left _ _ (Nat.two_pow_pos r)]
  have e2 : 2 ^ (16 - r) * rest = 2 * (2 ^ (16 - r - 1) * rest) := by
    rw [← Nat.mul_assoc]
    congr 1
    have : 16 - r = (16 - r - 1) + 1 := by omega
    rw [this, Nat.pow_succ, Nat.mul_comm]
    simp
  omega

theorem dval_bit {zs : List Int} (lz : Dig 65536 zs) (q r : Nat) (hr : r < 16) : (dval 65536 zs).toNat / 2 ^ (16 * q + r) % 2 = (zs.getD q 0).toNat / 2 ^ r % 2 := by
  have h1 := dval_nonneg (r := 65536) (by omega) (Dig_take lz q)
  have h2 := dval_lt (r := 65536) (by omega) (Dig_take lz q)
  by_cases hq : q < zs.length
  · have hs := dval_split 65536 zs q
    rw [drop_getD hq, List.length_take, Nat.min_eq_left (by omega)] at hs
    rw [List.length_take, Nat.min_eq_left (by omega)] at h2
    simp only [dval] at hs
    have hd := Dig_getD (by omega : (0 : Int) < 65536) lz q
    have h3 := dval_nonneg (r := 65536) (by omega) (Dig_drop lz (q + 1))
    obtain ⟨a, ha⟩ : ∃ a : Nat, dval 65536 (zs.take q) = a := ⟨(dval 65536 (zs.take q)).toNat, by omega⟩
    obtain ⟨b, hb⟩ : ∃ b : Nat, zs.getD q 0 = b := ⟨(zs.getD q 0).toNat, by omega⟩
    obtain ⟨c, hc⟩ : ∃ c : Nat, dval 65536 (zs.drop (q + 1)) = c := ⟨(dval 65536 (zs.drop (q + 1))).toNat, by omega⟩
    rw [ha, hb, hc, pow16] at hs
    rw [ha, pow16] at h2
    have hv : dval 65536 zs = ((a + 2 ^ (16 * q) * (b + 65536 * c) : Nat) : Int) := by rw [hs]; simp
    have ha2 : a < 2 ^ (16 * q) := by omega
    have hX : (a + 2 ^ (16 * q) * (b + 65536 * c)) / 2 ^ (16 * q) = b + 65536 * c := by
      rw [Nat.add_mul_div_left _ _ (Nat.two_pow_pos _), Nat.div_eq_of_lt ha2, Nat.zero_add]
    rw [hv, hb, Int.toNat_natCast, Int.toNat_natCast, Nat.pow_add, ← Nat.div_div_eq_div_mul, hX]
    exact digit_bit b c r hr
  · rw [getD_ge (by omega)]
    rw [List.take_of_length_le (by omega)] at h1 h2
    have hle := rpow_le (r := 65536) (by omega) (show zs.length ≤ q by omega)
    rw [pow16 q] at hle
    have hlt : (dval 65536 zs).toNat < 2 ^ (16 * q + r) := by
      rw [Nat.pow_add]
      have : 2 ^ (16 * q) * 1 ≤ 2 ^ (16 * q) * 2 ^ r := Nat.mul_le_mul_left _ (Nat.two_pow_pos r)
      omega
    rw [Nat.div_eq_of_lt hlt]
    simp

theorem one_bit (p : Nat) : ((p : Int) % 2 == 1) = (p % 2 == 1) := by
  rw [Bool.eq_iff_iff]
  simp
  omega

set_option maxRecDepth 100000 in
theorem rset_any (w : World) (nx : Bool) (ao : Option Addr) (n cap : Nat) (xs : List Int) (x : Int) (hx : RefAt w nx ao n cap xs x) (hn : n ≤ 34359738368) (i : Nat) (hi : i ≤ 1099511627776) :
    Calls Try.prog 105 #[.agg #[.bool nx, .slice ao n cap], .int .i64 (i : Int)] w (RetV w (.bool (x.natAbs / 2 ^ i % 2 == 1))) := by
  have hlen := hx.sl.len
  have habs : x.natAbs = (dval 65536 xs).toNat := by
    have h0 := dval_nonneg (r := 65536) (by omega) hx.lim
    rw [hx.val]
    cases nx <;> simp [sgn] <;> omega
  have hb := dval_bit hx.lim (i / 16) (i % 16) (by omega)
  rw [show 16 * (i / 16) + i % 16 = i by omega, ← habs] at hb
  rw [hb]
  have ei : (i : Int) / 16 = ((i / 16 : Nat) : Int) := by omega
  have er : (i : Int) % 16 = ((i % 16 : Nat) : Int) := by omega
  obtain ⟨q, hq⟩ : ∃ q, i / 16 = q := ⟨_, rfl⟩
  obtain ⟨r, hr⟩ : ∃ r, i % 16 = r := ⟨_, rfl⟩
  rw [hq] at ei hb ⊢
  rw [hr] at er hb ⊢
  have hrl : r < 16 := by omega
  clear hb habs
  by_cases hqn : q < n
  · obtain ⟨b, o, rfl, hc⟩ := hx.sl.cells.at (k := q) (by omega)
    have hd := Dig_getD (by omega : (0 : Int) < 65536) hx.lim q
    obtain ⟨d, hdd⟩ : ∃ d : Nat, xs.getD q 0 = d := ⟨(xs.getD q 0).toNat, by omega⟩
    rw [hdd] at hc hd ⊢
    rw [Int.toNat_natCast]
    have hcap := hx.sl.le
    have hmx : cap ≤ 9223372036854775807 := by have := hx.sl.most; unfold maxLen at this; omega
    have hbw := World.block_lt_of_cell? w _ hc
    have hne2 := World.new_ne w _ hc
    have hqi : (q : Int) < n := by omega
    have hq0 : (0 : Int) ≤ q := by omega
    have hi0 : (0 : Int) ≤ i := by omega
    have hd1 : d < 65536 := by omega
    clear hlen hdd hd hx hq hr
    go_enter Try.func105, Try.ntmps105
    go_wp2_with fail
    go_loopw [5, 6] (fun c k wr => ∃ (j : Nat), j ≤ r ∧ k = .int .i64 j ∧ c = .int .i64 ((d / 2 ^ j : Nat) : Int) ∧ Below w.heap.size w wr) (fun _ k _ => r - (intOf k).toNat)
    case atStart => exact ⟨0, by omega, rfl, by simp, by go_grown⟩
    case round =>
      obtain ⟨j, hj, rfl, rfl, hbel⟩ := hrel
      have HB := Lib.hid hbel
      have hpl : d / 2 ^ j ≤ d := Nat.div_le_self _ _
      have hpd : d / 2 ^ j / 2 = d / 2 ^ (j + 1) := by rw [Nat.div_div_eq_div_mul, Nat.pow_succ]
      obtain ⟨p, hp⟩ : ∃ p, d / 2 ^ j = p := ⟨_, rfl⟩
      rw [hp] at hpl hpd ⊢
      have HP := Lib.hid hp
      have HPD := Lib.hid hpd
      clear hbel hp hpd
      by_cases hjr : j < r
      · have hji : (j : Int) < r := by omega
        go_wp2_with fail
        go_roundw
        case rel => exact ⟨j + 1, by omega, by go_num, by rw [← HPD.out]; go_num, HB.out⟩
        case measure => simp [intOf]; omega
      · obtain rfl : j = r := by omega
        have hji : ¬ (j : Int) < j := by omega
        go_wp2_with fail
        go_ret
        refine ⟨congrArg (fun x => Ending.returned (.bool x)) ?_, HB.out⟩
        rw [one_bit, ← HP.out]
  · have hz : xs.getD q 0 = 0 := getD_ge (by omega)
    have hv : ((xs.getD q 0).toNat / 2 ^ r % 2 == 1) = false := by rw [hz]; simp
    rw [hv]
    have hqi : ¬ (q : Int) < n := by omega
    have hqi2 : (n : Int) ≤ q := by omega
    have hi0 : (0 : Int) ≤ i := by omega
    clear hlen hx hv hz hq hr er
    go_enter Try.func105, Try.ntmps105
    go_wp2_with fail
    go_ret
    exact ⟨rfl, by go_grown⟩
end Go.Proofs.Ytihfokdehcdgdaa
