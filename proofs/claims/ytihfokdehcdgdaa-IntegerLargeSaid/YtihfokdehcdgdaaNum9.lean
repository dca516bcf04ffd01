/- The reference's width and Length. -/
import Derived.Test.YtihfokdehcdgdaaNum8
namespace Go.Proofs.Ytihfokdehcdgdaa
open Go.RowKit
set_option autoImplicit false
set_option linter.unusedVariables false

theorem pow16 (n : Nat) : (65536 : Int) ^ n = ((2 ^ (16 * n) : Nat) : Int) := by
  rw [Nat.pow_mul]
  simp

theorem blen_dval {zs : List Int} (lz : Dig 65536 zs) (tz : Top zs) (hne : zs ≠ []) : (blen (dval 65536 zs).toNat : Int) = 16 * ((zs.length : Int) - 1) + (blen (zs.getD (zs.length - 1) 0).toNat : Int) := by
  have hl : 0 < zs.length := by
    rcases zs with _ | ⟨z, zs⟩
    · exact absurd rfl hne
    · simp
  obtain ⟨k, hk⟩ : ∃ k, zs.length = k + 1 := ⟨zs.length - 1, by omega⟩
  have hd := Dig_getD (by omega : (0 : Int) < 65536) lz (zs.length - 1)
  have ht0 : zs.getD (zs.length - 1) 0 ≠ 0 := by rcases tz with h | h; exact absurd h hne; exact h
  have hs := dval_split 65536 zs (zs.length - 1)
  rw [drop_getD (by omega : zs.length - 1 < zs.length), show zs.length - 1 + 1 = zs.length by omega, List.drop_of_length_le (Nat.le_refl _), List.length_take, Nat.min_eq_left (by omega)] at hs
  simp only [dval] at hs
  have h1 := dval_nonneg (r := 65536) (by omega) (Dig_take lz (zs.length - 1))
  have h2 := dval_lt (r := 65536) (by omega) (Dig_take lz (zs.length - 1))
  rw [List.length_take, Nat.min_eq_left (by omega)] at h2
  rw [hk] at hs h1 h2 hd ht0 ⊢
  simp only [Nat.add_sub_cancel] at hs h1 h2 hd ht0 ⊢
  obtain ⟨t, ht⟩ : ∃ t : Nat, zs.getD k 0 = t := ⟨(zs.getD k 0).toNat, by omega⟩
  obtain ⟨r, hr⟩ : ∃ r : Nat, dval 65536 (zs.take k) = r := ⟨(dval 65536 (zs.take k)).toNat, by omega⟩
  rw [ht, hr] at hs
  rw [hr] at h2
  rw [ht] at ht0
  rw [pow16] at hs h2
  have hv : dval 65536 zs = ((r + 2 ^ (16 * k) * t : Nat) : Int) := by rw [hs]; simp
  have hr2 : r < 2 ^ (16 * k) := by omega
  have hpos : 0 < 2 ^ (16 * k) := Nat.two_pow_pos _
  have ht1 : 1 ≤ t := by omega
  have hdiv : (r + 2 ^ (16 * k) * t) / 2 ^ (16 * k) = t := by
    rw [Nat.add_mul_div_left _ _ hpos, Nat.div_eq_of_lt hr2, Nat.zero_add]
  have hge : 2 ^ (16 * k) ≤ r + 2 ^ (16 * k) * t := by
    have : 2 ^ (16 * k) * 1 ≤ 2 ^ (16 * k) * t := Nat.mul_le_mul_left _ ht1
    omega
  have hb := blen_div (r + 2 ^ (16 * k) * t) (16 * k) hge
  rw [hdiv] at hb
  rw [hv, ht, Int.toNat_natCast, Int.toNat_natCast, hb]
  omega

theorem blen_half {t : Nat} (h : 0 < t) : blen t = blen (t / 2) + 1 := by
  by_cases h1 : t = 1
  · subst h1; decide
  · have := blen_div t 1 (by simp; omega)
    simpa using this

set_option maxRecDepth 100000 in
theorem rwidth_any (w : World) (nx : Bool) (ao : Option Addr) (n cap : Nat) (xs : List Int) (x : Int) (hx : RefAt w nx ao n cap xs x) (hn : n ≤ 34359738368) :
    Calls Try.prog 79 #[.agg #[.bool nx, .slice ao n cap]] w (RetV w (.int .i64 (blen x.natAbs : Int))) := by
  have hlen := hx.sl.len
  have habs : x.natAbs = (dval 65536 xs).toNat := by
    have h0 := dval_nonneg (r := 65536) (by omega) hx.lim
    rw [hx.val]
    cases nx <;> simp [sgn] <;> omega
  by_cases h0 : n = 0
  · have hz : xs = [] := List.eq_nil_of_length_eq_zero (by omega)
    have hv : (blen x.natAbs : Int) = 0 := by rw [habs, hz]; rfl
    rw [hv]
    subst h0
    clear hlen hv hx habs
    go_enter Try.func79, Try.ntmps79
    go_wp2_with fail
    go_ret
    exact ⟨rfl, by go_grown⟩
  · have hne : xs ≠ [] := by intro hh; rw [hh] at hlen; simp at hlen; omega
    have hb := blen_dval hx.lim hx.top hne
    rw [hlen] at hb
    obtain ⟨b, o, rfl, hc⟩ := hx.sl.cells.at (k := n - 1) (by omega)
    have hd := Dig_getD (by omega : (0 : Int) < 65536) hx.lim (n - 1)
    obtain ⟨t0, ht⟩ : ∃ t : Nat, xs.getD (n - 1) 0 = t := ⟨(xs.getD (n - 1) 0).toNat, by omega⟩
    rw [ht] at hb hc hd
    rw [Int.toNat_natCast] at hb
    rw [habs, hb]
    have hcap := hx.sl.le
    have hmx : cap ≤ 9223372036854775807 := by have := hx.sl.most; unfold maxLen at this; omega
    obtain ⟨k, rfl⟩ : ∃ k, n = k + 1 := ⟨n - 1, by omega⟩
    simp only [Nat.add_sub_cancel] at hc
    have hbw := World.block_lt_of_cell? w _ hc
    have hne2 := World.new_ne w _ hc
    have hd1 : t0 < 65536 := by omega
    have hbt : blen t0 ≤ 16 := by
      unfold blen
      split
      · omega
      · have := (Nat.log2_lt (n := t0) (k := 16) (by omega)).2 (by omega)
        omega
    have hne0 : (((k + 1 : Nat) : Int) == 0) = false := by simp; omega
    clear hlen hne hb hd ht hx habs
    go_enter Try.func79, Try.ntmps79
    go_wp2_with fail
    go_loopw [3, 4] (fun c t wr => ∃ (p q : Nat), t = .int .i64 p ∧ c = .int .i64 q ∧ p ≤ t0 ∧ q + blen p = 16 * k + blen t0 ∧ Below w.heap.size w wr) (fun _ t _ => (intOf t).toNat)
    case atStart => exact ⟨t0, 16 * k, rfl, by go_num, by omega, by omega, by go_grown⟩
    case round =>
      obtain ⟨p, q, rfl, rfl, hpt, hpq, hbel⟩ := hrel
      have HB := Lib.hid hbel
      clear hbel
      by_cases hp : 0 < p
      · have hp' : (0 : Int) < p := by omega
        have hh := blen_half hp
        have HQ := Lib.hid (show q + 1 + blen (p / 2) = 16 * k + blen t0 by omega)
        have hq : q ≤ 600000000000 := by omega
        clear hh hpq
        go_wp2_with fail
        go_roundw
        case rel => exact ⟨p / 2, q + 1, by go_num, by go_num, by omega, HQ.out, HB.out⟩
        case measure => simp [intOf]; omega
      · obtain rfl : p = 0 := by omega
        have hq : q = 16 * k + blen t0 := by simpa [blen] using hpq
        have HQ := Lib.hid hq
        clear hpq hq
        go_wp2_with fail
        go_ret
        exact ⟨congrArg (fun x => Ending.returned (.int .i64 x)) (by rw [HQ.out]; omega), HB.out⟩
end Go.Proofs.Ytihfokdehcdgdaa
