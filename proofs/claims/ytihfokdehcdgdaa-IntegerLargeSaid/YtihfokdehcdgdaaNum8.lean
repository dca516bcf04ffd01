/- bitLength and Length. -/
import Derived.Test.YtihfokdehcdgdaaNum7
namespace Go.Proofs.Ytihfokdehcdgdaa
open Go.RowKit
set_option autoImplicit false
set_option linter.unusedVariables false

theorem blen_val {zs : List Int} (lz : Lim zs) (tz : Top zs) (hne : zs ≠ []) : (blen (val zs).toNat : Int) = 32 * ((zs.length : Int) - 1) + (blen (zs.getD (zs.length - 1) 0).toNat : Int) := by
  have hl : 0 < zs.length := by
    rcases zs with _ | ⟨z, zs⟩
    · exact absurd rfl hne
    · simp
  obtain ⟨k, hk⟩ : ∃ k, zs.length = k + 1 := ⟨zs.length - 1, by omega⟩
  have hd := Lim_getD lz (zs.length - 1)
  have ht0 : zs.getD (zs.length - 1) 0 ≠ 0 := by rcases tz with h | h; exact absurd h hne; exact h
  have hs := val_split zs (zs.length - 1)
  rw [drop_getD (by omega : zs.length - 1 < zs.length), show zs.length - 1 + 1 = zs.length by omega, List.drop_of_length_le (Nat.le_refl _), List.length_take, Nat.min_eq_left (by omega)] at hs
  simp only [val] at hs
  have h1 := val_nonneg (Lim_take lz (zs.length - 1))
  have h2 := val_lt (Lim_take lz (zs.length - 1))
  rw [List.length_take, Nat.min_eq_left (by omega)] at h2
  rw [hk] at hs h1 h2 hd ht0 ⊢
  simp only [Nat.add_sub_cancel] at hs h1 h2 hd ht0 ⊢
  obtain ⟨t, ht⟩ : ∃ t : Nat, zs.getD k 0 = t := ⟨(zs.getD k 0).toNat, by omega⟩
  obtain ⟨r, hr⟩ : ∃ r : Nat, val (zs.take k) = r := ⟨(val (zs.take k)).toNat, by omega⟩
  rw [ht, hr] at hs
  rw [hr] at h2
  rw [ht] at ht0
  have hp : (4294967296 : Int) ^ k = ((2 ^ (32 * k) : Nat) : Int) := by rw [base_pow]; simp
  rw [hp] at hs h2
  have hv : val zs = ((r + 2 ^ (32 * k) * t : Nat) : Int) := by rw [hs]; simp
  have hr2 : r < 2 ^ (32 * k) := by omega
  have hpos : 0 < 2 ^ (32 * k) := Nat.two_pow_pos _
  have ht1 : 1 ≤ t := by omega
  have hdiv : (r + 2 ^ (32 * k) * t) / 2 ^ (32 * k) = t := by
    rw [Nat.add_mul_div_left _ _ hpos, Nat.div_eq_of_lt hr2, Nat.zero_add]
  have hge : 2 ^ (32 * k) ≤ r + 2 ^ (32 * k) * t := by
    have : 2 ^ (32 * k) * 1 ≤ 2 ^ (32 * k) * t := Nat.mul_le_mul_left _ ht1
    omega
  have hb := blen_div (r + 2 ^ (32 * k) * t) (32 * k) hge
  rw [hdiv] at hb
  rw [hv, ht, Int.toNat_natCast, Int.toNat_natCast, hb]
  omega

set_option maxRecDepth 100000 in
theorem bitlen_any (w : World) (ao : Option Addr) (n cap : Nat) (zs : List Int) (h : Sl w ao n cap zs) (lz : Lim zs) (tz : Top zs) (hn : n ≤ 34359738368) :
    Calls Try.prog 77 #[.slice ao n cap] w (RetQ w (.int .i64 (blen (val zs).toNat : Int))) := by
  have hlen := h.len
  by_cases h0 : n = 0
  · have hz : zs = [] := List.eq_nil_of_length_eq_zero (by omega)
    have hv : (blen (val zs).toNat : Int) = 0 := by rw [hz]; rfl
    rw [hv]
    subst h0
    clear hlen hv h
    go_enter Try.func77, Try.ntmps77
    go_wp2_with fail
    go_ret
    exact ⟨rfl, 0, rfl⟩
  · have hne : zs ≠ [] := by intro hh; rw [hh] at hlen; simp at hlen; omega
    have hb := blen_val lz tz hne
    rw [hlen] at hb
    obtain ⟨b, o, rfl, hc⟩ := h.cells.at (k := n - 1) (by omega)
    have hd := Lim_getD lz (n - 1)
    obtain ⟨t, ht⟩ : ∃ t : Nat, zs.getD (n - 1) 0 = t := ⟨(zs.getD (n - 1) 0).toNat, by omega⟩
    rw [ht] at hb hc hd
    rw [Int.toNat_natCast] at hb
    rw [hb]
    have hcap := h.le
    have hmx : cap ≤ 9223372036854775807 := by have := h.most; unfold maxLen at this; omega
    obtain ⟨k, rfl⟩ : ∃ k, n = k + 1 := ⟨n - 1, by omega⟩
    simp only [Nat.add_sub_cancel] at hc
    have HL := Lib.hid (len32_any w t (by omega))
    have hbt : blen t ≤ 32 := by
      unfold blen
      split
      · omega
      · have := (Nat.log2_lt (n := t) (k := 32) (by omega)).2 (by omega)
        omega
    have hne0 : (((k + 1 : Nat) : Int) == 0) = false := by simp; omega
    clear hlen hne hb hd ht h
    go_enter Try.func77, Try.ntmps77
    go_wp2_with fail
    refine HL.out.mono ?_
    rintro e w1 ⟨rfl, rfl⟩
    go_wp2_with fail
    go_ret
    refine ⟨congrArg (fun x => Ending.returned (.int .i64 x)) ?_, 0, rfl⟩
    omega

theorem length_any (w : World) (nx : Bool) (ao : Option Addr) (n cap : Nat) (xs : List Int) (x : Int) (hx : IntAt w nx ao n cap xs x) (hn : n ≤ 34359738368) :
    Calls Try.prog 26 #[.agg #[.bool nx, .slice ao n cap]] w (RetV w (.int .i64 (blen (cpl x).toNat : Int))) := by
  have HX := Lib.hid hx
  clear hx
  go_enter Try.func26, Try.ntmps26
  go_wp2_with fail
  refine (complement_any _ nx ao n cap xs x (HX.out.below (by go_grown)) hn).mono ?_
  rintro e w1 ⟨a1, k1, c1, z1, rfl, hown, hl1, ht1, hv1, hk1, hb1⟩
  have HO := Lib.hid hown.sl
  have HV := Lib.hid hv1
  have hb2 : Below w.heap.size w w1 := Below.trans (by go_grown) (hb1.mono (by go_size))
  clear hown hb1 hv1
  go_wp2_with fail
  refine (bitlen_any w1 a1 k1 c1 z1 HO.out hl1 ht1 (by omega)).mono ?_
  rintro e w2 ⟨rfl, q, rfl⟩
  go_wp2_with fail
  go_ret
  exact ⟨congrArg (fun x => Ending.returned (.int .i64 (blen (Int.toNat x) : Int))) HV.out, below_drewN hb2 q⟩
end Go.Proofs.Ytihfokdehcdgdaa
