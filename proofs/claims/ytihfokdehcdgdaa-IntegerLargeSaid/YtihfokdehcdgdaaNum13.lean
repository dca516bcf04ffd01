/- Count of the program's integers. -/
import Derived.Test.YtihfokdehcdgdaaNum12
namespace Go.Proofs.Ytihfokdehcdgdaa
open Go.RowKit
set_option autoImplicit false
set_option linter.unusedVariables false

/-- The number of ones. -/
def pops (v : Nat) : Nat := onesTo v (blen v)

theorem blen_lt (v : Nat) : v < 2 ^ blen v := by
  unfold blen
  by_cases h : v = 0
  · subst h; decide
  · rw [if_neg h]
    exact Nat.lt_log2_self

theorem onesTo_zero (k : Nat) : onesTo 0 k = 0 := by
  induction k with
  | zero => rfl
  | succ k ih => simp [onesTo, ih]

theorem onesTo_big (v k : Nat) (h : v < 2 ^ k) : onesTo v k = pops v := by
  unfold pops
  have hb : blen v ≤ k := by
    unfold blen
    by_cases h0 : v = 0
    · rw [if_pos h0]; omega
    · rw [if_neg h0]
      have := (Nat.log2_lt (n := v) (k := k) h0).2 h
      omega
  obtain ⟨j, rfl⟩ : ∃ j, k = blen v + j := ⟨k - blen v, by omega⟩
  rw [onesTo_add, Nat.div_eq_of_lt (blen_lt v), onesTo_zero]
  rfl

theorem ones_snoc {zs : List Int} (lz : Lim zs) {j : Nat} {t : Nat} (ht : zs.getD j 0 = t) :
    onesTo (val (zs.take (j + 1))).toNat (32 * (j + 1)) = onesTo (val (zs.take j)).toNat (32 * j) + onesTo t 32 := by
  have h1 := val_nonneg (Lim_take lz j)
  have h2 := val_lt (Lim_take lz j)
  obtain ⟨r, hr⟩ : ∃ r : Nat, val (zs.take j) = r := ⟨(val (zs.take j)).toNat, by omega⟩
  have hlen : (zs.take j).length ≤ j := by rw [List.length_take]; omega
  have h3 := pow_le hlen
  have hp : (4294967296 : Int) ^ j = ((2 ^ (32 * j) : Nat) : Int) := by rw [base_pow]; simp
  rw [val_take_succ, ht, hr]
  rw [hr] at h2
  rw [hp] at h3 ⊢
  have hv : ((r : Int) + ((2 ^ (32 * j) : Nat) : Int) * (t : Int)) = ((r + 2 ^ (32 * j) * t : Nat) : Int) := by simp
  rw [hv, Int.toNat_natCast, Int.toNat_natCast, show 32 * (j + 1) = 32 * j + 32 by omega, onesTo_add]
  have hr2 : r < 2 ^ (32 * j) := by omega
  have hpos : 0 < 2 ^ (32 * j) := Nat.two_pow_pos _
  rw [Nat.add_mul_div_left _ _ hpos, Nat.div_eq_of_lt hr2, Nat.zero_add, ← onesTo_mod (r + 2 ^ (32 * j) * t) (32 * j) (32 * j) (Nat.le_refl _), Nat.add_mul_mod_self_left, Nat.mod_eq_of_lt hr2]

set_option maxRecDepth 100000 in
theorem count_any (w : World) (nx : Bool) (ao : Option Addr) (n cap : Nat) (xs : List Int) (x : Int) (hx : IntAt w nx ao n cap xs x) (hn : n ≤ 34359738368) :
    Calls Try.prog 28 #[.agg #[.bool nx, .slice ao n cap]] w (RetV w (.int .i64 (pops (cpl x).toNat : Int))) := by
  have HX := Lib.hid hx
  clear hx
  go_enter Try.func28, Try.ntmps28
  go_wp2_with fail
  refine (complement_any _ nx ao n cap xs x (HX.out.below (by go_grown)) hn).mono ?_
  rintro e w1 ⟨a1, k1, c1, zs, rfl, hown, hl1, ht1, hv1, hk1, hb1⟩
  have HL : Hid (zs.length = k1) := hown.sl.len
  have HO := Lib.hid hown.sl
  have HV := Lib.hid hv1
  have HB := Lib.hid (show Below w.heap.size w w1 from Below.trans (by go_grown) (hb1.mono (by go_size)))
  have hcap := hown.sl.le
  have hmx : c1 ≤ 9223372036854775807 := by have := hown.sl.most; unfold maxLen at this; omega
  have hl2 : ∀ j, zs.getD j 0 = ((zs.getD j 0).toNat : Int) ∧ (zs.getD j 0).toNat < 4294967296 := fun j => by have := Lim_getD hl1 j; omega
  have HL2 := Lib.hid hl2
  have HLM := Lib.hid hl1
  clear hown hb1 hv1 hl2 hl1
  go_wp2_with fail
  go_loopw [3, 9] (fun c i wr => ∃ (j q : Nat), j ≤ k1 ∧ i = .int .i64 j ∧ c = .int .i64 q ∧ q = onesTo (val (zs.take j)).toNat (32 * j) ∧ ∃ m, wr = w1.drewN m) (fun _ i _ => k1 - (intOf i).toNat)
  case atStart => exact ⟨0, 0, by omega, rfl, rfl, rfl, 0, rfl⟩
  case round =>
    obtain ⟨j, q, hj, rfl, rfl, hq, m, rfl⟩ := hrel
    have HQ := Lib.hid hq
    have hqb : q ≤ 32 * j := by rw [hq]; exact onesTo_le _ _
    clear hq
    by_cases hjk : j < k1
    · obtain ⟨b, o, rfl, hc⟩ := HO.out.cells.at (k := j) (by rw [HL.out]; exact hjk)
      obtain ⟨t, ht⟩ : ∃ t, (zs.getD j 0).toNat = t := ⟨_, rfl⟩
      obtain ⟨hz, hlt⟩ := HL2.out j
      rw [ht] at hz hlt
      rw [hz] at hc
      have HZ := Lib.hid hz
      have HON : Hid (∀ w', Calls Try.prog 80 #[.int .u32 (t : Int)] w' (RetQ w' (.int .i64 (onesTo t 32 : Int)))) := Lib.hid (fun w' => ones_any w' t hlt)
      have hob := onesTo_le t 32
      have hji : (j : Int) < k1 := by omega
      clear ht hz
      go_wp2_with fail
      refine (HON.out _).mono ?_
      rintro e w2 ⟨rfl, m2, rfl⟩
      obtain ⟨p, hp⟩ : ∃ p, onesTo t 32 = p := ⟨_, rfl⟩
      have HP := Lib.hid hp
      rw [hp] at hob ⊢
      clear hp
      go_wp2_with fail
      go_roundw
      case rel => exact ⟨j + 1, q + p, by omega, by go_num, by go_num, by rw [ones_snoc HLM.out HZ.out, HP.out, HQ.out], _, by first | rfl | rw [World.drewN_drewN]⟩
      case measure => simp [intOf]; omega
    · obtain rfl : j = k1 := by omega
      have hji : ¬ (j : Int) < j := by omega
      have hfin : q = pops (cpl x).toNat := by
        have h1 := HQ.out
        rw [List.take_of_length_le (by rw [HL.out]; omega), HV.out] at h1
        rw [h1]
        refine onesTo_big _ _ ?_
        have h2 := val_lt HLM.out
        rw [HV.out, HL.out, base_pow] at h2
        have h3 : ((2 : Int) ^ (32 * j)) = ((2 ^ (32 * j) : Nat) : Int) := by simp
        rw [h3] at h2
        have h4 : 0 < 2 ^ (32 * j) := Nat.two_pow_pos _
        omega
      have HF := Lib.hid hfin
      clear hfin
      go_wp2_with fail
      go_ret
      exact ⟨congrArg (fun x => Ending.returned (.int .i64 ((x : Nat) : Int))) HF.out, below_drewN HB.out m⟩
end Go.Proofs.Ytihfokdehcdgdaa
