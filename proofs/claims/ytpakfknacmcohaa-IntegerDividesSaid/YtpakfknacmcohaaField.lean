/- Field of the program's integers: some bits as a number. -/
import Derived.Test.YtpakfknacmcohaaLow
import Derived.Test.YtpakfknacmcohaaShift2
import Derived.Test.YtpakfknacmcohaaBooC
namespace Go.Proofs.Ytpakfknacmcohaa
open Go.RowKit
set_option autoImplicit false
set_option linter.unusedVariables false

theorem inBits_yes (w : World) (k : Int) (h0 : 0 ≤ k) (h1 : k ≤ 65536) : Calls Try.prog 107 #[.int .i64 k] w fun e w' => e = .returned (.bool true) ∧ w = w' := by
  go_enter Try.func107, Try.ntmps107
  go_wp2
  go_ret
  exact ⟨rfl, rfl⟩
theorem inBits_no (w : World) (k : Int) (h : k < 0 ∨ 65536 < k) : Calls Try.prog 107 #[.int .i64 k] w fun e w' => e = .returned (.bool false) ∧ w = w' := by
  rcases h with h | h
  · have h0 : ¬ 0 ≤ k := by omega
    go_enter Try.func107, Try.ntmps107
    go_wp2
    go_ret
    exact ⟨rfl, rfl⟩
  · have h0 : 0 ≤ k := by omega
    have h1 : ¬ k ≤ 65536 := by omega
    go_enter Try.func107, Try.ntmps107
    go_wp2
    go_ret
    exact ⟨rfl, rfl⟩

theorem one_row {w : World} {B : Nat} (h : w.heap[B]? = some (.cells #[.int .u32 1] 99 (0, 0))) : Sl w (some ⟨B, 0, none⟩) 1 1 [1] := by
  refine ⟨rfl, Nat.le_refl _, by unfold maxLen; omega, fun h => by simp at h, .inr ⟨_, _, rfl, ?_⟩⟩
  intro i hi
  obtain rfl : i = 0 := by simp at hi; omega
  exact cell_of_row _ B 0 _ 99 (0, 0) h
theorem lim_one : Lim [1] := by intro z hz; simp at hz; omega

theorem up_all (w : World) (ao : Option Addr) (n cap : Nat) (xs : List Int) (k : Nat) (hx : Sl w ao n cap xs) (lx : Lim xs) (hn : n ≤ 1048576) (hk : k ≤ 65536) :
    Calls Try.prog 98 #[.slice ao n cap, .int .i64 (k : Int)] w (RetNat w (val xs * 2 ^ k) (n + 2049)) := by
  by_cases hn0 : n = 0
  · have hl := hx.len
    have hz : xs = [] := List.eq_nil_of_length_eq_zero (by omega)
    rw [hz]
    subst hn0
    refine (shiftUp_nil w ao cap k).mono ?_
    rintro e w2 ⟨a2, m2, c2, z2, he, ho, h1, h2, h3, h4, h5⟩
    exact ⟨a2, m2, c2, z2, he, ho, h1, h2, by rw [h3]; simp [Go.Proofs.Ytpakfknacmcohaa.val], by omega, h5⟩
  · have := shiftUp_any w ao n cap xs (k / 32) (k % 32) hx lx (by omega) (by omega) (by omega) (by omega)
    rw [show 32 * (k / 32) + k % 32 = k by omega] at this
    refine this.mono ?_
    rintro e w2 ⟨a2, m2, c2, z2, he, ho, h1, h2, h3, h4, h5⟩
    exact ⟨a2, m2, c2, z2, he, ho, h1, h2, h3, by omega, h5⟩

theorem len_pos {zs : List Int} (h : 1 ≤ val zs) : 1 ≤ zs.length := by
  cases zs with
  | nil => simp [val] at h
  | cons a b => simp

set_option maxRecDepth 100000 in
theorem ones_any' (w : World) (k : Nat) (hk : k ≤ 65536) : Calls Try.prog 110 #[.int .i64 (k : Int)] w (RetNat w (2 ^ k - 1) 2050) := by
  go_enter Try.func110, Try.ntmps110
  go_wp2_with fail
  refine (up_all _ _ 1 1 [1] k (one_row (heap_alloc_new w _)) lim_one (by omega) hk).mono ?_
  rintro e w1 ⟨a1, m1, c1, z1, rfl, ho, hl, ht, hv, hm, hb⟩
  have hv1 : val z1 = 2 ^ k := by rw [hv]; simp [val]
  have hp : (1 : Int) ≤ 2 ^ k := by have := Nat.one_le_two_pow (n := k); exact_mod_cast this
  have hlen := len_pos (zs := z1) (by omega)
  rw [ho.sl.len] at hlen
  have hb1 : Below w.heap.size w w1 := Below.trans (by go_grown) (hb.mono (by go_size))
  have HS := Lib.hid ho.sl
  have HV := Lib.hid hv1
  clear ho hv hv1 hb
  go_wp2_with fail
  refine (difference_any _ _ _ m1 1 c1 1 z1 [1] (HS.out.below (by go_grown)) (one_row (heap_alloc_new w1 _)) hl lim_one (by omega) hlen (by rw [HV.out]; simpa [val] using hp)).mono ?_
  rintro e w2 ⟨a2, m2, c2, z2, rfl, ho, hl2, ht2, hv2, hm2, hb2⟩
  have hb3 : Below w1.heap.size w1 w2 := Below.trans (by go_grown) (hb2.mono (by go_size))
  have HO := Lib.hid (Own.mono ho (show w.heap.size ≤ _ by have := hb1.size; simp; omega))
  have HV2 := Lib.hid hv2
  clear ho hv2 hb2
  go_wp2_with fail
  go_ret
  exact ⟨a2, m2, c2, z2, rfl, HO.out, hl2, ht2, by rw [HV2.out, HV.out]; simp [val], by omega, hb1.trans (hb3.mono hb1.size)⟩

theorem cut_bits (x : Int) (a b c : Nat) : x % 2 ^ (a + b + c) / 2 ^ a % 2 ^ b = x / 2 ^ a % 2 ^ b := by
  have e : (2 : Int) ^ (a + b + c) = 2 ^ a * 2 ^ (b + c) := by rw [← Int.pow_add, Nat.add_assoc]
  rw [e, mod_div _ _ _ (Int.pow_pos (by omega)) (Int.pow_pos (by omega)), Int.pow_add, Int.emod_emod_of_dvd _ ⟨_, rfl⟩]

set_option maxRecDepth 100000 in
theorem field_nat (w : World) (nx : Bool) (ao : Option Addr) (n cap : Nat) (xs : List Int) (x : Int) (k at' : Nat) (hx : IntAt w nx ao n cap xs x) (hk : k ≤ 65536) (ha : at' ≤ 65536) :
    Calls Try.prog 108 #[.agg #[.bool nx, .slice ao n cap], .int .i64 (k : Int), .int .i64 (at' : Int)] w (RetNat w (x / 2 ^ at' % 2 ^ k) 4098) := by
  have HX := Lib.hid hx
  obtain ⟨K, hK⟩ : ∃ K : Nat, (k + at' + 31) / 32 + 1 = K := ⟨_, rfl⟩
  have e1 : ((k : Int) + at' + 31) / 32 + 1 = (K : Int) := by omega
  have hcut : x % 4294967296 ^ K / 2 ^ at' % 2 ^ k = x / 2 ^ at' % 2 ^ k := by
    rw [base_pow, show 32 * K = at' + k + (32 * K - at' - k) by omega]
    exact cut_bits _ _ _ _
  have hK1 : K ≤ 4098 := by omega
  have HC := Lib.hid hcut
  clear hx hK hcut
  go_enter Try.func108, Try.ntmps108
  go_wp2_with fail
  refine (words_any _ nx ao n cap xs x K (HX.out.below (by go_grown)) (by omega)).mono ?_
  rintro e w1 ⟨g, zs, rfl, hmine, hzl, hlim, hval, hb⟩
  have hb1 : Below w.heap.size w w1 := Below.trans (by go_grown) (hb.mono (by go_size))
  have HM := Lib.hid (show Own w.heap.size w1 (some ⟨g, 0, none⟩) K K zs from by unfold Mine at hmine; rw [hzl] at hmine; exact Own.mono hmine (by simp))
  have HV := Lib.hid hval
  clear hmine hzl hval hb
  go_wp2_with fail
  refine (trim_own w w1 _ _ _ _ HM.out hlim hb1 HV.out).mono ?_
  rintro e w2 ⟨a2, m2, c2, z2, rfl, ho2, hl2, ht2, hv2, hm2, hb2⟩
  have HS2 := Lib.hid ho2.sl
  have HV2 := Lib.hid hv2
  clear ho2 hv2
  go_wp2_with fail
  refine (down_any w2 a2 m2 c2 z2 at' HS2.out hl2 (by omega) (by omega)).mono ?_
  rintro e w3 ⟨a3, m3, c3, z3, rfl, ho3, hl3, ht3, hv3, hm3, hb3⟩
  have HS3 := Lib.hid ho3.sl
  have HV3 := Lib.hid hv3
  clear ho3 hv3
  go_wp2_with fail
  refine (low_any w3 a3 m3 c3 z3 k HS3.out hl3 (by omega)).mono ?_
  rintro e w4 ⟨a4, m4, c4, z4, rfl, ho4, hl4, ht4, hv4, hm4, hb4⟩
  have hs2 := hb2.size
  have hs3 := hb3.size
  have HO4 := Lib.hid (Own.mono ho4 (show w.heap.size ≤ _ by omega))
  have HV4 := Lib.hid hv4
  clear ho4 hv4
  go_wp2_with fail
  go_ret
  exact ⟨a4, m4, c4, z4, rfl, HO4.out, hl4, ht4, by rw [HV4.out, HV3.out, HV2.out, HC.out], by omega, (hb2.trans (hb3.mono (by omega))).trans (hb4.mono (by omega))⟩

/-- A field was cut out: both results of Field. -/
theorem field_no (w : World) (nx : Bool) (ao : Option Addr) (n cap : Nat) (k at' : Int) (h : (k < 0 ∨ 65536 < k) ∨ (at' < 0 ∨ 65536 < at')) :
    Calls Try.prog 56 #[.agg #[.bool nx, .slice ao n cap], .int .i64 k, .int .i64 at'] w (RetZero w 1) := by
  by_cases hk : k < 0 ∨ 65536 < k
  · have HK := Lib.hid (fun w1 => inBits_no w1 k hk)
    clear h hk
    go_enter Try.func56, Try.ntmps56
    go_wp2_with (go_at_call 107; refine (HK.out _).mono ?_; rintro e w1 ⟨rfl, rfl⟩)
    refine bodyPost_ret (v := .tuple #[.agg #[.bool false, .slice none 0 0], .int .i64 1]) (by simp [results, Try.results56, go_sem]) rfl ?_
    exact ⟨rfl, by go_grown⟩
  · have h2 : at' < 0 ∨ 65536 < at' := by omega
    have HK := Lib.hid (fun w1 => inBits_yes w1 k (by omega) (by omega))
    have HA := Lib.hid (fun w1 => inBits_no w1 at' h2)
    clear h hk h2
    go_enter Try.func56, Try.ntmps56
    go_wp2_with fail
    refine (HK.out _).mono ?_
    rintro e w1 ⟨rfl, rfl⟩
    go_wp2_with fail
    refine (HA.out _).mono ?_
    rintro e w1 ⟨rfl, rfl⟩
    go_wp2_with fail
    refine bodyPost_ret (v := .tuple #[.agg #[.bool false, .slice none 0 0], .int .i64 1]) (by simp [results, Try.results56, go_sem]) rfl ?_
    exact ⟨rfl, by go_grown⟩

set_option maxRecDepth 100000 in
theorem field_yes (w : World) (nx : Bool) (ao : Option Addr) (n cap : Nat) (xs : List Int) (x : Int) (k at' : Nat) (hx : IntAt w nx ao n cap xs x) (hk : k ≤ 65536) (ha : at' ≤ 65536) :
    Calls Try.prog 56 #[.agg #[.bool nx, .slice ao n cap], .int .i64 (k : Int), .int .i64 (at' : Int)] w (RetIE w (x / 2 ^ at' % 2 ^ k) 4098) := by
  have HX := Lib.hid hx
  have HK := Lib.hid (fun w1 => inBits_yes w1 k (by omega) (by omega))
  have HA := Lib.hid (fun w1 => inBits_yes w1 at' (by omega) (by omega))
  obtain ⟨R, hR⟩ : ∃ R, x / 2 ^ at' % 2 ^ k = R := ⟨_, rfl⟩
  have HF : Hid (∀ w1, Below w.heap.size w w1 → Calls Try.prog 108 #[.agg #[.bool nx, .slice ao n cap], .int .i64 (k : Int), .int .i64 (at' : Int)] w1 (RetNat w1 R 4098)) := Lib.hid (fun w1 hb => by
    rw [← hR]; exact field_nat w1 nx ao n cap xs x k at' (HX.out.below hb) hk ha)
  rw [hR]
  clear hx hR
  go_enter Try.func56, Try.ntmps56
  go_wp2_with fail
  refine (HK.out _).mono ?_
  rintro e w1 ⟨rfl, rfl⟩
  go_wp2_with fail
  refine (HA.out _).mono ?_
  rintro e w1 ⟨rfl, rfl⟩
  go_wp2_with fail
  refine (HF.out _ (by go_grown)).mono ?_
  rintro e w1 ⟨a1, m1, c1, z1, rfl, ho, hl, ht, hv, hm, hb⟩
  have hr2 := (hb.block (w.heap.size + 1) (by go_size)).trans (heap_alloc2 w _ _).1
  have hb1 : Below w.heap.size w w1 := Below.trans (by go_grown) (hb.mono (by go_size))
  have hz1 : w.heap.size + 1 + 1 ≤ w1.heap.size := Nat.le_trans (by go_size) hb.size
  have HS := Lib.hid ho.sl
  have HV := Lib.hid hv
  clear ho hv hb
  go_wp2_with fail
  refine (wrap_int w1 false a1 m1 c1 z1 HS.out hl (x := R) (by rw [HV.out]; rfl)).mono ?_
  rintro e w2 ⟨neg', ao', n', cap', zs', rfl, hint, hn', hb2⟩
  have hr4 := (hb2.block _ (by omega)).trans hr2
  obtain ⟨c0, c1', f0, f1⟩ := blk2 hr4
  have HI := Lib.hid (hint.stored hr4 (.bool neg') (.slice ao' n' cap'))
  have hb4 : Below w.heap.size w w2 := hb1.trans (hb2.mono hb1.size)
  have hz2 := hb2.size
  clear hint hr4 hr2 hb2
  go_wp2_with fail
  refine bodyPost_ret (v := .tuple #[.agg #[.bool neg', .slice ao' n' cap'], .int .i64 0]) (by simp [results, Try.results56, go_sem, c0, c1']) rfl ?_
  exact ⟨_, _, _, _, _, rfl, HI.out, by omega, (hb4.setCell (p := ⟨w.heap.size + 1, 0, none⟩) (by dsimp only; omega) _).setCell (p := ⟨w.heap.size + 1, 1, none⟩) (by dsimp only; omega) _⟩
end Go.Proofs.Ytpakfknacmcohaa
