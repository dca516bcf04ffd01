/- Len64, Pow1, Pow2, Pow3 in one text. -/
import Derived.Test.YtpakfknacmcohaaNumC
import Derived.Test.YtpakfknacmcohaaShift1
import Derived.Test.YtpakfknacmcohaaAwakes
namespace Go.Proofs.Ytpakfknacmcohaa
open Go.RowKit
set_option autoImplicit false
set_option linter.unusedVariables false

set_option maxRecDepth 100000 in
theorem len64_a (w : World) (d : Nat) (y z : Nat) (e1 : ((d : Int) / 65536) = y) (h1' : (65536 : Int) ≤ d) (h2' : (256 : Int) ≤ y) (e2 : ((y : Int) / 256) = z) (hz : z < 256) (b : blen d = blen z + 24) (hd32 : d < 4294967296) : Calls Try.prog 140 #[.int .u64 (d : Int)] w fun e w' => e = .returned (.int .i64 (blen d : Int)) ∧ w = w' := by
  have hs := blen_small hz
  have h00 : ¬ (4294967296 : Int) ≤ d := by omega
  have hidx := lit_all ⟨z, hz⟩
  unfold lenLit at hidx
  simp only at hidx
  have hz0 : (0 : Int) ≤ z ∧ (z : Int) < 256 := by omega
  have hb : 24 + (blen z : Int) = (blen d : Int) := by omega
  have HB := Lib.hid hb
  clear hb b
  go_enter Try.func140, Try.ntmps140
  go_wp2_with fail
  clear hidx
  go_ret
  exact ⟨congrArg (fun x => Ending.returned (.int .i64 x)) HB.out, rfl⟩

set_option maxRecDepth 100000 in
theorem len64_b (w : World) (d : Nat) (z : Nat) (e1 : ((d : Int) / 65536) = z) (h1' : (65536 : Int) ≤ d) (hz : z < 256) (b : blen d = blen z + 16) (hd32 : d < 4294967296) : Calls Try.prog 140 #[.int .u64 (d : Int)] w fun e w' => e = .returned (.int .i64 (blen d : Int)) ∧ w = w' := by
  have hs := blen_small hz
  have h00 : ¬ (4294967296 : Int) ≤ d := by omega
  have h2' : ¬ (256 : Int) ≤ z := by omega
  have hidx := lit_all ⟨z, hz⟩
  unfold lenLit at hidx
  simp only at hidx
  have hz0 : (0 : Int) ≤ z ∧ (z : Int) < 256 := by omega
  have hb : 16 + (blen z : Int) = (blen d : Int) := by omega
  have HB := Lib.hid hb
  clear hb b
  go_enter Try.func140, Try.ntmps140
  go_wp2_with fail
  clear hidx
  go_ret
  exact ⟨congrArg (fun x => Ending.returned (.int .i64 x)) HB.out, rfl⟩

set_option maxRecDepth 100000 in
theorem len64_c (w : World) (d : Nat) (z : Nat) (h1' : ¬ (65536 : Int) ≤ d) (h2' : (256 : Int) ≤ d) (e2 : ((d : Int) / 256) = z) (hz : z < 256) (b : blen d = blen z + 8) (hd32 : d < 4294967296) : Calls Try.prog 140 #[.int .u64 (d : Int)] w fun e w' => e = .returned (.int .i64 (blen d : Int)) ∧ w = w' := by
  have hs := blen_small hz
  have h00 : ¬ (4294967296 : Int) ≤ d := by omega
  have hidx := lit_all ⟨z, hz⟩
  unfold lenLit at hidx
  simp only at hidx
  have hz0 : (0 : Int) ≤ z ∧ (z : Int) < 256 := by omega
  have hb : 8 + (blen z : Int) = (blen d : Int) := by omega
  have HB := Lib.hid hb
  clear hb b
  go_enter Try.func140, Try.ntmps140
  go_wp2_with fail
  clear hidx
  go_ret
  exact ⟨congrArg (fun x => Ending.returned (.int .i64 x)) HB.out, rfl⟩

set_option maxRecDepth 100000 in
theorem len64_d (w : World) (d : Nat) (hz : d < 256) : Calls Try.prog 140 #[.int .u64 (d : Int)] w fun e w' => e = .returned (.int .i64 (blen d : Int)) ∧ w = w' := by
  have hs := blen_small hz
  have h00 : ¬ (4294967296 : Int) ≤ d := by omega
  have h1' : ¬ (65536 : Int) ≤ d := by omega
  have h2' : ¬ (256 : Int) ≤ d := by omega
  have hidx := lit_all ⟨d, hz⟩
  unfold lenLit at hidx
  simp only at hidx
  have hz0 : (0 : Int) ≤ d ∧ (d : Int) < 256 := by omega
  go_enter Try.func140, Try.ntmps140
  go_wp2_with fail
  clear hidx
  go_ret
  exact ⟨rfl, rfl⟩

theorem len64_any (w : World) (d : Nat) (h : d < 4294967296) : Calls Try.prog 140 #[.int .u64 (d : Int)] w fun e w' => e = .returned (.int .i64 (blen d : Int)) ∧ w = w' := by
  by_cases h1 : 65536 ≤ d
  · have b1 := blen_div d 16 h1
    rw [show 2 ^ 16 = 65536 from rfl] at b1
    by_cases h2 : 256 ≤ d / 65536
    · have b2 := blen_div (d / 65536) 8 h2
      rw [show 2 ^ 8 = 256 from rfl] at b2
      exact len64_a w d (d / 65536) (d / 65536 / 256) (by omega) (by omega) (by omega) (by omega) (by omega) (by omega) h
    · exact len64_b w d (d / 65536) (by omega) (by omega) (by omega) b1 h
  · by_cases h2 : 256 ≤ d
    · have b2 := blen_div d 8 h2
      rw [show 2 ^ 8 = 256 from rfl] at b2
      exact len64_c w d (d / 256) (by omega) (by omega) (by omega) (by omega) b2 h
    · exact len64_d w d (by omega)

theorem len_any (w : World) (d : Nat) (h : d < 4294967296) : Calls Try.prog 125 #[.int .u64 (d : Int)] w fun e w' => e = .returned (.int .i64 (blen d : Int)) ∧ w = w' := by
  have HL := Lib.hid (len64_any w d h)
  go_enter Try.func125, Try.ntmps125
  go_wp2_with fail
  refine HL.out.mono ?_
  rintro e w1 ⟨rfl, rfl⟩
  go_wp2_with fail
  go_ret
  exact ⟨rfl, rfl⟩

theorem blen_le_iff {v k : Nat} : blen v ≤ k ↔ v < 2 ^ k := by
  constructor
  · intro h
    exact Nat.lt_of_lt_of_le (blen_lt v) (Nat.pow_le_pow_right (by omega) h)
  · intro h
    unfold blen
    split
    · omega
    · have := (Nat.log2_lt (n := v) (k := k) (by assumption)).2 h
      omega

theorem shr_half (n i : Nat) : n >>> i = 2 * (n >>> (i + 1)) + (n >>> i) % 2 := by
  rw [Nat.shiftRight_succ]; omega

theorem len_of_val {zs : List Int} (lz : Lim zs) (tz : Top zs) {k : Nat} (h : val zs < 4294967296 ^ k) : zs.length ≤ k := by
  by_cases hne : zs = []
  · subst hne; simp
  · have h1 := val_pos_of_top lz tz hne
    have h2 : ¬ k ≤ zs.length - 1 := fun hc => by have := pow_le hc; omega
    have : 0 < zs.length := List.length_pos_iff.2 hne
    omega

theorem pow_mono {a : Int} (h : 1 ≤ a) {m n : Nat} (hmn : m ≤ n) : a ^ m ≤ a ^ n := by
  obtain ⟨k, rfl⟩ := Nat.exists_eq_add_of_le hmn
  rw [Int.pow_add]
  have h1 : 0 < a ^ m := Int.pow_pos (by omega)
  have h2 : 0 < a ^ k := Int.pow_pos (by omega)
  have : a ^ m * 1 ≤ a ^ m * a ^ k := Int.mul_le_mul_of_nonneg_left (by omega) (by omega)
  omega

theorem pow_double (a : Int) (m : Nat) : a ^ m * a ^ m = a ^ (2 * m) := by rw [← Int.pow_add]; congr 1; omega

theorem i64_and_nat (a b : Nat) (ha : a < 9223372036854775808) (hb : b < 9223372036854775808) : bits .and .i64 (a : Int) (b : Int) = ((a &&& b : Nat) : Int) := by
  have hx : a &&& b < 2 ^ 63 := Nat.and_lt_two_pow _ (by omega)
  show IntKind.i64.wrap ((BitVec.ofInt 64 (a : Int) &&& BitVec.ofInt 64 (b : Int)).toNat : Int) = _
  rw [BitVec.toNat_and, ofInt_u64 a (by omega), ofInt_u64 b (by omega), IntKind.wrap_i64]
  omega

set_option maxRecDepth 100000 in
theorem raise_any (w : World) (ao : Option Addr) (n capa : Nat) (xs : List Int) (k K : Nat) (hx : Sl w ao n capa xs) (lx : Lim xs) (hA : 1 ≤ val xs) (hn : n ≤ 1048576) (hk : k ≤ 65536) (hK : K ≤ 1048576) (hval : val xs ^ k < 4294967296 ^ K) :
    Calls Try.prog 95 #[.slice ao n capa, .int .i64 (k : Int)] w (RetNat w (val xs ^ k) (K + 1)) := by
  have HX := Lib.hid hx
  have HVAL := Lib.hid hval
  obtain ⟨A, hAA⟩ : ∃ A, val xs = A := ⟨_, rfl⟩
  have HA := Lib.hid hAA
  rw [hAA] at hA ⊢
  have HL := Lib.hid (fun w' => len_any w' k (by omega))
  obtain ⟨B, hB⟩ : ∃ B, blen k = B := ⟨_, rfl⟩
  rw [hB] at HL
  have hB1 : B ≤ 17 := by rw [← hB, blen_le_iff]; omega
  have hk2 : k < 2 ^ B := by rw [← hB]; exact blen_lt k
  have HK2 := Lib.hid hk2
  have hown0 : Own w.heap.size (w.alloc (.cells #[.int .u32 1] 99)) (some ⟨w.heap.size, 0, none⟩) 1 1 [1] := by
    have := World.ownsRow_lit (base := w.heap.size) (e := 99) (size := 1) w #[.int .u32 1] 1 (Nat.le_refl _) (by unfold maxLen; omega) rfl
    exact this
  have HO := Lib.hid hown0
  clear hx hAA hB hk2 hown0 hval
  go_enter Try.func95, Try.ntmps95
  go_wp2_with fail
  refine (HL.out _).mono ?_
  rintro e w1 ⟨rfl, rfl⟩
  go_wp2_with fail
  go_loopw [5, 6] (fun r i wr => ∃ (j : Nat) (ro : Option Addr) (m c : Nat) (zs : List Int), j ≤ B ∧ i = .int .i64 ((j : Int) - 1) ∧ r = .slice ro m c ∧ Own w.heap.size wr ro m c zs ∧ Lim zs ∧ Top zs ∧ val zs = A ^ (k >>> j) ∧ m ≤ K + 1 ∧ Below w.heap.size w wr)
    (fun _ i _ => (intOf i + 1).toNat)
  case atStart => exact ⟨B, some ⟨w.heap.size, 0, none⟩, 1, 1, [1], Nat.le_refl _, rfl, rfl, HO.out, by intro z hz; simp at hz; omega, .inr (by simp), by rw [Nat.shiftRight_eq_div_pow, Nat.div_eq_of_lt HK2.out]; simp [val], by omega, by go_grown⟩
  case round =>
    obtain ⟨j, ro, m, c, zs, hj, rfl, rfl, hown, hlim, htop, hval, hm, hbel⟩ := hrel
    have HOW := Lib.hid hown
    have HT := Lib.hid htop
    have HV := Lib.hid hval
    have HB := Lib.hid hbel
    clear hown htop hval
    by_cases hj0 : j = 0
    · subst hj0
      go_wp2_with fail
      go_ret
      exact ⟨ro, m, c, zs, rfl, HOW.out, hlim, HT.out, by rw [HV.out, Nat.shiftRight_zero], hm, HB.out⟩
    · obtain ⟨i, rfl⟩ : ∃ i, j = i + 1 := ⟨j - 1, by omega⟩
      have hji : (0 : Int) ≤ ((i + 1 : Nat) : Int) - 1 := by omega
      have hj1 : ((i + 1 : Nat) : Int) - 1 = (i : Int) := by omega
      rw [hj1]
      have hi0 : (0 : Int) ≤ (i : Int) := by omega
      have hhalf := shr_half k i
      have hle : k >>> i ≤ k := by rw [Nat.shiftRight_eq_div_pow]; exact Nat.div_le_self _ _
      have hbit := Lib.hid hhalf
      go_wp2_with fail
      refine (product_any _ ro ro m m c c zs zs HOW.out.sl HOW.out.sl hlim hlim (by omega) (by omega)).mono ?_
      rintro e w2 ⟨a2, m2, c2, z2, rfl, hown2, hl2, ht2, hv2, hm2, hb2⟩
      have HO2 := Lib.hid (hown2.mono (B' := w.heap.size) HB.out.size)
      have HV2 := Lib.hid hv2
      have HB2 := Lib.hid (HB.out.trans (hb2.mono HB.out.size))
      have hand : bits BinOp.and IntKind.i64 ((k : Int) / 2 ^ i) 1 = ((k >>> i % 2 : Nat) : Int) := by
        have e1 : (k : Int) / 2 ^ i = ((k >>> i : Nat) : Int) := by rw [Nat.shiftRight_eq_div_pow]; simp
        rw [e1]
        have := i64_and_nat (k >>> i) 1 (by omega) (by omega)
        rw [Nat.and_one_is_mod] at this
        exact this
      have hm2' : m2 ≤ K + 1 := by
        have hl := len_of_val hl2 ht2 (k := K) (by
          refine Int.lt_of_le_of_lt ?_ HVAL.out
          rw [hv2, HV.out, pow_double, HA.out]
          exact pow_mono hA (by omega))
        have := HO2.out.sl.len
        omega
      clear hown2 hv2 hb2
      rcases Nat.mod_two_eq_zero_or_one (k >>> i) with hb | hb
      · rw [hb] at hand
        clear hhalf
        go_wp2_with fail
        go_roundw
        case rel =>
          refine ⟨i, a2, m2, c2, z2, by omega, rfl, rfl, HO2.out, hl2, ht2, ?_, hm2', HB2.out⟩
          rw [HV2.out, HV.out, pow_double]
          congr 1
          have := hbit.out
          omega
        case measure => simp [intOf]
      · rw [hb] at hand
        clear hhalf
        go_wp2_with fail
        refine (product_any _ a2 ao m2 n c2 capa z2 xs HO2.out.sl (HX.out.below HB2.out) hl2 lx (by omega) (by omega)).mono ?_
        rintro e w3 ⟨a3, m3, c3, z3, rfl, hown3, hl3, ht3, hv3, hm3, hb3⟩
        have HO3 := Lib.hid (hown3.mono (B' := w.heap.size) HB2.out.size)
        have HV3 := Lib.hid hv3
        have HB3 := Lib.hid (HB2.out.trans (hb3.mono HB2.out.size))
        have hv4 : val z3 = A ^ (k >>> i) := by
          rw [HV3.out, HV2.out, HV.out, pow_double, HA.out, ← Int.pow_succ]
          congr 1
          have := hbit.out
          omega
        have hm3' : m3 ≤ K + 1 := by
          have hl := len_of_val hl3 ht3 (k := K) (by
            refine Int.lt_of_le_of_lt ?_ HVAL.out
            rw [hv4, HA.out]
            exact pow_mono hA hle)
          have := HO3.out.sl.len
          omega
        have HV4 := Lib.hid hv4
        clear hown3 hv3 hb3 hv4
        go_wp2_with fail
        go_roundw
        case rel => exact ⟨i, a3, m3, c3, z3, by omega, rfl, rfl, HO3.out, hl3, ht3, HV4.out, hm3', HB3.out⟩
        case measure => simp [intOf]

theorem nat_pow_mul_le {a b k : Nat} (h : a ≤ b) : a ^ k ≤ b ^ k := Nat.pow_le_pow_left h k

theorem pow_big {M size k A : Nat} {y : Int} (hA : 2 ^ (size - 1) ≤ A) (h : M < (size - 1) * k) (hy : y.natAbs = A ^ k) : M < blen (cpl y).toNat := by
  rw [← Nat.not_le, blen_le_iff, Nat.not_lt]
  have h1 : 2 ^ ((size - 1) * k) ≤ A ^ k := by rw [Nat.pow_mul]; exact Nat.pow_le_pow_left hA k
  have h2 : 2 ^ (M + 1) ≤ 2 ^ ((size - 1) * k) := Nat.pow_le_pow_right (by omega) h
  have h3 : 2 ^ M * 2 = 2 ^ (M + 1) := (Nat.pow_succ ..).symm
  have h4 : 1 ≤ 2 ^ M := Nat.one_le_two_pow
  unfold cpl
  split <;> omega

theorem pow_bound {K size k A : Nat} (hA : A < 2 ^ size) (h : size * k ≤ 32 * K) : ((A : Int)) ^ k < 4294967296 ^ (K + 1) := by
  have h1 : A ^ k ≤ (2 ^ size) ^ k := Nat.pow_le_pow_left (Nat.le_of_lt hA) k
  rw [← Nat.pow_mul] at h1
  have h2 : 2 ^ (size * k) ≤ 2 ^ (32 * K) := Nat.pow_le_pow_right (by omega) h
  have h3 : (4294967296 : Int) ^ K = ((2 ^ (32 * K) : Nat) : Int) := by rw [base_pow]; simp
  have h4 : (1 : Int) ≤ 4294967296 ^ K := by have := pow_pos K; omega
  rw [Int.pow_succ, h3]
  rw [h3] at h4
  have h5 : ((A ^ k : Nat) : Int) ≤ ((2 ^ (32 * K) : Nat) : Int) := by exact_mod_cast Nat.le_trans h1 h2
  have h6 : ((A ^ k : Nat) : Int) = (A : Int) ^ k := by simp
  omega

theorem sgn_pow (neg : Bool) (v : Int) (k : Nat) : sgn neg v ^ k = sgn (neg && decide (k % 2 = 1)) (v ^ k) := by
  cases neg with
  | false => simp [sgn]
  | true =>
    simp only [sgn, if_true, Bool.true_and]
    have h2 : (-v) ^ 2 = v ^ 2 := by rw [Int.pow_succ, Int.pow_succ, Int.pow_succ, Int.pow_succ, Int.pow_zero, Int.pow_zero, Int.one_mul, Int.one_mul, Int.neg_mul_neg]
    have h3 : ∀ j, (-v) ^ (2 * j) = v ^ (2 * j) := fun j => by rw [Int.pow_mul, h2, ← Int.pow_mul]
    rcases Nat.mod_two_eq_zero_or_one k with h | h
    · rw [h]
      obtain ⟨j, hj⟩ : ∃ j, k = 2 * j := ⟨k / 2, by omega⟩
      subst hj
      rw [h3]; simp
    · rw [h]
      obtain ⟨j, hj⟩ : ∃ j, k = 2 * j + 1 := ⟨k / 2, by omega⟩
      subst hj
      rw [Int.pow_succ, h3, Int.pow_succ]; simp [Int.mul_neg]

theorem natAbs_pow' (x : Int) (k : Nat) : (x ^ k).natAbs = x.natAbs ^ k := Int.natAbs_pow x k

theorem small_pow {v : Int} (h0 : 0 ≤ v) (h1 : v ≤ 1) {k : Nat} (hk : k ≠ 0) : v ^ k = v := by
  rcases (show v = 0 ∨ v = 1 by omega) with rfl | rfl
  · exact Int.zero_pow hk
  · exact Int.one_pow

theorem smallPower_any (w : World) (nx : Bool) (ao : Option Addr) (n cap : Nat) (xs : List Int) (x : Int) (k : Nat) (hx : IntAt w nx ao n cap xs x) (hn : n ≤ 34359738368) (hv : val xs ≤ 1) (hk : k ≤ 9223372036854775807) :
    Calls Try.prog 94 #[.agg #[.bool nx, .slice ao n cap], .int .i64 (k : Int)] w (RetInt w (x ^ k) (n + 2)) := by
  have HX := Lib.hid hx
  have hv0 := val_nonneg hx.lim
  have hxv := hx.val
  by_cases hk0 : k = 0
  · subst hk0
    have HV : Hid (x ^ 0 = 1) := Lib.hid (Int.pow_zero x)
    clear hx hxv hv hv0
    go_enter Try.func94, Try.ntmps94
    go_wp2_with fail
    refine (new_int _ 1 (by omega) (by omega)).mono ?_
    rintro e w2 ⟨neg', ao', n', cap', zs', rfl, hint, hn', hb1⟩
    have hr2 : w2.heap[w.heap.size + 1]? = some (.cells #[.bool false, .slice none 0 0] 28 (0, 0)) := (hb1.block _ (by simp)).trans (heap_alloc2 _ _ _).1
    obtain ⟨c0, c1, f0, f1⟩ := blk2 hr2
    have HI := Lib.hid (hint.stored hr2 (.bool neg') (.slice ao' n' cap'))
    have hb4 : Below w.heap.size w w2 := Below.trans (by go_grown) (hb1.mono (by go_size))
    clear hint hr2
    go_wp2
    refine bodyPost_ret (v := .agg #[.bool neg', .slice ao' n' cap']) (by simp [results, Try.results94, go_sem, c0, c1]) rfl ?_
    exact fin_int (by omega) hb4 HI.out HV.out.symm (by omega)
  · have hpow : x ^ k = sgn (nx && decide (k % 2 = 1)) (val xs) := by rw [hxv, sgn_pow, small_pow hv0 hv hk0]
    have HP := Lib.hid hpow
    have hne : ((k : Int) == 0) = false := by simp; omega
    have hlim := hx.lim
    clear hx hxv hv hv0 hpow
    have hbk : decide (k % 2 = 1) = ((k : Int) % 2 == 1) := by
      rw [Bool.eq_iff_iff]
      simp
      omega
    rw [hbk] at HP
    have HC : Hid (∀ w1, Below w.heap.size w w1 → _) := fun w1 hb => clone_any w1 ao n cap xs (HX.out.sl.below hb) hn
    clear hbk
    cases nx
    all_goals
      go_enter Try.func94, Try.ntmps94
      go_wp2_with fail
      refine (HC.out _ (by go_grown)).mono ?_
      rintro e w1 ⟨ao1, cap1, rfl, hown, hb1⟩
      have hr1 : w1.heap[w.heap.size + 1]? = some (.cells #[.bool false, .slice none 0 0] 28 (0, 0)) := (hb1.block _ (by simp)).trans (heap_alloc2 _ _ _).1
      have hz1 : w.heap.size + 1 + 1 ≤ w1.heap.size := Nat.le_trans (by go_size) hb1.size
      have hb2 : Below w.heap.size w w1 := Below.trans (by go_grown) (hb1.mono (by go_size))
      have HS := Lib.hid hown.sl
      clear hown hb1
      go_wp2_with fail
      refine (wrap_int _ _ _ _ _ _ HS.out hlim rfl).mono ?_
      rintro e w2 ⟨neg', ao', n', cap', zs', rfl, hint, hn', hb3⟩
      have hr2 := (hb3.block _ (by omega)).trans hr1
      obtain ⟨c0, c1, f0, f1⟩ := blk2 hr2
      have HI := Lib.hid (hint.stored hr2 (.bool neg') (.slice ao' n' cap'))
      have hb4 : Below w.heap.size w w2 := hb2.trans (hb3.mono hb2.size)
      clear hint hr2 hr1 hb3 hb2
      go_wp2
      refine bodyPost_ret (v := .agg #[.bool neg', .slice ao' n' cap']) (by simp [results, Try.results94, go_sem, c0, c1]) rfl ?_
      exact fin_int (by omega) hb4 HI.out (by rw [HP.out]; simp) (by omega)

theorem IntAt.abs {w : World} {neg : Bool} {ao : Option Addr} {n cap : Nat} {zs : List Int} {x : Int} (h : IntAt w neg ao n cap zs x) : x.natAbs = (Go.Proofs.Ytpakfknacmcohaa.val zs).toNat := by
  have h0 := val_nonneg h.lim
  rw [h.val]
  cases neg <;> simp [sgn] <;> omega

theorem blen_one {v M : Nat} (hv : v ≤ 1) (hM : 1 ≤ M) : blen v ≤ M := by
  rw [blen_le_iff]
  have : (2 : Nat) ^ 1 ≤ 2 ^ M := Nat.pow_le_pow_right (by omega) hM
  omega

theorem blen_ge {v : Nat} (h : v ≠ 0) : 2 ^ (blen v - 1) ≤ v := by
  rw [← Nat.not_lt, ← blen_le_iff]
  have : 0 < blen v := by unfold blen; rw [if_neg h]; omega
  omega

theorem blen_lt2 {v : Nat} : blen v < 2 ↔ v ≤ 1 := by
  have := @blen_le_iff v 1
  constructor
  · intro h; have := this.1 (by omega); omega
  · intro h; have := this.2 (by omega); omega

theorem len_of_blen {zs : List Int} (lz : Lim zs) (tz : Top zs) : blen (val zs).toNat ≤ 32 * zs.length := by
  rw [blen_le_iff]
  have h1 := val_lt lz
  have h0 := val_nonneg lz
  rw [base_pow] at h1
  have h2 : ((2 : Int) ^ (32 * zs.length)) = ((2 ^ (32 * zs.length) : Nat) : Int) := by simp
  rw [h2] at h1
  omega

/-- An error code was returned, with the zero number. -/
def RetZero (w : World) (c : Int) (e : Ending) (w' : World) : Prop :=
  e = .returned (.tuple #[.agg #[.bool false, .slice none 0 0], .int .i64 c]) ∧ Below w.heap.size w w'

theorem power_neg (w : World) (nx : Bool) (ao : Option Addr) (n cap : Nat) (k : Int) (hk : k < 0) :
    Calls Try.prog 46 #[.agg #[.bool nx, .slice ao n cap], .int .i64 k] w (RetZero w 1) := by
  go_enter Try.func46, Try.ntmps46
  go_wp2_with fail
  have hr2 := (heap_alloc2 w (.cells #[.bool nx, .slice ao n cap] 28) (.cells #[.bool false, .slice none 0 0] 28)).1
  obtain ⟨c0, c1, f0, f1⟩ := blk2 hr2
  refine bodyPost_ret (v := .tuple #[.agg #[.bool false, .slice none 0 0], .int .i64 1]) (by simp [results, Try.results46, go_sem, c0, c1]) rfl ?_
  exact ⟨rfl, by go_grown⟩

theorem power_small (w : World) (nx : Bool) (ao : Option Addr) (n cap : Nat) (xs : List Int) (x : Int) (k : Nat) (hx : IntAt w nx ao n cap xs x) (hn : n ≤ 34359738368) (hv : val xs ≤ 1) (hk : k ≤ 9223372036854775807) :
    Calls Try.prog 46 #[.agg #[.bool nx, .slice ao n cap], .int .i64 (k : Int)] w (RetIE w (x ^ k) (n + 2)) := by
  have h0 := val_nonneg hx.lim
  obtain ⟨s, hs⟩ : ∃ s, blen (val xs).toNat = s := ⟨_, rfl⟩
  have hs2 : s < 2 := by rw [← hs, blen_lt2]; omega
  have HB : Hid (∀ w', Below w.heap.size w w' → Calls Try.prog 77 #[.slice ao n cap] w' (RetQ w' (.int .i64 (s : Int)))) := Lib.hid (fun w' hb => by
    have := bitlen_any w' ao n cap xs (hx.sl.below hb) hx.lim hx.top hn
    rwa [hs] at this)
  have HP : Hid (∀ w1, Below w.heap.size w w1 → _) := fun w1 hb => smallPower_any w1 nx ao n cap xs x k (hx.below hb) hn hv hk
  clear hx hs h0
  go_enter Try.func46, Try.ntmps46
  go_wp2_with fail
  refine (HB.out _ (by go_grown)).mono ?_
  rintro e w1 ⟨rfl, q, rfl⟩
  go_wp2_with fail
  refine (HP.out _ (below_drewN (by go_grown) q)).mono ?_
  rintro e w2 ⟨neg', ao', n', cap', zs', rfl, hint, hn', hb1⟩
  have hr2 : w2.heap[w.heap.size + 1]? = some (.cells #[.bool false, .slice none 0 0] 28 (0, 0)) := (hb1.block _ (by go_size)).trans (heap_alloc2 _ _ _).1
  obtain ⟨c0, c1, f0, f1⟩ := blk2 hr2
  have HI := Lib.hid (hint.stored hr2 (.bool neg') (.slice ao' n' cap'))
  have hb4 : Below w.heap.size w w2 := Below.trans (below_drewN (by go_grown) q) (hb1.mono (by go_size))
  clear hint hr2
  go_wp2
  refine bodyPost_ret (v := .tuple #[.agg #[.bool neg', .slice ao' n' cap'], .int .i64 0]) (by simp [results, Try.results46, go_sem, c0, c1]) rfl ?_
  exact ⟨_, _, _, _, _, rfl, HI.out, hn', (hb4.setCell (p := ⟨w.heap.size + 1, 0, none⟩) (by dsimp only; omega) _).setCell (p := ⟨w.heap.size + 1, 1, none⟩) (by dsimp only; omega) _⟩

set_option maxRecDepth 100000 in
theorem power_far (w : World) (nx : Bool) (ao : Option Addr) (n cap : Nat) (xs : List Int) (x : Int) (k : Nat) (s : Nat) (hx : IntAt w nx ao n cap xs x) (hn : n ≤ 1048576) (hs : blen (val xs).toNat = s) (hs2 : 2 ≤ s) (hk : k ≤ 9223372036854775807) (hfar : 65536 < k ∨ 65536 < (s - 1) * k) :
    Calls Try.prog 46 #[.agg #[.bool nx, .slice ao n cap], .int .i64 (k : Int)] w (RetZero w 14) := by
  have hsb := len_of_blen hx.lim hx.top
  rw [hs, hx.sl.len] at hsb
  have HB : Hid (∀ w', Below w.heap.size w w' → Calls Try.prog 77 #[.slice ao n cap] w' (RetQ w' (.int .i64 (s : Int)))) := Lib.hid (fun w' hb => by
    have := bitlen_any w' ao n cap xs (hx.sl.below hb) hx.lim hx.top (by omega)
    rwa [hs] at this)
  clear hx hs
  obtain ⟨r, rfl⟩ : ∃ r, s = r + 1 := ⟨s - 1, by omega⟩
  simp only [Nat.add_sub_cancel] at hfar
  by_cases hk1 : 65536 < k
  · have hki : (65536 : Int) < k := by omega
    clear hfar
    go_enter Try.func46, Try.ntmps46
    go_wp2_with fail
    refine (HB.out _ (by go_grown)).mono ?_
    rintro e w1 ⟨rfl, q, rfl⟩
    go_wp2_with fail
    have hr2 := (heap_alloc2 w (.cells #[.bool nx, .slice ao n cap] 28) (.cells #[.bool false, .slice none 0 0] 28)).1
    obtain ⟨c0, c1, f0, f1⟩ := blk2 hr2
    refine bodyPost_ret (v := .tuple #[.agg #[.bool false, .slice none 0 0], .int .i64 14]) (by simp [results, Try.results46, go_sem, c0, c1]) rfl ?_
    exact ⟨rfl, ((below_drewN (by go_grown) q).setCell (p := ⟨w.heap.size + 1, 0, none⟩) (by dsimp only; omega) _).setCell (p := ⟨w.heap.size + 1, 1, none⟩) (by dsimp only; omega) _⟩
  · have hrk : 65536 < r * k := by rcases hfar with h | h; exact absurd h hk1; exact h
    have hki : ¬ (65536 : Int) < k := by omega
    have hub : r * k ≤ 33554432 * 65536 := Nat.mul_le_mul (by omega) (by omega)
    obtain ⟨t, ht⟩ : ∃ t : Nat, r * k = t := ⟨_, rfl⟩
    have hti : (r : Int) * (k : Int) = (t : Int) := by rw [← ht, Int.natCast_mul]
    rw [ht] at hrk hub
    have h1 : (65536 : Int) < (r : Int) * (k : Int) := by rw [hti]; omega
    have h2 : (r : Int) * (k : Int) ≤ 2199023255552 := by rw [hti]; omega
    clear hti ht
    have h3 : (0 : Int) ≤ (r : Int) * (k : Int) := by omega
    clear hfar hrk hub
    go_enter Try.func46, Try.ntmps46
    go_wp2_with fail
    refine (HB.out _ (by go_grown)).mono ?_
    rintro e w1 ⟨rfl, q, rfl⟩
    go_wp2_with fail
    have hr2 := (heap_alloc2 w (.cells #[.bool nx, .slice ao n cap] 28) (.cells #[.bool false, .slice none 0 0] 28)).1
    obtain ⟨c0, c1, f0, f1⟩ := blk2 hr2
    refine bodyPost_ret (v := .tuple #[.agg #[.bool false, .slice none 0 0], .int .i64 14]) (by simp [results, Try.results46, go_sem, c0, c1]) rfl ?_
    exact ⟨rfl, ((below_drewN (by go_grown) q).setCell (p := ⟨w.heap.size + 1, 0, none⟩) (by dsimp only; omega) _).setCell (p := ⟨w.heap.size + 1, 1, none⟩) (by dsimp only; omega) _⟩

/-- Where the product of the size and the exponent is in reach the power is reckoned: it is returned, or found too large. -/
def RetPow (w : World) (y : Int) (L : Nat) (e : Ending) (w' : World) : Prop :=
  (blen (cpl y).toNat ≤ 65536 ∧ RetIE w y L e w') ∨ (65536 < blen (cpl y).toNat ∧ RetZero w 14 e w')

set_option maxRecDepth 100000 in
theorem power_near (w : World) (nx : Bool) (ao : Option Addr) (n cap : Nat) (xs : List Int) (x : Int) (k : Nat) (s : Nat) (hx : IntAt w nx ao n cap xs x) (hn : n ≤ 1048576) (hs : blen (val xs).toNat = s) (hs2 : 2 ≤ s) (hk : k ≤ 65536) (hnear : (s - 1) * k ≤ 65536) :
    Calls Try.prog 46 #[.agg #[.bool nx, .slice ao n cap], .int .i64 (k : Int)] w (RetPow w (x ^ k) 4098) := by
  have hsb := len_of_blen hx.lim hx.top
  rw [hs, hx.sl.len] at hsb
  have HX := Lib.hid hx
  have HB : Hid (∀ w', Below w.heap.size w w' → Calls Try.prog 77 #[.slice ao n cap] w' (RetQ w' (.int .i64 (s : Int)))) := Lib.hid (fun w' hb => by
    have := bitlen_any w' ao n cap xs (hx.sl.below hb) hx.lim hx.top (by omega)
    rwa [hs] at this)
  have h0 := val_nonneg hx.lim
  have hA1 : 1 ≤ val xs := by
    rcases (show val xs ≤ 0 ∨ 1 ≤ val xs by omega) with h | h
    · have : (val xs).toNat = 0 := by omega
      rw [this] at hs
      simp [blen] at hs
      omega
    · exact h
  have hbound : val xs ^ k < 4294967296 ^ 4097 := by
    have h1 : (val xs).toNat < 2 ^ s := by rw [← hs]; exact blen_lt _
    have h2 : s * k ≤ 32 * 4096 := by
      have : s * k ≤ (2 * (s - 1)) * k := Nat.mul_le_mul_right _ (by omega)
      rw [Nat.mul_assoc] at this
      omega
    have := pow_bound (K := 4096) h1 h2
    rwa [show (((val xs).toNat : Nat) : Int) = val xs by omega] at this
  have HR : Hid (∀ w', Below w.heap.size w w' → Calls Try.prog 95 #[.slice ao n cap, .int .i64 (k : Int)] w' (RetNat w' (val xs ^ k) (4097 + 1))) := Lib.hid (fun w' hb =>
    raise_any w' ao n cap xs k 4097 (hx.sl.below hb) hx.lim hA1 hn hk (by omega) hbound)
  have hpow : x ^ k = sgn (nx && decide (k % 2 = 1)) (val xs ^ k) := by rw [hx.val, sgn_pow]
  have hbk : decide (k % 2 = 1) = ((k : Int) % 2 == 1) := by
    rw [Bool.eq_iff_iff]
    simp
    omega
  rw [hbk] at hpow
  obtain ⟨y, hy⟩ : ∃ y, x ^ k = y := ⟨_, rfl⟩
  rw [hy] at hpow ⊢
  have HP := Lib.hid hpow
  obtain ⟨r, rfl⟩ : ∃ r, s = r + 1 := ⟨s - 1, by omega⟩
  simp only [Nat.add_sub_cancel] at hnear
  have hki : ¬ (65536 : Int) < k := by omega
  have h1 : (r : Int) * (k : Int) ≤ 65536 := by
    rw [← Int.natCast_mul]
    obtain ⟨t, ht⟩ : ∃ t : Nat, r * k = t := ⟨_, rfl⟩
    rw [ht] at hnear ⊢
    omega
  have h3 : (0 : Int) ≤ (r : Int) * (k : Int) := Int.mul_nonneg (by omega) (by omega)
  have h4 : ¬ (65536 : Int) < (r : Int) * (k : Int) := by omega
  clear hx hs hnear hbound hpow hbk hA1 h0 hy
  cases nx
  all_goals
    go_enter Try.func46, Try.ntmps46
    go_wp2_with fail
    refine (HB.out _ (by go_grown)).mono ?_
    rintro e w1 ⟨rfl, q, rfl⟩
    go_wp2_with fail
    refine (HR.out _ (below_drewN (by go_grown) q)).mono ?_
    rintro e w2 ⟨a2, m2, c2, z2, rfl, hown2, hl2, ht2, hv2, hm2, hb2⟩
    have HS2 := Lib.hid hown2.sl
    have HV2 := Lib.hid hv2
    have hr2 : w2.heap[w.heap.size + 1]? = some (.cells #[.bool false, .slice none 0 0] 28 (0, 0)) := (hb2.block _ (by go_size)).trans (heap_alloc2 _ _ _).1
    have hz2 : w.heap.size + 1 + 1 ≤ w2.heap.size := Nat.le_trans (by go_size) hb2.size
    have hb4 : Below w.heap.size w w2 := Below.trans (below_drewN (by go_grown) q) (hb2.mono (by go_size))
    clear hown2 hv2 hb2
    go_wp2_with fail
    refine (wrap_int _ _ _ _ _ _ HS2.out hl2 rfl).mono ?_
    rintro e w3 ⟨neg', ao', n', cap', zs', rfl, hint, hn', hb3⟩
    have hint2 : IntAt w3 neg' ao' n' cap' zs' y := by
      have e1 : y = _ := HP.out.trans (by rw [← HV2.out])
      rw [e1]
      simpa using hint
    have HI := Lib.hid hint2
    have hr3 := (hb3.block _ (by omega)).trans hr2
    have hb5 : Below w.heap.size w w3 := hb4.trans (hb3.mono hb4.size)
    have hz3 : w.heap.size + 1 + 1 ≤ w3.heap.size := Nat.le_trans hz2 hb3.size
    clear hint hint2 hr2 hb4 hb3 hz2
    obtain ⟨L, hL⟩ : ∃ L, blen (cpl y).toNat = L := ⟨_, rfl⟩
    have HLEN : Hid (∀ w', Below w3.heap.size w3 w' → Calls Try.prog 26 #[.agg #[.bool neg', .slice ao' n' cap']] w' (RetV w' (.int .i64 (L : Int)))) := Lib.hid (fun w' hb => by
      have := length_any w' neg' ao' n' cap' zs' y (HI.out.below hb) (by omega)
      rwa [hL] at this)
    have HL := Lib.hid hL
    obtain ⟨c0, c1, f0, f1⟩ := blk2 hr3
    have hl3 : w.heap.size + 1 < w3.heap.size := by omega
    clear hL
    by_cases hbig : 65536 < L
    · have hbi : (65536 : Int) < (L : Int) := by omega
      go_wp2_with fail
      refine (HLEN.out _ (by go_grown)).mono ?_
      rintro e w4 ⟨rfl, hb6⟩
      have hr4 := (hb6.block (w.heap.size + 1) (by go_size)).trans ((((Below.refl w3.heap.size w3).alloc (Nat.le_refl _) (.cells #[.bool neg', .slice ao' n' cap'] 28)).block _ hl3).trans hr3)
      obtain ⟨d0, d1, g0, g1⟩ := blk2 hr4
      have hb7 : Below w.heap.size w w4 := hb5.trans ((Below.trans (by go_grown) (hb6.mono (by go_size)) : Below w3.heap.size w3 w4).mono hb5.size)
      clear hr4 hb6
      go_wp2_with fail
      refine bodyPost_ret (v := .tuple #[.agg #[.bool false, .slice none 0 0], .int .i64 14]) (by simp [results, Try.results46, go_sem, d0, d1]) rfl ?_
      exact .inr ⟨by rw [HL.out]; exact hbig, rfl, (hb7.setCell (p := ⟨w.heap.size + 1, 0, none⟩) (by dsimp only; omega) _).setCell (p := ⟨w.heap.size + 1, 1, none⟩) (by dsimp only; omega) _⟩
    · have hbi : ¬ (65536 : Int) < (L : Int) := by omega
      go_wp2_with fail
      refine (HLEN.out _ (by go_grown)).mono ?_
      rintro e w4 ⟨rfl, hb6⟩
      have hr4 := (hb6.block (w.heap.size + 1) (by go_size)).trans ((((Below.refl w3.heap.size w3).alloc (Nat.le_refl _) (.cells #[.bool neg', .slice ao' n' cap'] 28)).block _ hl3).trans hr3)
      have hr5 : w4.heap[w3.heap.size]? = some (.cells #[.bool neg', .slice ao' n' cap'] 28 (0, 0)) := (hb6.block _ (by go_size)).trans (heap_alloc_new w3 _)
      obtain ⟨d0, d1, g0, g1⟩ := blk2 hr4
      obtain ⟨e0, e1, -, -⟩ := blk2 hr5
      have hb8 : Below w3.heap.size w3 w4 := Below.trans (by go_grown) (hb6.mono (by go_size))
      have hb7 : Below w.heap.size w w4 := hb5.trans (hb8.mono hb5.size)
      have HI4 := Lib.hid ((HI.out.below hb8).stored hr4 (.bool neg') (.slice ao' n' cap'))
      clear hr4 hr5 hb6 hb8
      go_wp2_with fail
      refine bodyPost_ret (v := .tuple #[.agg #[.bool neg', .slice ao' n' cap'], .int .i64 0]) (by simp [results, Try.results46, go_sem, d0, d1]) rfl ?_
      exact .inl ⟨by rw [HL.out]; omega, _, _, _, _, _, rfl, HI4.out, by omega, (hb7.setCell (p := ⟨w.heap.size + 1, 0, none⟩) (by dsimp only; omega) _).setCell (p := ⟨w.heap.size + 1, 1, none⟩) (by dsimp only; omega) _⟩

/-- Power: the power, or ErrLarge where it has more than 65536 binary digits. -/
theorem power_any (w : World) (nx : Bool) (ao : Option Addr) (n cap : Nat) (xs : List Int) (x : Int) (k : Nat) (hx : IntAt w nx ao n cap xs x) (hn : n ≤ 1048576) (hk : k ≤ 9223372036854775807) :
    Calls Try.prog 46 #[.agg #[.bool nx, .slice ao n cap], .int .i64 (k : Int)] w (RetPow w (x ^ k) 1048578) := by
  have h0 := val_nonneg hx.lim
  have habs := hx.abs
  obtain ⟨s, hs⟩ : ∃ s, blen (val xs).toNat = s := ⟨_, rfl⟩
  by_cases hs2 : s < 2
  · have hv : val xs ≤ 1 := by rw [← hs, blen_lt2] at hs2; omega
    refine (power_small w nx ao n cap xs x k hx (by omega) hv hk).mono ?_
    rintro e w' ⟨neg', ao', n', cap', zs', he, hi, hn', hb⟩
    refine .inl ⟨?_, neg', ao', n', cap', zs', he, hi, by omega, hb⟩
    refine blen_one ?_ (by omega)
    have h1 : (x ^ k).natAbs ≤ 1 := by
      rw [natAbs_pow', habs]
      have h2 : (val xs).toNat ≤ 1 := by omega
      have := Nat.pow_le_pow_left h2 k
      rwa [Nat.one_pow] at this
    unfold cpl
    split <;> omega
  · by_cases hfar : 65536 < k ∨ 65536 < (s - 1) * k
    · refine (power_far w nx ao n cap xs x k s hx hn hs (by omega) hk hfar).mono ?_
      intro e w' h
      refine .inr ⟨?_, h⟩
      have hA : 2 ^ (s - 1) ≤ (val xs).toNat := by
        rw [← hs]
        refine blen_ge ?_
        intro hz
        rw [hz] at hs
        simp [blen] at hs
        omega
      refine pow_big (A := (val xs).toNat) (k := k) hA ?_ (by rw [natAbs_pow', habs])
      rcases hfar with h | h
      · have : 1 * k ≤ (s - 1) * k := Nat.mul_le_mul_right _ (by omega)
        omega
      · exact h
    · refine (power_near w nx ao n cap xs x k s hx hn hs (by omega) (by omega) (by omega)).mono ?_
      rintro e w' (⟨h, neg', ao', n', cap', zs', he, hi, hn', hb⟩ | h)
      · exact .inl ⟨h, neg', ao', n', cap', zs', he, hi, by omega, hb⟩
      · exact .inr h
end Go.Proofs.Ytpakfknacmcohaa
