/- raise: powers of limbs. -/
import Derived.Test.YtpakfknacmcohaaShift1
import Derived.Test.YtpakfknacmcohaaLen64
namespace Go.Proofs.Ytpakfknacmcohaa
open Go.RowKit
set_option autoImplicit false
set_option linter.unusedVariables false

theorem blen_le_iff {v k : Nat} : blen v ≤ k ↔ v < 2 ^ k := by
  constructor
  · intro h
    exact Nat.lt_of_lt_of_le (blen_lt v) (Nat.pow_le_pow_right (by omega) h)
  · intro h
    unfold blen
    split
    · omega
    · have := (Nat.log2_lt (n := v) (k := k) (by assumption)).2 h
      omega

theorem shr_half (n i : Nat) : n >>> i = 2 * (n >>> (i + 1)) + (n >>> i) % 2 := by
  rw [Nat.shiftRight_succ]; omega

theorem len_of_val {zs : List Int} (lz : Lim zs) (tz : Top zs) {k : Nat} (h : val zs < 4294967296 ^ k) : zs.length ≤ k := by
  by_cases hne : zs = []
  · subst hne; simp
  · have h1 := val_pos_of_top lz tz hne
    have h2 : ¬ k ≤ zs.length - 1 := fun hc => by have := pow_le hc; omega
    have : 0 < zs.length := List.length_pos_iff.2 hne
    omega

theorem pow_mono {a : Int} (h : 1 ≤ a) {m n : Nat} (hmn : m ≤ n) : a ^ m ≤ a ^ n := by
  obtain ⟨k, rfl⟩ := Nat.exists_eq_add_of_le hmn
  rw [Int.pow_add]
  have h1 : 0 < a ^ m := Int.pow_pos (by omega)
  have h2 : 0 < a ^ k := Int.pow_pos (by omega)
  have : a ^ m * 1 ≤ a ^ m * a ^ k := Int.mul_le_mul_of_nonneg_left (by omega) (by omega)
  omega

theorem pow_double (a : Int) (m : Nat) : a ^ m * a ^ m = a ^ (2 * m) := by rw [← Int.pow_add]; congr 1; omega

theorem i64_and_nat (a b : Nat) (ha : a < 9223372036854775808) (hb : b < 9223372036854775808) : bits .and .i64 (a : Int) (b : Int) = ((a &&& b : Nat) : Int) := by
  have hx : a &&& b < 2 ^ 63 := Nat.and_lt_two_pow _ (by omega)
  show IntKind.i64.wrap ((BitVec.ofInt 64 (a : Int) &&& BitVec.ofInt 64 (b : Int)).toNat : Int) = _
  rw [BitVec.toNat_and, ofInt_u64 a (by omega), ofInt_u64 b (by omega), IntKind.wrap_i64]
  omega

set_option maxRecDepth 100000 in
theorem raise_any (w : World) (ao : Option Addr) (n capa : Nat) (xs : List Int) (k K : Nat) (hx : Sl w ao n capa xs) (lx : Lim xs) (hA : 1 ≤ val xs) (hn : n ≤ 1048576) (hk : k ≤ 65536) (hK : K ≤ 1048576) (hval : val xs ^ k < 4294967296 ^ K) :
    Calls Try.prog 95 #[.slice ao n capa, .int .i64 (k : Int)] w (RetNat w (val xs ^ k) (K + 1)) := by
  have HX := Lib.hid hx
  have HVAL := Lib.hid hval
  obtain ⟨A, hAA⟩ : ∃ A, val xs = A := ⟨_, rfl⟩
  have HA := Lib.hid hAA
  rw [hAA] at hA ⊢
  have HL := Lib.hid (fun w' => len_any w' k (by omega))
  obtain ⟨B, hB⟩ : ∃ B, blen k = B := ⟨_, rfl⟩
  rw [hB] at HL
  have hB1 : B ≤ 17 := by rw [← hB, blen_le_iff]; omega
  have hk2 : k < 2 ^ B := by rw [← hB]; exact blen_lt k
  have HK2 := Lib.hid hk2
  have hown0 : Own w.heap.size (w.alloc (.cells #[.int .u32 1] 99)) (some ⟨w.heap.size, 0, none⟩) 1 1 [1] := by
    have := World.ownsRow_lit (base := w.heap.size) (e := 99) (size := 1) w #[.int .u32 1] 1 (Nat.le_refl _) (by unfold maxLen; omega) rfl
    exact this
  have HO := Lib.hid hown0
  clear hx hAA hB hk2 hown0 hval
  go_enter Try.func95, Try.ntmps95
  go_wp2_with fail
  refine (HL.out _).mono ?_
  rintro e w1 ⟨rfl, rfl⟩
  go_wp2_with fail
  go_loopw [5, 6] (fun r i wr => ∃ (j : Nat) (ro : Option Addr) (m c : Nat) (zs : List Int), j ≤ B ∧ i = .int .i64 ((j : Int) - 1) ∧ r = .slice ro m c ∧ Own w.heap.size wr ro m c zs ∧ Lim zs ∧ Top zs ∧ val zs = A ^ (k >>> j) ∧ m ≤ K + 1 ∧ Below w.heap.size w wr)
    (fun _ i _ => (intOf i + 1).toNat)
  case atStart => exact ⟨B, some ⟨w.heap.size, 0, none⟩, 1, 1, [1], Nat.le_refl _, rfl, rfl, HO.out, by intro z hz; simp at hz; omega, .inr (by simp), by rw [Nat.shiftRight_eq_div_pow, Nat.div_eq_of_lt HK2.out]; simp [val], by omega, by go_grown⟩
  case round =>
    obtain ⟨j, ro, m, c, zs, hj, rfl, rfl, hown, hlim, htop, hval, hm, hbel⟩ := hrel
    have HOW := Lib.hid hown
    have HT := Lib.hid htop
    have HV := Lib.hid hval
    have HB := Lib.hid hbel
    clear hown htop hval
    by_cases hj0 : j = 0
    · subst hj0
      go_wp2_with fail
      go_ret
      exact ⟨ro, m, c, zs, rfl, HOW.out, hlim, HT.out, by rw [HV.out, Nat.shiftRight_zero], hm, HB.out⟩
    · obtain ⟨i, rfl⟩ : ∃ i, j = i + 1 := ⟨j - 1, by omega⟩
      have hji : (0 : Int) ≤ ((i + 1 : Nat) : Int) - 1 := by omega
      have hj1 : ((i + 1 : Nat) : Int) - 1 = (i : Int) := by omega
      rw [hj1]
      have hi0 : (0 : Int) ≤ (i : Int) := by omega
      have hhalf := shr_half k i
      have hle : k >>> i ≤ k := by rw [Nat.shiftRight_eq_div_pow]; exact Nat.div_le_self _ _
      have hbit := Lib.hid hhalf
      go_wp2_with fail
      refine (product_any _ ro ro m m c c zs zs HOW.out.sl HOW.out.sl hlim hlim (by omega) (by omega)).mono ?_
      rintro e w2 ⟨a2, m2, c2, z2, rfl, hown2, hl2, ht2, hv2, hm2, hb2⟩
      have HO2 := Lib.hid (hown2.mono (B' := w.heap.size) HB.out.size)
      have HV2 := Lib.hid hv2
      have HB2 := Lib.hid (HB.out.trans (hb2.mono HB.out.size))
      have hand : bits BinOp.and IntKind.i64 ((k : Int) / 2 ^ i) 1 = ((k >>> i % 2 : Nat) : Int) := by
        have e1 : (k : Int) / 2 ^ i = ((k >>> i : Nat) : Int) := by rw [Nat.shiftRight_eq_div_pow]; simp
        rw [e1]
        have := i64_and_nat (k >>> i) 1 (by omega) (by omega)
        rw [Nat.and_one_is_mod] at this
        exact this
      have hm2' : m2 ≤ K + 1 := by
        have hl := len_of_val hl2 ht2 (k := K) (by
          refine Int.lt_of_le_of_lt ?_ HVAL.out
          rw [hv2, HV.out, pow_double, HA.out]
          exact pow_mono hA (by omega))
        have := HO2.out.sl.len
        omega
      clear hown2 hv2 hb2
      rcases Nat.mod_two_eq_zero_or_one (k >>> i) with hb | hb
      · rw [hb] at hand
        clear hhalf
        go_wp2_with fail
        go_roundw
        case rel =>
          refine ⟨i, a2, m2, c2, z2, by omega, rfl, rfl, HO2.out, hl2, ht2, ?_, hm2', HB2.out⟩
          rw [HV2.out, HV.out, pow_double]
          congr 1
          have := hbit.out
          omega
        case measure => simp [intOf]
      · rw [hb] at hand
        clear hhalf
        go_wp2_with fail
        refine (product_any _ a2 ao m2 n c2 capa z2 xs HO2.out.sl (HX.out.below HB2.out) hl2 lx (by omega) (by omega)).mono ?_
        rintro e w3 ⟨a3, m3, c3, z3, rfl, hown3, hl3, ht3, hv3, hm3, hb3⟩
        have HO3 := Lib.hid (hown3.mono (B' := w.heap.size) HB2.out.size)
        have HV3 := Lib.hid hv3
        have HB3 := Lib.hid (HB2.out.trans (hb3.mono HB2.out.size))
        have hv4 : val z3 = A ^ (k >>> i) := by
          rw [HV3.out, HV2.out, HV.out, pow_double, HA.out, ← Int.pow_succ]
          congr 1
          have := hbit.out
          omega
        have hm3' : m3 ≤ K + 1 := by
          have hl := len_of_val hl3 ht3 (k := K) (by
            refine Int.lt_of_le_of_lt ?_ HVAL.out
            rw [hv4, HA.out]
            exact pow_mono hA hle)
          have := HO3.out.sl.len
          omega
        have HV4 := Lib.hid hv4
        clear hown3 hv3 hb3 hv4
        go_wp2_with fail
        go_roundw
        case rel => exact ⟨i, a3, m3, c3, z3, by omega, rfl, rfl, HO3.out, hl3, ht3, HV4.out, hm3', HB3.out⟩
        case measure => simp [intOf]
end Go.Proofs.Ytpakfknacmcohaa
