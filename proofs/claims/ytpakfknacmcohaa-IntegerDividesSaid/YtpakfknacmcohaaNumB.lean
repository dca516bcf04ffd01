/- Num6, Num7, Num8, Num9, Num10 in one text. -/
import Derived.Test.YtpakfknacmcohaaNumA
namespace Go.Proofs.Ytpakfknacmcohaa
open Go.RowKit
set_option autoImplicit false
set_option linter.unusedVariables false

/-- The number of binary digits. -/
def blen (v : Nat) : Nat := if v = 0 then 0 else v.log2 + 1

def lenBytes : ByteArray := { data := (([0, 1, 2, 2, 3, 3, 3, 3, 4, 4, 4, 4, 4, 4, 4, 4, 5, 5, 5, 5, 5, 5, 5, 5, 5, 5, 5, 5, 5, 5, 5, 5, 6, 6, 6, 6, 6, 6, 6, 6, 6, 6, 6, 6, 6, 6, 6, 6, 6, 6, 6, 6, 6, 6, 6, 6, 6, 6, 6, 6, 6, 6, 6, 6].append [7, 7, 7, 7, 7, 7, 7, 7, 7, 7, 7, 7, 7, 7, 7, 7, 7, 7, 7, 7, 7, 7, 7, 7, 7, 7, 7, 7, 7, 7, 7, 7, 7, 7, 7, 7, 7, 7, 7, 7, 7, 7, 7, 7, 7, 7, 7, 7, 7, 7, 7, 7, 7, 7, 7, 7, 7, 7, 7, 7, 7, 7, 7, 7]).append ([8, 8, 8, 8, 8, 8, 8, 8, 8, 8, 8, 8, 8, 8, 8, 8, 8, 8, 8, 8, 8, 8, 8, 8, 8, 8, 8, 8, 8, 8, 8, 8, 8, 8, 8, 8, 8, 8, 8, 8, 8, 8, 8, 8, 8, 8, 8, 8, 8, 8, 8, 8, 8, 8, 8, 8, 8, 8, 8, 8, 8, 8, 8, 8].append [8, 8, 8, 8, 8, 8, 8, 8, 8, 8, 8, 8, 8, 8, 8, 8, 8, 8, 8, 8, 8, 8, 8, 8, 8, 8, 8, 8, 8, 8, 8, 8, 8, 8, 8, 8, 8, 8, 8, 8, 8, 8, 8, 8, 8, 8, 8, 8, 8, 8, 8, 8, 8, 8, 8, 8, 8, 8, 8, 8, 8, 8, 8, 8])).toArray }
theorem len_size : lenBytes.size = 256 := by decide +kernel
theorem len_all : ∀ k : Fin 256, ((lenBytes[k.val]'(by rw [len_size]; exact k.isLt)).toNat : Int) = (blen k.val : Int) := by decide +kernel

theorem len8_at (d : Nat) (h1 : d < 256) (w : World) :
    (Instr.index 9 (.string { data := (([0, 1, 2, 2, 3, 3, 3, 3, 4, 4, 4, 4, 4, 4, 4, 4, 5, 5, 5, 5, 5, 5, 5, 5, 5, 5, 5, 5, 5, 5, 5, 5, 6, 6, 6, 6, 6, 6, 6, 6, 6, 6, 6, 6, 6, 6, 6, 6, 6, 6, 6, 6, 6, 6, 6, 6, 6, 6, 6, 6, 6, 6, 6, 6].append [7, 7, 7, 7, 7, 7, 7, 7, 7, 7, 7, 7, 7, 7, 7, 7, 7, 7, 7, 7, 7, 7, 7, 7, 7, 7, 7, 7, 7, 7, 7, 7, 7, 7, 7, 7, 7, 7, 7, 7, 7, 7, 7, 7, 7, 7, 7, 7, 7, 7, 7, 7, 7, 7, 7, 7, 7, 7, 7, 7, 7, 7, 7, 7]).append ([8, 8, 8, 8, 8, 8, 8, 8, 8, 8, 8, 8, 8, 8, 8, 8, 8, 8, 8, 8, 8, 8, 8, 8, 8, 8, 8, 8, 8, 8, 8, 8, 8, 8, 8, 8, 8, 8, 8, 8, 8, 8, 8, 8, 8, 8, 8, 8, 8, 8, 8, 8, 8, 8, 8, 8, 8, 8, 8, 8, 8, 8, 8, 8].append [8, 8, 8, 8, 8, 8, 8, 8, 8, 8, 8, 8, 8, 8, 8, 8, 8, 8, 8, 8, 8, 8, 8, 8, 8, 8, 8, 8, 8, 8, 8, 8, 8, 8, 8, 8, 8, 8, 8, 8, 8, 8, 8, 8, 8, 8, 8, 8, 8, 8, 8, 8, 8, 8, 8, 8, 8, 8, 8, 8, 8, 8, 8, 8])).toArray }) (.int .u8 (d : Int))).run Try.prog w = .ok (.int .u8 (blen d : Int)) w := by
  have h := len_all ⟨d, h1⟩
  simp only at h
  have h2 : (d : Int) < 256 := by omega
  show (Instr.index 9 (.string lenBytes) (.int .u8 (d : Int))).run Try.prog w = .ok (.int .u8 (blen d : Int)) w
  rw [← h]
  simp [go_sem, len_size]
  rw [dif_pos h2]

theorem blen_div (v k : Nat) (h : 2 ^ k ≤ v) : blen v = blen (v / 2 ^ k) + k := by
  have hp : 0 < 2 ^ k := Nat.two_pow_pos k
  have h1 : 0 < v / 2 ^ k := Nat.div_pos h hp
  unfold blen
  rw [if_neg (by omega), if_neg (by omega)]
  have : v.log2 = (v / 2 ^ k).log2 + k := by
    have h2 := Nat.log2_self_le (n := v / 2 ^ k) (by omega)
    have h3 := Nat.lt_log2_self (n := v / 2 ^ k)
    rw [Nat.log2_eq_iff (by omega)]
    have e1 := Nat.div_add_mod v (2 ^ k)
    have e2 := Nat.mod_lt v hp
    rw [Nat.pow_add, show (v / 2 ^ k).log2 + k + 1 = (v / 2 ^ k).log2 + 1 + k by omega, Nat.pow_add]
    constructor
    · have := Nat.mul_le_mul_right (2 ^ k) h2
      rw [Nat.mul_comm (v / 2 ^ k)] at this
      omega
    · have h4 : (v / 2 ^ k + 1) * 2 ^ k ≤ 2 ^ ((v / 2 ^ k).log2 + 1) * 2 ^ k := Nat.mul_le_mul_right _ h3
      rw [Nat.add_mul, Nat.mul_comm (v / 2 ^ k)] at h4
      omega
  omega

theorem blen_small {z : Nat} (h : z < 256) : blen z ≤ 8 := by
  unfold blen
  split
  · omega
  · have := (Nat.log2_lt (n := z) (k := 8) (by omega)).2 h
    omega

def lenLit : ByteArray := { data := #[0, 1, 2, 2, 3, 3, 3, 3, 4, 4, 4, 4, 4, 4, 4, 4, 5, 5, 5, 5, 5, 5, 5, 5, 5, 5, 5, 5, 5, 5, 5, 5, 6, 6, 6, 6, 6, 6, 6, 6, 6, 6, 6, 6, 6, 6, 6, 6, 6, 6, 6, 6, 6, 6, 6, 6, 6, 6, 6, 6, 6, 6, 6, 6, 7, 7, 7, 7, 7, 7, 7, 7, 7, 7, 7, 7, 7, 7, 7, 7, 7, 7, 7, 7, 7, 7, 7, 7, 7, 7, 7, 7, 7, 7, 7, 7, 7, 7, 7, 7, 7, 7, 7, 7, 7, 7, 7, 7, 7, 7, 7, 7, 7, 7, 7, 7, 7, 7, 7, 7, 7, 7, 7, 7, 7, 7, 7, 7, 8, 8, 8, 8, 8, 8, 8, 8, 8, 8, 8, 8, 8, 8, 8, 8, 8, 8, 8, 8, 8, 8, 8, 8, 8, 8, 8, 8, 8, 8, 8, 8, 8, 8, 8, 8, 8, 8, 8, 8, 8, 8, 8, 8, 8, 8, 8, 8, 8, 8, 8, 8, 8, 8, 8, 8, 8, 8, 8, 8, 8, 8, 8, 8, 8, 8, 8, 8, 8, 8, 8, 8, 8, 8, 8, 8, 8, 8, 8, 8, 8, 8, 8, 8, 8, 8, 8, 8, 8, 8, 8, 8, 8, 8, 8, 8, 8, 8, 8, 8, 8, 8, 8, 8, 8, 8, 8, 8, 8, 8, 8, 8, 8, 8, 8, 8, 8, 8, 8, 8, 8, 8, 8, 8, 8, 8, 8, 8] }
theorem lit_size : lenLit.size = 256 := by decide +kernel
theorem lit_all : ∀ k : Fin 256, ((lenLit[k.val]'(by rw [lit_size]; exact k.isLt)).toNat) = blen k.val := by decide +kernel

set_option maxRecDepth 100000 in
theorem len32_a (w : World) (d : Nat) (y z : Nat) (e1 : ((d : Int) / 65536) = y) (h1' : (65536 : Int) ≤ d) (h2' : (256 : Int) ≤ y) (e2 : ((y : Int) / 256) = z) (hz : z < 256) (b : blen d = blen z + 24) : Calls Try.prog 119 #[.int .u32 (d : Int)] w fun e w' => e = .returned (.int .i64 (blen d : Int)) ∧ w = w' := by
  have hs := blen_small hz
  have hidx := lit_all ⟨z, hz⟩
  unfold lenLit at hidx
  simp only at hidx
  have hz0 : (0 : Int) ≤ z ∧ (z : Int) < 256 := by omega
  have hb : 24 + (blen z : Int) = (blen d : Int) := by omega
  have HB := Lib.hid hb
  clear hb b
  go_enter Try.func119, Try.ntmps119
  go_wp2_with fail
  clear hidx
  go_ret
  exact ⟨congrArg (fun x => Ending.returned (.int .i64 x)) HB.out, rfl⟩

set_option maxRecDepth 100000 in
theorem len32_b (w : World) (d : Nat) (z : Nat) (e1 : ((d : Int) / 65536) = z) (h1' : (65536 : Int) ≤ d) (hz : z < 256) (b : blen d = blen z + 16) : Calls Try.prog 119 #[.int .u32 (d : Int)] w fun e w' => e = .returned (.int .i64 (blen d : Int)) ∧ w = w' := by
  have hs := blen_small hz
  have h2' : ¬ (256 : Int) ≤ z := by omega
  have hidx := lit_all ⟨z, hz⟩
  unfold lenLit at hidx
  simp only at hidx
  have hz0 : (0 : Int) ≤ z ∧ (z : Int) < 256 := by omega
  have hb : 16 + (blen z : Int) = (blen d : Int) := by omega
  have HB := Lib.hid hb
  clear hb b
  go_enter Try.func119, Try.ntmps119
  go_wp2_with fail
  clear hidx
  go_ret
  exact ⟨congrArg (fun x => Ending.returned (.int .i64 x)) HB.out, rfl⟩

set_option maxRecDepth 100000 in
theorem len32_c (w : World) (d : Nat) (z : Nat) (h1' : ¬ (65536 : Int) ≤ d) (h2' : (256 : Int) ≤ d) (e2 : ((d : Int) / 256) = z) (hz : z < 256) (b : blen d = blen z + 8) : Calls Try.prog 119 #[.int .u32 (d : Int)] w fun e w' => e = .returned (.int .i64 (blen d : Int)) ∧ w = w' := by
  have hs := blen_small hz
  have hidx := lit_all ⟨z, hz⟩
  unfold lenLit at hidx
  simp only at hidx
  have hz0 : (0 : Int) ≤ z ∧ (z : Int) < 256 := by omega
  have hb : 8 + (blen z : Int) = (blen d : Int) := by omega
  have HB := Lib.hid hb
  clear hb b
  go_enter Try.func119, Try.ntmps119
  go_wp2_with fail
  clear hidx
  go_ret
  exact ⟨congrArg (fun x => Ending.returned (.int .i64 x)) HB.out, rfl⟩

set_option maxRecDepth 100000 in
theorem len32_d (w : World) (d : Nat) (hz : d < 256) : Calls Try.prog 119 #[.int .u32 (d : Int)] w fun e w' => e = .returned (.int .i64 (blen d : Int)) ∧ w = w' := by
  have hs := blen_small hz
  have h1' : ¬ (65536 : Int) ≤ d := by omega
  have h2' : ¬ (256 : Int) ≤ d := by omega
  have hidx := lit_all ⟨d, hz⟩
  unfold lenLit at hidx
  simp only at hidx
  have hz0 : (0 : Int) ≤ d ∧ (d : Int) < 256 := by omega
  go_enter Try.func119, Try.ntmps119
  go_wp2_with fail
  clear hidx
  go_ret
  exact ⟨rfl, rfl⟩

theorem len32_any (w : World) (d : Nat) (h : d < 4294967296) : Calls Try.prog 119 #[.int .u32 (d : Int)] w fun e w' => e = .returned (.int .i64 (blen d : Int)) ∧ w = w' := by
  by_cases h1 : 65536 ≤ d
  · have b1 := blen_div d 16 h1
    rw [show 2 ^ 16 = 65536 from rfl] at b1
    by_cases h2 : 256 ≤ d / 65536
    · have b2 := blen_div (d / 65536) 8 h2
      rw [show 2 ^ 8 = 256 from rfl] at b2
      exact len32_a w d (d / 65536) (d / 65536 / 256) (by omega) (by omega) (by omega) (by omega) (by omega) (by omega)
    · exact len32_b w d (d / 65536) (by omega) (by omega) (by omega) b1
  · by_cases h2 : 256 ≤ d
    · have b2 := blen_div d 8 h2
      rw [show 2 ^ 8 = 256 from rfl] at b2
      exact len32_c w d (d / 256) (by omega) (by omega) (by omega) (by omega) b2
    · exact len32_d w d (by omega)

theorem blen_val {zs : List Int} (lz : Lim zs) (tz : Top zs) (hne : zs ≠ []) : (blen (val zs).toNat : Int) = 32 * ((zs.length : Int) - 1) + (blen (zs.getD (zs.length - 1) 0).toNat : Int) := by
  have hl : 0 < zs.length := by
    rcases zs with _ | ⟨z, zs⟩
    · exact absurd rfl hne
    · simp
  obtain ⟨k, hk⟩ : ∃ k, zs.length = k + 1 := ⟨zs.length - 1, by omega⟩
  have hd := Lim_getD lz (zs.length - 1)
  have ht0 : zs.getD (zs.length - 1) 0 ≠ 0 := by rcases tz with h | h; exact absurd h hne; exact h
  have hs := val_split zs (zs.length - 1)
  rw [drop_getD (by omega : zs.length - 1 < zs.length), show zs.length - 1 + 1 = zs.length by omega, List.drop_of_length_le (Nat.le_refl _), List.length_take, Nat.min_eq_left (by omega)] at hs
  simp only [val] at hs
  have h1 := val_nonneg (Lim_take lz (zs.length - 1))
  have h2 := val_lt (Lim_take lz (zs.length - 1))
  rw [List.length_take, Nat.min_eq_left (by omega)] at h2
  rw [hk] at hs h1 h2 hd ht0 ⊢
  simp only [Nat.add_sub_cancel] at hs h1 h2 hd ht0 ⊢
  obtain ⟨t, ht⟩ : ∃ t : Nat, zs.getD k 0 = t := ⟨(zs.getD k 0).toNat, by omega⟩
  obtain ⟨r, hr⟩ : ∃ r : Nat, val (zs.take k) = r := ⟨(val (zs.take k)).toNat, by omega⟩
  rw [ht, hr] at hs
  rw [hr] at h2
  rw [ht] at ht0
  have hp : (4294967296 : Int) ^ k = ((2 ^ (32 * k) : Nat) : Int) := by rw [base_pow]; simp
  rw [hp] at hs h2
  have hv : val zs = ((r + 2 ^ (32 * k) * t : Nat) : Int) := by rw [hs]; simp
  have hr2 : r < 2 ^ (32 * k) := by omega
  have hpos : 0 < 2 ^ (32 * k) := Nat.two_pow_pos _
  have ht1 : 1 ≤ t := by omega
  have hdiv : (r + 2 ^ (32 * k) * t) / 2 ^ (32 * k) = t := by
    rw [Nat.add_mul_div_left _ _ hpos, Nat.div_eq_of_lt hr2, Nat.zero_add]
  have hge : 2 ^ (32 * k) ≤ r + 2 ^ (32 * k) * t := by
    have : 2 ^ (32 * k) * 1 ≤ 2 ^ (32 * k) * t := Nat.mul_le_mul_left _ ht1
    omega
  have hb := blen_div (r + 2 ^ (32 * k) * t) (32 * k) hge
  rw [hdiv] at hb
  rw [hv, ht, Int.toNat_natCast, Int.toNat_natCast, hb]
  omega

set_option maxRecDepth 100000 in
theorem bitlen_any (w : World) (ao : Option Addr) (n cap : Nat) (zs : List Int) (h : Sl w ao n cap zs) (lz : Lim zs) (tz : Top zs) (hn : n ≤ 34359738368) :
    Calls Try.prog 77 #[.slice ao n cap] w (RetQ w (.int .i64 (blen (val zs).toNat : Int))) := by
  have hlen := h.len
  by_cases h0 : n = 0
  · have hz : zs = [] := List.eq_nil_of_length_eq_zero (by omega)
    have hv : (blen (val zs).toNat : Int) = 0 := by rw [hz]; rfl
    rw [hv]
    subst h0
    clear hlen hv h
    go_enter Try.func77, Try.ntmps77
    go_wp2_with fail
    go_ret
    exact ⟨rfl, 0, rfl⟩
  · have hne : zs ≠ [] := by intro hh; rw [hh] at hlen; simp at hlen; omega
    have hb := blen_val lz tz hne
    rw [hlen] at hb
    obtain ⟨b, o, rfl, hc⟩ := h.cells.at (k := n - 1) (by omega)
    have hd := Lim_getD lz (n - 1)
    obtain ⟨t, ht⟩ : ∃ t : Nat, zs.getD (n - 1) 0 = t := ⟨(zs.getD (n - 1) 0).toNat, by omega⟩
    rw [ht] at hb hc hd
    rw [Int.toNat_natCast] at hb
    rw [hb]
    have hcap := h.le
    have hmx : cap ≤ 9223372036854775807 := by have := h.most; unfold maxLen at this; omega
    obtain ⟨k, rfl⟩ : ∃ k, n = k + 1 := ⟨n - 1, by omega⟩
    simp only [Nat.add_sub_cancel] at hc
    have HL := Lib.hid (len32_any w t (by omega))
    have hbt : blen t ≤ 32 := by
      unfold blen
      split
      · omega
      · have := (Nat.log2_lt (n := t) (k := 32) (by omega)).2 (by omega)
        omega
    have hne0 : (((k + 1 : Nat) : Int) == 0) = false := by simp; omega
    clear hlen hne hb hd ht h
    go_enter Try.func77, Try.ntmps77
    go_wp2_with fail
    refine HL.out.mono ?_
    rintro e w1 ⟨rfl, rfl⟩
    go_wp2_with fail
    go_ret
    refine ⟨congrArg (fun x => Ending.returned (.int .i64 x)) ?_, 0, rfl⟩
    omega

theorem length_any (w : World) (nx : Bool) (ao : Option Addr) (n cap : Nat) (xs : List Int) (x : Int) (hx : IntAt w nx ao n cap xs x) (hn : n ≤ 34359738368) :
    Calls Try.prog 26 #[.agg #[.bool nx, .slice ao n cap]] w (RetV w (.int .i64 (blen (cpl x).toNat : Int))) := by
  have HX := Lib.hid hx
  clear hx
  go_enter Try.func26, Try.ntmps26
  go_wp2_with fail
  refine (complement_any _ nx ao n cap xs x (HX.out.below (by go_grown)) hn).mono ?_
  rintro e w1 ⟨a1, k1, c1, z1, rfl, hown, hl1, ht1, hv1, hk1, hb1⟩
  have HO := Lib.hid hown.sl
  have HV := Lib.hid hv1
  have hb2 : Below w.heap.size w w1 := Below.trans (by go_grown) (hb1.mono (by go_size))
  clear hown hb1 hv1
  go_wp2_with fail
  refine (bitlen_any w1 a1 k1 c1 z1 HO.out hl1 ht1 (by omega)).mono ?_
  rintro e w2 ⟨rfl, q, rfl⟩
  go_wp2_with fail
  go_ret
  exact ⟨congrArg (fun x => Ending.returned (.int .i64 (blen (Int.toNat x) : Int))) HV.out, below_drewN hb2 q⟩

theorem pow16 (n : Nat) : (65536 : Int) ^ n = ((2 ^ (16 * n) : Nat) : Int) := by
  rw [Nat.pow_mul]
  simp

theorem blen_dval {zs : List Int} (lz : Dig 65536 zs) (tz : Top zs) (hne : zs ≠ []) : (blen (dval 65536 zs).toNat : Int) = 16 * ((zs.length : Int) - 1) + (blen (zs.getD (zs.length - 1) 0).toNat : Int) := by
  have hl : 0 < zs.length := by
    rcases zs with _ | ⟨z, zs⟩
    · exact absurd rfl hne
    · simp
  obtain ⟨k, hk⟩ : ∃ k, zs.length = k + 1 := ⟨zs.length - 1, by omega⟩
  have hd := Dig_getD (by omega : (0 : Int) < 65536) lz (zs.length - 1)
  have ht0 : zs.getD (zs.length - 1) 0 ≠ 0 := by rcases tz with h | h; exact absurd h hne; exact h
  have hs := dval_split 65536 zs (zs.length - 1)
  rw [drop_getD (by omega : zs.length - 1 < zs.length), show zs.length - 1 + 1 = zs.length by omega, List.drop_of_length_le (Nat.le_refl _), List.length_take, Nat.min_eq_left (by omega)] at hs
  simp only [dval] at hs
  have h1 := dval_nonneg (r := 65536) (by omega) (Dig_take lz (zs.length - 1))
  have h2 := dval_lt (r := 65536) (by omega) (Dig_take lz (zs.length - 1))
  rw [List.length_take, Nat.min_eq_left (by omega)] at h2
  rw [hk] at hs h1 h2 hd ht0 ⊢
  simp only [Nat.add_sub_cancel] at hs h1 h2 hd ht0 ⊢
  obtain ⟨t, ht⟩ : ∃ t : Nat, zs.getD k 0 = t := ⟨(zs.getD k 0).toNat, by omega⟩
  obtain ⟨r, hr⟩ : ∃ r : Nat, dval 65536 (zs.take k) = r := ⟨(dval 65536 (zs.take k)).toNat, by omega⟩
  rw [ht, hr] at hs
  rw [hr] at h2
  rw [ht] at ht0
  rw [pow16] at hs h2
  have hv : dval 65536 zs = ((r + 2 ^ (16 * k) * t : Nat) : Int) := by rw [hs]; simp
  have hr2 : r < 2 ^ (16 * k) := by omega
  have hpos : 0 < 2 ^ (16 * k) := Nat.two_pow_pos _
  have ht1 : 1 ≤ t := by omega
  have hdiv : (r + 2 ^ (16 * k) * t) / 2 ^ (16 * k) = t := by
    rw [Nat.add_mul_div_left _ _ hpos, Nat.div_eq_of_lt hr2, Nat.zero_add]
  have hge : 2 ^ (16 * k) ≤ r + 2 ^ (16 * k) * t := by
    have : 2 ^ (16 * k) * 1 ≤ 2 ^ (16 * k) * t := Nat.mul_le_mul_left _ ht1
    omega
  have hb := blen_div (r + 2 ^ (16 * k) * t) (16 * k) hge
  rw [hdiv] at hb
  rw [hv, ht, Int.toNat_natCast, Int.toNat_natCast, hb]
  omega

theorem blen_half {t : Nat} (h : 0 < t) : blen t = blen (t / 2) + 1 := by
  by_cases h1 : t = 1
  · subst h1; decide
  · have := blen_div t 1 (by simp; omega)
    simpa using this

set_option maxRecDepth 100000 in
theorem rwidth_any (w : World) (nx : Bool) (ao : Option Addr) (n cap : Nat) (xs : List Int) (x : Int) (hx : RefAt w nx ao n cap xs x) (hn : n ≤ 34359738368) :
    Calls Try.prog 79 #[.agg #[.bool nx, .slice ao n cap]] w (RetV w (.int .i64 (blen x.natAbs : Int))) := by
  have hlen := hx.sl.len
  have habs : x.natAbs = (dval 65536 xs).toNat := by
    have h0 := dval_nonneg (r := 65536) (by omega) hx.lim
    rw [hx.val]
    cases nx <;> simp [sgn] <;> omega
  by_cases h0 : n = 0
  · have hz : xs = [] := List.eq_nil_of_length_eq_zero (by omega)
    have hv : (blen x.natAbs : Int) = 0 := by rw [habs, hz]; rfl
    rw [hv]
    subst h0
    clear hlen hv hx habs
    go_enter Try.func79, Try.ntmps79
    go_wp2_with fail
    go_ret
    exact ⟨rfl, by go_grown⟩
  · have hne : xs ≠ [] := by intro hh; rw [hh] at hlen; simp at hlen; omega
    have hb := blen_dval hx.lim hx.top hne
    rw [hlen] at hb
    obtain ⟨b, o, rfl, hc⟩ := hx.sl.cells.at (k := n - 1) (by omega)
    have hd := Dig_getD (by omega : (0 : Int) < 65536) hx.lim (n - 1)
    obtain ⟨t0, ht⟩ : ∃ t : Nat, xs.getD (n - 1) 0 = t := ⟨(xs.getD (n - 1) 0).toNat, by omega⟩
    rw [ht] at hb hc hd
    rw [Int.toNat_natCast] at hb
    rw [habs, hb]
    have hcap := hx.sl.le
    have hmx : cap ≤ 9223372036854775807 := by have := hx.sl.most; unfold maxLen at this; omega
    obtain ⟨k, rfl⟩ : ∃ k, n = k + 1 := ⟨n - 1, by omega⟩
    simp only [Nat.add_sub_cancel] at hc
    have hbw := World.block_lt_of_cell? w _ hc
    have hne2 := World.new_ne w _ hc
    have hd1 : t0 < 65536 := by omega
    have hbt : blen t0 ≤ 16 := by
      unfold blen
      split
      · omega
      · have := (Nat.log2_lt (n := t0) (k := 16) (by omega)).2 (by omega)
        omega
    have hne0 : (((k + 1 : Nat) : Int) == 0) = false := by simp; omega
    clear hlen hne hb hd ht hx habs
    go_enter Try.func79, Try.ntmps79
    go_wp2_with fail
    go_loopw [3, 4] (fun c t wr => ∃ (p q : Nat), t = .int .i64 p ∧ c = .int .i64 q ∧ p ≤ t0 ∧ q + blen p = 16 * k + blen t0 ∧ Below w.heap.size w wr) (fun _ t _ => (intOf t).toNat)
    case atStart => exact ⟨t0, 16 * k, rfl, by go_num, by omega, by omega, by go_grown⟩
    case round =>
      obtain ⟨p, q, rfl, rfl, hpt, hpq, hbel⟩ := hrel
      have HB := Lib.hid hbel
      clear hbel
      by_cases hp : 0 < p
      · have hp' : (0 : Int) < p := by omega
        have hh := blen_half hp
        have HQ := Lib.hid (show q + 1 + blen (p / 2) = 16 * k + blen t0 by omega)
        have hq : q ≤ 600000000000 := by omega
        clear hh hpq
        go_wp2_with fail
        go_roundw
        case rel => exact ⟨p / 2, q + 1, by go_num, by go_num, by omega, HQ.out, HB.out⟩
        case measure => simp [intOf]; omega
      · obtain rfl : p = 0 := by omega
        have hq : q = 16 * k + blen t0 := by simpa [blen] using hpq
        have HQ := Lib.hid hq
        clear hpq hq
        go_wp2_with fail
        go_ret
        exact ⟨congrArg (fun x => Ending.returned (.int .i64 x)) (by rw [HQ.out]; omega), HB.out⟩

theorem rlength_any (w : World) (nx : Bool) (ao : Option Addr) (n cap : Nat) (xs : List Int) (x : Int) (hx : RefAt w nx ao n cap xs x) (hn : n ≤ 4294967296) :
    Calls Try.prog 27 #[.agg #[.bool nx, .slice ao n cap]] w (RetV w (.int .i64 (blen (cpl x).toNat : Int))) := by
  have h0 := dval_nonneg (r := 65536) (by omega) hx.lim
  have HX := Lib.hid hx
  cases nx with
  | false =>
    have hc : (cpl x).toNat = x.natAbs := by unfold cpl; rw [hx.val]; simp [sgn]; rw [if_neg (by omega)]; omega
    have HC := Lib.hid hc
    clear hx hc h0
    go_enter Try.func27, Try.ntmps27
    go_wp2_with fail
    refine (rwidth_any _ false ao n cap xs x (HX.out.below (by go_grown)) (by omega)).mono ?_
    rintro e w1 ⟨rfl, hb1⟩
    have hb2 : Below w.heap.size w w1 := Below.trans (by go_grown) (hb1.mono (by go_size))
    clear hb1
    go_wp2_with fail
    go_ret
    exact ⟨congrArg (fun x => Ending.returned (.int .i64 (blen x : Int))) HC.out.symm, hb2⟩
  | true =>
    have hne := hx.sign rfl
    have hpos := dval_pos_of_top (r := 65536) (by omega) hx.lim hx.top hne
    have hp := rpow_pos (r := 65536) (by omega) (xs.length - 1)
    have hc : (cpl x).toNat = (x + 1).natAbs := by
      have hneg : x < 0 := by rw [hx.val]; simp [sgn]; omega
      unfold cpl
      rw [if_pos hneg]
      omega
    have HC := Lib.hid hc
    clear hx hc h0 hne hpos hp
    go_enter Try.func27, Try.ntmps27
    go_wp2_with fail
    go_region_held3 (fun w' => w'.cell? ⟨w.heap.size, 0, none⟩ = some (.bool true) ∧ w'.cell? ⟨w.heap.size, 1, none⟩ = some (.slice ao n cap)) (((try dsimp only); (repeat' apply And.intro) <;> (first | (go_keep; done) | (go_split_ands; rw [hb1.cell (by first | (dsimp only; omega) | go_size)]; assumption) | (go_split_ands; rw [hb3.cell (by first | (dsimp only; omega) | go_size)]; assumption) | (go_split_ands; rw [hb5.cell (by first | (dsimp only; omega) | go_size)]; assumption))))
      (first | (go_at_call 79; refine (rwidth_any _ n3 a3 k3 cc3 z3 (x + 1) HI3.out (by omega)).mono ?_; rintro e w3 ⟨rfl, hb5⟩; have hb6 : Below w.heap.size w w3 := hb4.trans (hb5.mono hb4.size)) | (go_at_call 39; refine (radd_any _ true n1 ao a1 n k1 cap cc1 xs z1 x 1 (HX.out.below hb2) HI1.out hn (by omega)).mono ?_; rintro e w2 ⟨n3, a3, k3, cc3, z3, rfl, hint3, hk3, hb3⟩; have hz2 := hb3.size; have hb4 : Below w.heap.size w w2 := hb2.trans (hb3.mono hb2.size); have HI3 := Lib.hid hint3; clear hint3) | (go_at_call 18; refine (rnew_any _ 1 (by omega) (by omega)).mono ?_; rintro e w1 ⟨n1, a1, k1, cc1, z1, rfl, hint1, hk1, hb1⟩; have hb2 : Below w.heap.size w w1 := Below.trans (by go_grown) (hb1.mono (by go_size)); have hz1 : w.heap.size + 1 ≤ w1.heap.size := Nat.le_trans (by go_size) hb1.size; have HI1 := Lib.hid hint1; clear hint1))
    go_wp2_with fail
    go_ret
    exact ⟨congrArg (fun x => Ending.returned (.int .i64 (blen x : Int))) HC.out.symm, hb6⟩
end Go.Proofs.Ytpakfknacmcohaa
