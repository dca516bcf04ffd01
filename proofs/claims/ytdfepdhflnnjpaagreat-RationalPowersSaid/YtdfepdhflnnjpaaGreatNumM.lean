/- NumA, NumB, NumC in one text. -/
import Derived.Test.YtdfepdhflnnjpaaGreatOf
import Derived.WalkSmall
import Derived.Deep.AppendLies
import Derived.Maps.AppendAt
namespace Go.Proofs.YtdfepdhflnnjpaaGreat
open Go.RowKit
set_option autoImplicit false
set_option linter.unusedVariables false

set_option maxHeartbeats 1000000
set_option linter.unusedVariables false

theorem join_any (w : World) (ao : Option Addr) (n cap : Nat) (zs : List Int) (h : Sl w ao n cap zs) (lz : Lim zs) :
    Calls Tryz.prog 168 #[.slice ao n cap] w (RetQ w (.int .u64 (zs.getD 1 0 * 4294967296 + zs.getD 0 0))) := by
  have l1 := Lim_getD lz 1
  have l0 := Lim_getD lz 0
  obtain ⟨a, ha⟩ : ∃ a, zs.getD 1 0 = a := ⟨_, rfl⟩
  obtain ⟨b, hb⟩ : ∃ b, zs.getD 0 0 = b := ⟨_, rfl⟩
  rw [ha] at l1
  rw [hb] at l0
  rw [ha, hb]
  have HA := Lib.hid ha
  have HB := Lib.hid hb
  have hor := or_low a b l1.1 l1.2 l0.1 l0.2
  have H1 : Hid (Calls Tryz.prog 159 #[.slice ao n cap, .int .i64 1] w fun e w' => e = .returned (.int .u32 a) ∧ w = w') := Lib.hid (by
    have := limb_any w ao n cap zs 1 h.len h.cells (by omega)
    rw [show Int.toNat 1 = 1 from rfl, ha] at this
    exact this)
  have H0 : Hid (Calls Tryz.prog 159 #[.slice ao n cap, .int .i64 0] w fun e w' => e = .returned (.int .u32 b) ∧ w = w') := Lib.hid (by
    have := limb_any w ao n cap zs 0 h.len h.cells (by omega)
    rw [show Int.toNat 0 = 0 from rfl, hb] at this
    exact this)
  obtain ⟨l10, l11⟩ := l1
  obtain ⟨l00, l01⟩ := l0
  clear ha hb h
  go_enter Tryz.func168, Tryz.ntmps168
  go_wp2_with fail
  refine H1.out.mono ?_
  rintro e w1 ⟨rfl, rfl⟩
  go_wp2_with fail
  refine H0.out.mono ?_
  rintro e w2 ⟨rfl, rfl⟩
  go_wp2_with fail
  go_ret
  exact ⟨rfl, 0, rfl⟩

set_option maxHeartbeats 1000000
set_option linter.unusedVariables false

/-- The number of binary digits. -/
def blen (v : Nat) : Nat := if v = 0 then 0 else v.log2 + 1

theorem blen_div (v k : Nat) (h : 2 ^ k ≤ v) : blen v = blen (v / 2 ^ k) + k := by
  have hp : 0 < 2 ^ k := Nat.two_pow_pos k
  have h1 : 0 < v / 2 ^ k := Nat.div_pos h hp
  unfold blen
  rw [if_neg (by omega), if_neg (by omega)]
  have : v.log2 = (v / 2 ^ k).log2 + k := by
    have h2 := Nat.log2_self_le (n := v / 2 ^ k) (by omega)
    have h3 := Nat.lt_log2_self (n := v / 2 ^ k)
    rw [Nat.log2_eq_iff (by omega)]
    have e1 := Nat.div_add_mod v (2 ^ k)
    have e2 := Nat.mod_lt v hp
    rw [Nat.pow_add, show (v / 2 ^ k).log2 + k + 1 = (v / 2 ^ k).log2 + 1 + k by omega, Nat.pow_add]
    constructor
    · have := Nat.mul_le_mul_right (2 ^ k) h2
      rw [Nat.mul_comm (v / 2 ^ k)] at this
      omega
    · have h4 : (v / 2 ^ k + 1) * 2 ^ k ≤ 2 ^ ((v / 2 ^ k).log2 + 1) * 2 ^ k := Nat.mul_le_mul_right _ h3
      rw [Nat.add_mul, Nat.mul_comm (v / 2 ^ k)] at h4
      omega
  omega

theorem blen_small {z : Nat} (h : z < 256) : blen z ≤ 8 := by
  unfold blen
  split
  · omega
  · have := (Nat.log2_lt (n := z) (k := 8) (by omega)).2 h
    omega

def lenLit : ByteArray := { data := #[0, 1, 2, 2, 3, 3, 3, 3, 4, 4, 4, 4, 4, 4, 4, 4, 5, 5, 5, 5, 5, 5, 5, 5, 5, 5, 5, 5, 5, 5, 5, 5, 6, 6, 6, 6, 6, 6, 6, 6, 6, 6, 6, 6, 6, 6, 6, 6, 6, 6, 6, 6, 6, 6, 6, 6, 6, 6, 6, 6, 6, 6, 6, 6, 7, 7, 7, 7, 7, 7, 7, 7, 7, 7, 7, 7, 7, 7, 7, 7, 7, 7, 7, 7, 7, 7, 7, 7, 7, 7, 7, 7, 7, 7, 7, 7, 7, 7, 7, 7, 7, 7, 7, 7, 7, 7, 7, 7, 7, 7, 7, 7, 7, 7, 7, 7, 7, 7, 7, 7, 7, 7, 7, 7, 7, 7, 7, 7, 8, 8, 8, 8, 8, 8, 8, 8, 8, 8, 8, 8, 8, 8, 8, 8, 8, 8, 8, 8, 8, 8, 8, 8, 8, 8, 8, 8, 8, 8, 8, 8, 8, 8, 8, 8, 8, 8, 8, 8, 8, 8, 8, 8, 8, 8, 8, 8, 8, 8, 8, 8, 8, 8, 8, 8, 8, 8, 8, 8, 8, 8, 8, 8, 8, 8, 8, 8, 8, 8, 8, 8, 8, 8, 8, 8, 8, 8, 8, 8, 8, 8, 8, 8, 8, 8, 8, 8, 8, 8, 8, 8, 8, 8, 8, 8, 8, 8, 8, 8, 8, 8, 8, 8, 8, 8, 8, 8, 8, 8, 8, 8, 8, 8, 8, 8, 8, 8, 8, 8, 8, 8, 8, 8, 8, 8, 8, 8] }

theorem lit_size : lenLit.size = 256 := by decide +kernel

theorem lit_all : ∀ k : Fin 256, ((lenLit[k.val]'(by rw [lit_size]; exact k.isLt)).toNat) = blen k.val := by decide +kernel

set_option maxRecDepth 100000 in
theorem len32_a (w : World) (d : Nat) (y z : Nat) (e1 : ((d : Int) / 65536) = y) (h1' : (65536 : Int) ≤ d) (h2' : (256 : Int) ≤ y) (e2 : ((y : Int) / 256) = z) (hz : z < 256) (b : blen d = blen z + 24) : Calls Tryz.prog 155 #[.int .u32 (d : Int)] w fun e w' => e = .returned (.int .i64 (blen d : Int)) ∧ w = w' := by
  have hs := blen_small hz
  have hidx := lit_all ⟨z, hz⟩
  unfold lenLit at hidx
  simp only at hidx
  have hz0 : (0 : Int) ≤ z ∧ (z : Int) < 256 := by omega
  have hb : 24 + (blen z : Int) = (blen d : Int) := by omega
  have HB := Lib.hid hb
  clear hb b
  go_enter Tryz.func155, Tryz.ntmps155
  go_wp2_with fail
  clear hidx
  go_ret
  exact ⟨congrArg (fun x => Ending.returned (.int .i64 x)) HB.out, rfl⟩

set_option maxRecDepth 100000 in
theorem len32_b (w : World) (d : Nat) (z : Nat) (e1 : ((d : Int) / 65536) = z) (h1' : (65536 : Int) ≤ d) (hz : z < 256) (b : blen d = blen z + 16) : Calls Tryz.prog 155 #[.int .u32 (d : Int)] w fun e w' => e = .returned (.int .i64 (blen d : Int)) ∧ w = w' := by
  have hs := blen_small hz
  have h2' : ¬ (256 : Int) ≤ z := by omega
  have hidx := lit_all ⟨z, hz⟩
  unfold lenLit at hidx
  simp only at hidx
  have hz0 : (0 : Int) ≤ z ∧ (z : Int) < 256 := by omega
  have hb : 16 + (blen z : Int) = (blen d : Int) := by omega
  have HB := Lib.hid hb
  clear hb b
  go_enter Tryz.func155, Tryz.ntmps155
  go_wp2_with fail
  clear hidx
  go_ret
  exact ⟨congrArg (fun x => Ending.returned (.int .i64 x)) HB.out, rfl⟩

set_option maxRecDepth 100000 in
theorem len32_c (w : World) (d : Nat) (z : Nat) (h1' : ¬ (65536 : Int) ≤ d) (h2' : (256 : Int) ≤ d) (e2 : ((d : Int) / 256) = z) (hz : z < 256) (b : blen d = blen z + 8) : Calls Tryz.prog 155 #[.int .u32 (d : Int)] w fun e w' => e = .returned (.int .i64 (blen d : Int)) ∧ w = w' := by
  have hs := blen_small hz
  have hidx := lit_all ⟨z, hz⟩
  unfold lenLit at hidx
  simp only at hidx
  have hz0 : (0 : Int) ≤ z ∧ (z : Int) < 256 := by omega
  have hb : 8 + (blen z : Int) = (blen d : Int) := by omega
  have HB := Lib.hid hb
  clear hb b
  go_enter Tryz.func155, Tryz.ntmps155
  go_wp2_with fail
  clear hidx
  go_ret
  exact ⟨congrArg (fun x => Ending.returned (.int .i64 x)) HB.out, rfl⟩

set_option maxRecDepth 100000 in
theorem len32_d (w : World) (d : Nat) (hz : d < 256) : Calls Tryz.prog 155 #[.int .u32 (d : Int)] w fun e w' => e = .returned (.int .i64 (blen d : Int)) ∧ w = w' := by
  have hs := blen_small hz
  have h1' : ¬ (65536 : Int) ≤ d := by omega
  have h2' : ¬ (256 : Int) ≤ d := by omega
  have hidx := lit_all ⟨d, hz⟩
  unfold lenLit at hidx
  simp only at hidx
  have hz0 : (0 : Int) ≤ d ∧ (d : Int) < 256 := by omega
  go_enter Tryz.func155, Tryz.ntmps155
  go_wp2_with fail
  clear hidx
  go_ret
  exact ⟨rfl, rfl⟩

theorem len32_any (w : World) (d : Nat) (h : d < 4294967296) : Calls Tryz.prog 155 #[.int .u32 (d : Int)] w fun e w' => e = .returned (.int .i64 (blen d : Int)) ∧ w = w' := by
  by_cases h1 : 65536 ≤ d
  · have b1 := blen_div d 16 h1
    rw [show 2 ^ 16 = 65536 from rfl] at b1
    by_cases h2 : 256 ≤ d / 65536
    · have b2 := blen_div (d / 65536) 8 h2
      rw [show 2 ^ 8 = 256 from rfl] at b2
      exact len32_a w d (d / 65536) (d / 65536 / 256) (by omega) (by omega) (by omega) (by omega) (by omega) (by omega)
    · exact len32_b w d (d / 65536) (by omega) (by omega) (by omega) b1
  · by_cases h2 : 256 ≤ d
    · have b2 := blen_div d 8 h2
      rw [show 2 ^ 8 = 256 from rfl] at b2
      exact len32_c w d (d / 256) (by omega) (by omega) (by omega) (by omega) b2
    · exact len32_d w d (by omega)

theorem blen_val {zs : List Int} (lz : Lim zs) (tz : Top zs) (hne : zs ≠ []) : (blen (val zs).toNat : Int) = 32 * ((zs.length : Int) - 1) + (blen (zs.getD (zs.length - 1) 0).toNat : Int) := by
  have hl : 0 < zs.length := by
    rcases zs with _ | ⟨z, zs⟩
    · exact absurd rfl hne
    · simp
  obtain ⟨k, hk⟩ : ∃ k, zs.length = k + 1 := ⟨zs.length - 1, by omega⟩
  have hd := Lim_getD lz (zs.length - 1)
  have ht0 : zs.getD (zs.length - 1) 0 ≠ 0 := by rcases tz with h | h; exact absurd h hne; exact h
  have hs := val_split zs (zs.length - 1)
  rw [drop_getD (by omega : zs.length - 1 < zs.length), show zs.length - 1 + 1 = zs.length by omega, List.drop_of_length_le (Nat.le_refl _), List.length_take, Nat.min_eq_left (by omega)] at hs
  simp only [val] at hs
  have h1 := val_nonneg (Lim_take lz (zs.length - 1))
  have h2 := val_lt (Lim_take lz (zs.length - 1))
  rw [List.length_take, Nat.min_eq_left (by omega)] at h2
  rw [hk] at hs h1 h2 hd ht0 ⊢
  simp only [Nat.add_sub_cancel] at hs h1 h2 hd ht0 ⊢
  obtain ⟨t, ht⟩ : ∃ t : Nat, zs.getD k 0 = t := ⟨(zs.getD k 0).toNat, by omega⟩
  obtain ⟨r, hr⟩ : ∃ r : Nat, val (zs.take k) = r := ⟨(val (zs.take k)).toNat, by omega⟩
  rw [ht, hr] at hs
  rw [hr] at h2
  rw [ht] at ht0
  have hp : (4294967296 : Int) ^ k = ((2 ^ (32 * k) : Nat) : Int) := by rw [base_pow]; simp
  rw [hp] at hs h2
  have hv : val zs = ((r + 2 ^ (32 * k) * t : Nat) : Int) := by rw [hs]; simp
  have hr2 : r < 2 ^ (32 * k) := by omega
  have hpos : 0 < 2 ^ (32 * k) := Nat.two_pow_pos _
  have ht1 : 1 ≤ t := by omega
  have hdiv : (r + 2 ^ (32 * k) * t) / 2 ^ (32 * k) = t := by
    rw [Nat.add_mul_div_left _ _ hpos, Nat.div_eq_of_lt hr2, Nat.zero_add]
  have hge : 2 ^ (32 * k) ≤ r + 2 ^ (32 * k) * t := by
    have : 2 ^ (32 * k) * 1 ≤ 2 ^ (32 * k) * t := Nat.mul_le_mul_left _ ht1
    omega
  have hb := blen_div (r + 2 ^ (32 * k) * t) (32 * k) hge
  rw [hdiv] at hb
  rw [hv, ht, Int.toNat_natCast, Int.toNat_natCast, hb]
  omega

theorem pow16 (n : Nat) : (65536 : Int) ^ n = ((2 ^ (16 * n) : Nat) : Int) := by
  rw [Nat.pow_mul]
  simp

set_option maxHeartbeats 1000000
set_option linter.unusedVariables false

theorem blen_lt (v : Nat) : v < 2 ^ blen v := by
  unfold blen
  by_cases h : v = 0
  · subst h; decide
  · rw [if_neg h]
    exact Nat.lt_log2_self

theorem ownsRow_mono {B B' : Nat} {w : World} {e : TypeId} {s : Nat} {v : Value} {n : Nat} {xs : List Value} (h : w.ownsRow B e s v n xs) (hB : B' ≤ B) : w.ownsRow B' e s v n xs := by
  refine ⟨h.1, ?_⟩
  rcases h.2 with h2 | ⟨g, c, cur, hv, hbg, r⟩
  · exact .inl h2
  · exact .inr ⟨g, c, cur, hv, Nat.le_trans hB hbg, r⟩
end Go.Proofs.YtdfepdhflnnjpaaGreat
