/- RootM: more contracts of layer 2. -/
import Derived.Test.YtdfepdhflnnjpaaGreatGcdN
import Derived.Test.YtdfepdhflnnjpaaGreatParseM
import Derived.WalkKit
import Derived.WalkSpells
import Derived.Outline
import Derived.Deep.LoopGhost
import Derived.Handy
import Derived.Lib.Hide
import Derived.Deep.RegionHeld3
import Derived.Deep.QuietTactic
import Derived.BigQuiet
import Derived.WalkSmall
import Derived.Laws.BitsAllLaws
import Derived.RegionTactic
import Derived.ChangeAlike
import Derived.BigRegion
import Derived.Laws.BytesArg
import Derived.Deep.AppendLies
import Derived.Laws.CopyOwn
import Derived.StillTailTactics
import Derived.Sort.AtCall
import Derived.Maps.AppendAt
namespace Go.Proofs.YtdfepdhflnnjpaaGreat
open Go.RowKit
set_option autoImplicit false
set_option maxHeartbeats 1000000
set_option linter.unusedVariables false


/-- A number and the code 0. -/
def RetIE (w : World) (x : Int) (L : Nat) (e : Ending) (w' : World) : Prop :=
  ∃ neg ao n cap zs, e = .returned (.tuple #[.agg #[.bool neg, .slice ao n cap], .int .i64 0]) ∧ IntAt w' neg ao n cap zs x ∧ n ≤ L ∧ Below w.heap.size w w'


/-- x, and of a number below 0 -1 - x. -/
def cpl (x : Int) : Int := if x < 0 then -1 - x else x

theorem complement_any (w : World) (nx : Bool) (ao : Option Addr) (n cap : Nat) (xs : List Int) (x : Int) (hx : IntAt w nx ao n cap xs x) (hn : n ≤ 34359738368) :
    Calls Tryz.prog 157 #[.agg #[.bool nx, .slice ao n cap]] w (RetNat w (cpl x) n) := by
  have hv0 := val_nonneg hx.lim
  cases nx with
  | false =>
    have hc : cpl x = val xs := by unfold cpl; rw [hx.val]; simp [sgn]; omega
    have HC := Lib.hid hc
    have HK : Hid (∀ w1, Below w.heap.size w w1 → _) := Lib.hid (fun w1 hb => clone_any w1 ao n cap xs (hx.sl.below hb) hn)
    have HL := Lib.hid hx.lim
    have HT := Lib.hid hx.top
    clear hx hc hv0
    go_enter Tryz.func157, Tryz.ntmps157
    go_wp2_with fail
    refine (HK.out _ (by go_grown)).mono ?_
    rintro e w1 ⟨a1, c1, rfl, hown, hb1⟩
    have HO := Lib.hid hown
    have hb2 : Below w.heap.size w w1 := Below.trans (by go_grown) (hb1.mono (by go_size))
    clear hown hb1
    go_wp2_with fail
    go_ret
    exact ⟨a1, n, c1, xs, rfl, Own.mono HO.out (by go_size), HL.out, HT.out, HC.out.symm, Nat.le_refl _, hb2⟩
  | true =>
    have hne := hx.sign rfl
    have hpos := val_pos_of_top hx.lim hx.top hne
    have hp := pow_pos (xs.length - 1)
    have hlen := hx.sl.len
    have hn1 : 1 ≤ n := by
      rcases xs with _ | ⟨z, zs⟩
      · exact absurd rfl hne
      · simp at hlen; omega
    have hc : cpl x = val xs - 1 := by unfold cpl; rw [hx.val]; simp [sgn]; omega
    have HC := Lib.hid hc
    have HX := Lib.hid hx.sl
    have HL := Lib.hid hx.lim
    have hge : 1 ≤ val xs := by omega
    clear hx hne hpos hp hlen hc hv0
    go_enter Tryz.func157, Tryz.ntmps157
    go_wp2_with fail
    have hone : Sl ((w.alloc (.cells #[.bool true, .slice ao n cap] 31)).alloc (.cells #[.int .u32 1] 138)) (some ⟨w.heap.size + 1, 0, none⟩) 1 1 [1] := by
      refine ⟨rfl, Nat.le_refl _, by unfold maxLen; omega, fun h => by simp at h, .inr ⟨_, _, rfl, ?_⟩⟩
      intro i hi
      obtain rfl : i = 0 := by simp at hi; omega
      exact cell_of_row _ (w.heap.size + 1) 0 _ 138 (0, 0) (heap_alloc2 w _ _).1
    refine (difference_any _ _ _ n 1 cap 1 xs [1] (HX.out.below (by go_grown)) hone HL.out (by intro z hz; simp at hz; omega) hn hn1 (by simpa [val] using hge)).mono ?_
    rintro e w1 ⟨a1, k1, c1, z1, rfl, hown, hl1, ht1, hv1, hk1, hb1⟩
    have HO := Lib.hid hown
    have HV := Lib.hid hv1
    have hb2 : Below w.heap.size w w1 := Below.trans (by go_grown) (hb1.mono (by go_size))
    clear hown hb1 hv1 hone
    go_wp2_with fail
    go_ret
    exact ⟨a1, k1, c1, z1, rfl, Own.mono HO.out (by go_size), hl1, ht1, by rw [HV.out, HC.out]; simp [val], hk1, hb2⟩

set_option maxRecDepth 100000 in
theorem bitlen_any (w : World) (ao : Option Addr) (n cap : Nat) (zs : List Int) (h : Sl w ao n cap zs) (lz : Lim zs) (tz : Top zs) (hn : n ≤ 34359738368) :
    Calls Tryz.prog 128 #[.slice ao n cap] w (RetQ w (.int .i64 (blen (val zs).toNat : Int))) := by
  have hlen := h.len
  by_cases h0 : n = 0
  · have hz : zs = [] := List.eq_nil_of_length_eq_zero (by omega)
    have hv : (blen (val zs).toNat : Int) = 0 := by rw [hz]; rfl
    rw [hv]
    subst h0
    clear hlen hv h
    go_enter Tryz.func128, Tryz.ntmps128
    go_wp2_with fail
    go_ret
    exact ⟨rfl, 0, rfl⟩
  · have hne : zs ≠ [] := by intro hh; rw [hh] at hlen; simp at hlen; omega
    have hb := blen_val lz tz hne
    rw [hlen] at hb
    obtain ⟨b, o, rfl, hc⟩ := h.cells.at (k := n - 1) (by omega)
    have hd := Lim_getD lz (n - 1)
    obtain ⟨t, ht⟩ : ∃ t : Nat, zs.getD (n - 1) 0 = t := ⟨(zs.getD (n - 1) 0).toNat, by omega⟩
    rw [ht] at hb hc hd
    rw [Int.toNat_natCast] at hb
    rw [hb]
    have hcap := h.le
    have hmx : cap ≤ 9223372036854775807 := by have := h.most; unfold maxLen at this; omega
    obtain ⟨k, rfl⟩ : ∃ k, n = k + 1 := ⟨n - 1, by omega⟩
    simp only [Nat.add_sub_cancel] at hc
    have HL := Lib.hid (len32_any w t (by omega))
    have hbt : blen t ≤ 32 := by
      unfold blen
      split
      · omega
      · have := (Nat.log2_lt (n := t) (k := 32) (by omega)).2 (by omega)
        omega
    have hne0 : (((k + 1 : Nat) : Int) == 0) = false := by simp; omega
    clear hlen hne hb hd ht h
    go_enter Tryz.func128, Tryz.ntmps128
    go_wp2_with fail
    refine HL.out.mono ?_
    rintro e w1 ⟨rfl, rfl⟩
    go_wp2_with fail
    go_ret
    refine ⟨congrArg (fun x => Ending.returned (.int .i64 x)) ?_, 0, rfl⟩
    omega

theorem length_any (w : World) (nx : Bool) (ao : Option Addr) (n cap : Nat) (xs : List Int) (x : Int) (hx : IntAt w nx ao n cap xs x) (hn : n ≤ 34359738368) :
    Calls Tryz.prog 131 #[.agg #[.bool nx, .slice ao n cap]] w (RetV w (.int .i64 (blen (cpl x).toNat : Int))) := by
  have HX := Lib.hid hx
  clear hx
  go_enter Tryz.func131, Tryz.ntmps131
  go_wp2_with fail
  refine (complement_any _ nx ao n cap xs x (HX.out.below (by go_grown)) hn).mono ?_
  rintro e w1 ⟨a1, k1, c1, z1, rfl, hown, hl1, ht1, hv1, hk1, hb1⟩
  have HO := Lib.hid hown.sl
  have HV := Lib.hid hv1
  have hb2 : Below w.heap.size w w1 := Below.trans (by go_grown) (hb1.mono (by go_size))
  clear hown hb1 hv1
  go_wp2_with fail
  refine (bitlen_any w1 a1 k1 c1 z1 HO.out hl1 ht1 (by omega)).mono ?_
  rintro e w2 ⟨rfl, q, rfl⟩
  go_wp2_with fail
  go_ret
  exact ⟨congrArg (fun x => Ending.returned (.int .i64 (blen (Int.toNat x) : Int))) HV.out, below_drewN hb2 q⟩


set_option maxRecDepth 100000 in
theorem len64_a (w : World) (d : Nat) (y z : Nat) (e1 : ((d : Int) / 65536) = y) (h1' : (65536 : Int) ≤ d) (h2' : (256 : Int) ≤ y) (e2 : ((y : Int) / 256) = z) (hz : z < 256) (b : blen d = blen z + 24) (hd32 : d < 4294967296) : Calls Tryz.prog 170 #[.int .u64 (d : Int)] w fun e w' => e = .returned (.int .i64 (blen d : Int)) ∧ w = w' := by
  have hs := blen_small hz
  have h00 : ¬ (4294967296 : Int) ≤ d := by omega
  have hidx := lit_all ⟨z, hz⟩
  unfold lenLit at hidx
  simp only at hidx
  have hz0 : (0 : Int) ≤ z ∧ (z : Int) < 256 := by omega
  have hb : 24 + (blen z : Int) = (blen d : Int) := by omega
  have HB := Lib.hid hb
  clear hb b
  go_enter Tryz.func170, Tryz.ntmps170
  go_wp2_with fail
  clear hidx
  go_ret
  exact ⟨congrArg (fun x => Ending.returned (.int .i64 x)) HB.out, rfl⟩

set_option maxRecDepth 100000 in
theorem len64_b (w : World) (d : Nat) (z : Nat) (e1 : ((d : Int) / 65536) = z) (h1' : (65536 : Int) ≤ d) (hz : z < 256) (b : blen d = blen z + 16) (hd32 : d < 4294967296) : Calls Tryz.prog 170 #[.int .u64 (d : Int)] w fun e w' => e = .returned (.int .i64 (blen d : Int)) ∧ w = w' := by
  have hs := blen_small hz
  have h00 : ¬ (4294967296 : Int) ≤ d := by omega
  have h2' : ¬ (256 : Int) ≤ z := by omega
  have hidx := lit_all ⟨z, hz⟩
  unfold lenLit at hidx
  simp only at hidx
  have hz0 : (0 : Int) ≤ z ∧ (z : Int) < 256 := by omega
  have hb : 16 + (blen z : Int) = (blen d : Int) := by omega
  have HB := Lib.hid hb
  clear hb b
  go_enter Tryz.func170, Tryz.ntmps170
  go_wp2_with fail
  clear hidx
  go_ret
  exact ⟨congrArg (fun x => Ending.returned (.int .i64 x)) HB.out, rfl⟩

set_option maxRecDepth 100000 in
theorem len64_c (w : World) (d : Nat) (z : Nat) (h1' : ¬ (65536 : Int) ≤ d) (h2' : (256 : Int) ≤ d) (e2 : ((d : Int) / 256) = z) (hz : z < 256) (b : blen d = blen z + 8) (hd32 : d < 4294967296) : Calls Tryz.prog 170 #[.int .u64 (d : Int)] w fun e w' => e = .returned (.int .i64 (blen d : Int)) ∧ w = w' := by
  have hs := blen_small hz
  have h00 : ¬ (4294967296 : Int) ≤ d := by omega
  have hidx := lit_all ⟨z, hz⟩
  unfold lenLit at hidx
  simp only at hidx
  have hz0 : (0 : Int) ≤ z ∧ (z : Int) < 256 := by omega
  have hb : 8 + (blen z : Int) = (blen d : Int) := by omega
  have HB := Lib.hid hb
  clear hb b
  go_enter Tryz.func170, Tryz.ntmps170
  go_wp2_with fail
  clear hidx
  go_ret
  exact ⟨congrArg (fun x => Ending.returned (.int .i64 x)) HB.out, rfl⟩

set_option maxRecDepth 100000 in
theorem len64_d (w : World) (d : Nat) (hz : d < 256) : Calls Tryz.prog 170 #[.int .u64 (d : Int)] w fun e w' => e = .returned (.int .i64 (blen d : Int)) ∧ w = w' := by
  have hs := blen_small hz
  have h00 : ¬ (4294967296 : Int) ≤ d := by omega
  have h1' : ¬ (65536 : Int) ≤ d := by omega
  have h2' : ¬ (256 : Int) ≤ d := by omega
  have hidx := lit_all ⟨d, hz⟩
  unfold lenLit at hidx
  simp only at hidx
  have hz0 : (0 : Int) ≤ d ∧ (d : Int) < 256 := by omega
  go_enter Tryz.func170, Tryz.ntmps170
  go_wp2_with fail
  clear hidx
  go_ret
  exact ⟨rfl, rfl⟩

theorem len64_any (w : World) (d : Nat) (h : d < 4294967296) : Calls Tryz.prog 170 #[.int .u64 (d : Int)] w fun e w' => e = .returned (.int .i64 (blen d : Int)) ∧ w = w' := by
  by_cases h1 : 65536 ≤ d
  · have b1 := blen_div d 16 h1
    rw [show 2 ^ 16 = 65536 from rfl] at b1
    by_cases h2 : 256 ≤ d / 65536
    · have b2 := blen_div (d / 65536) 8 h2
      rw [show 2 ^ 8 = 256 from rfl] at b2
      exact len64_a w d (d / 65536) (d / 65536 / 256) (by omega) (by omega) (by omega) (by omega) (by omega) (by omega) h
    · exact len64_b w d (d / 65536) (by omega) (by omega) (by omega) b1 h
  · by_cases h2 : 256 ≤ d
    · have b2 := blen_div d 8 h2
      rw [show 2 ^ 8 = 256 from rfl] at b2
      exact len64_c w d (d / 256) (by omega) (by omega) (by omega) (by omega) b2 h
    · exact len64_d w d (by omega)

theorem len_any (w : World) (d : Nat) (h : d < 4294967296) : Calls Tryz.prog 156 #[.int .u64 (d : Int)] w fun e w' => e = .returned (.int .i64 (blen d : Int)) ∧ w = w' := by
  have HL := Lib.hid (len64_any w d h)
  go_enter Tryz.func156, Tryz.ntmps156
  go_wp2_with fail
  refine HL.out.mono ?_
  rintro e w1 ⟨rfl, rfl⟩
  go_wp2_with fail
  go_ret
  exact ⟨rfl, rfl⟩

theorem shr_half (n i : Nat) : n >>> i = 2 * (n >>> (i + 1)) + (n >>> i) % 2 := by
  rw [Nat.shiftRight_succ]; omega

theorem len_of_val {zs : List Int} (lz : Lim zs) (tz : Top zs) {k : Nat} (h : val zs < 4294967296 ^ k) : zs.length ≤ k := by
  by_cases hne : zs = []
  · subst hne; simp
  · have h1 := val_pos_of_top lz tz hne
    have h2 : ¬ k ≤ zs.length - 1 := fun hc => by have := pow_le hc; omega
    have : 0 < zs.length := List.length_pos_iff.2 hne
    omega

theorem pow_mono {a : Int} (h : 1 ≤ a) {m n : Nat} (hmn : m ≤ n) : a ^ m ≤ a ^ n := by
  obtain ⟨k, rfl⟩ := Nat.exists_eq_add_of_le hmn
  rw [Int.pow_add]
  have h1 : 0 < a ^ m := Int.pow_pos (by omega)
  have h2 : 0 < a ^ k := Int.pow_pos (by omega)
  have : a ^ m * 1 ≤ a ^ m * a ^ k := Int.mul_le_mul_of_nonneg_left (by omega) (by omega)
  omega

theorem pow_double (a : Int) (m : Nat) : a ^ m * a ^ m = a ^ (2 * m) := by rw [← Int.pow_add]; congr 1; omega

theorem i64_and_nat (a b : Nat) (ha : a < 9223372036854775808) (hb : b < 9223372036854775808) : bits .and .i64 (a : Int) (b : Int) = ((a &&& b : Nat) : Int) := by
  have hx : a &&& b < 2 ^ 63 := Nat.and_lt_two_pow _ (by omega)
  show IntKind.i64.wrap ((BitVec.ofInt 64 (a : Int) &&& BitVec.ofInt 64 (b : Int)).toNat : Int) = _
  rw [BitVec.toNat_and, ofInt_u64 a (by omega), ofInt_u64 b (by omega), IntKind.wrap_i64]
  omega

set_option maxRecDepth 100000 in
theorem raise_any (w : World) (ao : Option Addr) (n capa : Nat) (xs : List Int) (k K : Nat) (hx : Sl w ao n capa xs) (lx : Lim xs) (hA : 1 ≤ val xs) (hn : n ≤ 1048576) (hk : k ≤ 65536) (hK : K ≤ 1048576) (hval : val xs ^ k < 4294967296 ^ K) :
    Calls Tryz.prog 130 #[.slice ao n capa, .int .i64 (k : Int)] w (RetNat w (val xs ^ k) (K + 1)) := by
  have HX := Lib.hid hx
  have HVAL := Lib.hid hval
  obtain ⟨A, hAA⟩ : ∃ A, val xs = A := ⟨_, rfl⟩
  have HA := Lib.hid hAA
  rw [hAA] at hA ⊢
  have HL := Lib.hid (fun w' => len_any w' k (by omega))
  obtain ⟨B, hB⟩ : ∃ B, blen k = B := ⟨_, rfl⟩
  rw [hB] at HL
  have hB1 : B ≤ 17 := by rw [← hB, blen_le_iff]; omega
  have hk2 : k < 2 ^ B := by rw [← hB]; exact blen_lt k
  have HK2 := Lib.hid hk2
  have hown0 : Own w.heap.size (w.alloc (.cells #[.int .u32 1] 138)) (some ⟨w.heap.size, 0, none⟩) 1 1 [1] := by
    have := World.ownsRow_lit (base := w.heap.size) (e := 138) (size := 1) w #[.int .u32 1] 1 (Nat.le_refl _) (by unfold maxLen; omega) rfl
    exact this
  have HO := Lib.hid hown0
  clear hx hAA hB hk2 hown0 hval
  go_enter Tryz.func130, Tryz.ntmps130
  go_wp2_with fail
  refine (HL.out _).mono ?_
  rintro e w1 ⟨rfl, rfl⟩
  go_wp2_with fail
  go_loopw [5, 6] (fun r i wr => ∃ (j : Nat) (ro : Option Addr) (m c : Nat) (zs : List Int), j ≤ B ∧ i = .int .i64 ((j : Int) - 1) ∧ r = .slice ro m c ∧ Own w.heap.size wr ro m c zs ∧ Lim zs ∧ Top zs ∧ val zs = A ^ (k >>> j) ∧ m ≤ K + 1 ∧ Below w.heap.size w wr)
    (fun _ i _ => (intOf i + 1).toNat)
  case atStart => exact ⟨B, some ⟨w.heap.size, 0, none⟩, 1, 1, [1], Nat.le_refl _, rfl, rfl, HO.out, by intro z hz; simp at hz; omega, .inr (by simp), by rw [Nat.shiftRight_eq_div_pow, Nat.div_eq_of_lt HK2.out]; simp [val], by omega, by go_grown⟩
  case round =>
    obtain ⟨j, ro, m, c, zs, hj, rfl, rfl, hown, hlim, htop, hval, hm, hbel⟩ := hrel
    have HOW := Lib.hid hown
    have HT := Lib.hid htop
    have HV := Lib.hid hval
    have HB := Lib.hid hbel
    clear hown htop hval
    by_cases hj0 : j = 0
    · subst hj0
      go_wp2_with fail
      go_ret
      exact ⟨ro, m, c, zs, rfl, HOW.out, hlim, HT.out, by rw [HV.out, Nat.shiftRight_zero], hm, HB.out⟩
    · obtain ⟨i, rfl⟩ : ∃ i, j = i + 1 := ⟨j - 1, by omega⟩
      have hji : (0 : Int) ≤ ((i + 1 : Nat) : Int) - 1 := by omega
      have hj1 : ((i + 1 : Nat) : Int) - 1 = (i : Int) := by omega
      rw [hj1]
      have hi0 : (0 : Int) ≤ (i : Int) := by omega
      have hhalf := shr_half k i
      have hle : k >>> i ≤ k := by rw [Nat.shiftRight_eq_div_pow]; exact Nat.div_le_self _ _
      have hbit := Lib.hid hhalf
      go_wp2_with fail
      refine (product_any _ ro ro m m c c zs zs HOW.out.sl HOW.out.sl hlim hlim (by omega) (by omega)).mono ?_
      rintro e w2 ⟨a2, m2, c2, z2, rfl, hown2, hl2, ht2, hv2, hm2, hb2⟩
      have HO2 := Lib.hid (hown2.mono (B' := w.heap.size) HB.out.size)
      have HV2 := Lib.hid hv2
      have HB2 := Lib.hid (HB.out.trans (hb2.mono HB.out.size))
      have hand : bits BinOp.and IntKind.i64 ((k : Int) / 2 ^ i) 1 = ((k >>> i % 2 : Nat) : Int) := by
        have e1 : (k : Int) / 2 ^ i = ((k >>> i : Nat) : Int) := by rw [Nat.shiftRight_eq_div_pow]; simp
        rw [e1]
        have := i64_and_nat (k >>> i) 1 (by omega) (by omega)
        rw [Nat.and_one_is_mod] at this
        exact this
      have hm2' : m2 ≤ K + 1 := by
        have hl := len_of_val hl2 ht2 (k := K) (by
          refine Int.lt_of_le_of_lt ?_ HVAL.out
          rw [hv2, HV.out, pow_double, HA.out]
          exact pow_mono hA (by omega))
        have := HO2.out.sl.len
        omega
      clear hown2 hv2 hb2
      rcases Nat.mod_two_eq_zero_or_one (k >>> i) with hb | hb
      · rw [hb] at hand
        clear hhalf
        go_wp2_with fail
        go_roundw
        case rel =>
          refine ⟨i, a2, m2, c2, z2, by omega, rfl, rfl, HO2.out, hl2, ht2, ?_, hm2', HB2.out⟩
          rw [HV2.out, HV.out, pow_double]
          congr 1
          have := hbit.out
          omega
        case measure => simp [intOf]
      · rw [hb] at hand
        clear hhalf
        go_wp2_with fail
        refine (product_any _ a2 ao m2 n c2 capa z2 xs HO2.out.sl (HX.out.below HB2.out) hl2 lx (by omega) (by omega)).mono ?_
        rintro e w3 ⟨a3, m3, c3, z3, rfl, hown3, hl3, ht3, hv3, hm3, hb3⟩
        have HO3 := Lib.hid (hown3.mono (B' := w.heap.size) HB2.out.size)
        have HV3 := Lib.hid hv3
        have HB3 := Lib.hid (HB2.out.trans (hb3.mono HB2.out.size))
        have hv4 : val z3 = A ^ (k >>> i) := by
          rw [HV3.out, HV2.out, HV.out, pow_double, HA.out, ← Int.pow_succ]
          congr 1
          have := hbit.out
          omega
        have hm3' : m3 ≤ K + 1 := by
          have hl := len_of_val hl3 ht3 (k := K) (by
            refine Int.lt_of_le_of_lt ?_ HVAL.out
            rw [hv4, HA.out]
            exact pow_mono hA hle)
          have := HO3.out.sl.len
          omega
        have HV4 := Lib.hid hv4
        clear hown3 hv3 hb3 hv4
        go_wp2_with fail
        go_roundw
        case rel => exact ⟨i, a3, m3, c3, z3, by omega, rfl, rfl, HO3.out, hl3, ht3, HV4.out, hm3', HB3.out⟩
        case measure => simp [intOf]

theorem pow_big {M size k A : Nat} {y : Int} (hA : 2 ^ (size - 1) ≤ A) (h : M < (size - 1) * k) (hy : y.natAbs = A ^ k) : M < blen (cpl y).toNat := by
  rw [← Nat.not_le, blen_le_iff, Nat.not_lt]
  have h1 : 2 ^ ((size - 1) * k) ≤ A ^ k := by rw [Nat.pow_mul]; exact Nat.pow_le_pow_left hA k
  have h2 : 2 ^ (M + 1) ≤ 2 ^ ((size - 1) * k) := Nat.pow_le_pow_right (by omega) h
  have h3 : 2 ^ M * 2 = 2 ^ (M + 1) := (Nat.pow_succ ..).symm
  have h4 : 1 ≤ 2 ^ M := Nat.one_le_two_pow
  unfold cpl
  split <;> omega

theorem pow_bound {K size k A : Nat} (hA : A < 2 ^ size) (h : size * k ≤ 32 * K) : ((A : Int)) ^ k < 4294967296 ^ (K + 1) := by
  have h1 : A ^ k ≤ (2 ^ size) ^ k := Nat.pow_le_pow_left (Nat.le_of_lt hA) k
  rw [← Nat.pow_mul] at h1
  have h2 : 2 ^ (size * k) ≤ 2 ^ (32 * K) := Nat.pow_le_pow_right (by omega) h
  have h3 : (4294967296 : Int) ^ K = ((2 ^ (32 * K) : Nat) : Int) := by rw [base_pow]; simp
  have h4 : (1 : Int) ≤ 4294967296 ^ K := by have := pow_pos K; omega
  rw [Int.pow_succ, h3]
  rw [h3] at h4
  have h5 : ((A ^ k : Nat) : Int) ≤ ((2 ^ (32 * K) : Nat) : Int) := by exact_mod_cast Nat.le_trans h1 h2
  have h6 : ((A ^ k : Nat) : Int) = (A : Int) ^ k := by simp
  omega

theorem sgn_pow (neg : Bool) (v : Int) (k : Nat) : sgn neg v ^ k = sgn (neg && decide (k % 2 = 1)) (v ^ k) := by
  cases neg with
  | false => simp [sgn]
  | true =>
    simp only [sgn, if_true, Bool.true_and]
    have h2 : (-v) ^ 2 = v ^ 2 := by rw [Int.pow_succ, Int.pow_succ, Int.pow_succ, Int.pow_succ, Int.pow_zero, Int.pow_zero, Int.one_mul, Int.one_mul, Int.neg_mul_neg]
    have h3 : ∀ j, (-v) ^ (2 * j) = v ^ (2 * j) := fun j => by rw [Int.pow_mul, h2, ← Int.pow_mul]
    rcases Nat.mod_two_eq_zero_or_one k with h | h
    · rw [h]
      obtain ⟨j, hj⟩ : ∃ j, k = 2 * j := ⟨k / 2, by omega⟩
      subst hj
      rw [h3]; simp
    · rw [h]
      obtain ⟨j, hj⟩ : ∃ j, k = 2 * j + 1 := ⟨k / 2, by omega⟩
      subst hj
      rw [Int.pow_succ, h3, Int.pow_succ]; simp [Int.mul_neg]

theorem natAbs_pow' (x : Int) (k : Nat) : (x ^ k).natAbs = x.natAbs ^ k := Int.natAbs_pow x k

theorem small_pow {v : Int} (h0 : 0 ≤ v) (h1 : v ≤ 1) {k : Nat} (hk : k ≠ 0) : v ^ k = v := by
  rcases (show v = 0 ∨ v = 1 by omega) with rfl | rfl
  · exact Int.zero_pow hk
  · exact Int.one_pow

theorem smallPower_any (w : World) (nx : Bool) (ao : Option Addr) (n cap : Nat) (xs : List Int) (x : Int) (k : Nat) (hx : IntAt w nx ao n cap xs x) (hn : n ≤ 34359738368) (hv : val xs ≤ 1) (hk : k ≤ 9223372036854775807) :
    Calls Tryz.prog 129 #[.agg #[.bool nx, .slice ao n cap], .int .i64 (k : Int)] w (RetInt w (x ^ k) (n + 2)) := by
  have HX := Lib.hid hx
  have hv0 := val_nonneg hx.lim
  have hxv := hx.val
  by_cases hk0 : k = 0
  · subst hk0
    have HV : Hid (x ^ 0 = 1) := Lib.hid (Int.pow_zero x)
    clear hx hxv hv hv0
    go_enter Tryz.func129, Tryz.ntmps129
    go_wp2_with fail
    refine (new_int _ 1 (by omega) (by omega)).mono ?_
    rintro e w2 ⟨neg', ao', n', cap', zs', rfl, hint, hn', hb1⟩
    have hr2 : w2.heap[w.heap.size + 1]? = some (.cells #[.bool false, .slice none 0 0] 31 (0, 0)) := (hb1.block _ (by simp)).trans (heap_alloc2 _ _ _).1
    obtain ⟨c0, c1, f0, f1⟩ := blk2 hr2
    have HI := Lib.hid (hint.stored hr2 (.bool neg') (.slice ao' n' cap'))
    have hb4 : Below w.heap.size w w2 := Below.trans (by go_grown) (hb1.mono (by go_size))
    clear hint hr2
    go_wp2
    refine bodyPost_ret (v := .agg #[.bool neg', .slice ao' n' cap']) (by simp [results, Tryz.results129, go_sem, c0, c1]) rfl ?_
    exact fin_int (by omega) hb4 HI.out HV.out.symm (by omega)
  · have hpow : x ^ k = sgn (nx && decide (k % 2 = 1)) (val xs) := by rw [hxv, sgn_pow, small_pow hv0 hv hk0]
    have HP := Lib.hid hpow
    have hne : ((k : Int) == 0) = false := by simp; omega
    have hlim := hx.lim
    clear hx hxv hv hv0 hpow
    have hbk : decide (k % 2 = 1) = ((k : Int) % 2 == 1) := by
      rw [Bool.eq_iff_iff]
      simp
      omega
    rw [hbk] at HP
    have HC : Hid (∀ w1, Below w.heap.size w w1 → _) := fun w1 hb => clone_any w1 ao n cap xs (HX.out.sl.below hb) hn
    clear hbk
    cases nx
    all_goals
      go_enter Tryz.func129, Tryz.ntmps129
      go_wp2_with fail
      refine (HC.out _ (by go_grown)).mono ?_
      rintro e w1 ⟨ao1, cap1, rfl, hown, hb1⟩
      have hr1 : w1.heap[w.heap.size + 1]? = some (.cells #[.bool false, .slice none 0 0] 31 (0, 0)) := (hb1.block _ (by simp)).trans (heap_alloc2 _ _ _).1
      have hz1 : w.heap.size + 1 + 1 ≤ w1.heap.size := Nat.le_trans (by go_size) hb1.size
      have hb2 : Below w.heap.size w w1 := Below.trans (by go_grown) (hb1.mono (by go_size))
      have HS := Lib.hid hown.sl
      clear hown hb1
      go_wp2_with fail
      refine (wrap_int _ _ _ _ _ _ HS.out hlim rfl).mono ?_
      rintro e w2 ⟨neg', ao', n', cap', zs', rfl, hint, hn', hb3⟩
      have hr2 := (hb3.block _ (by omega)).trans hr1
      obtain ⟨c0, c1, f0, f1⟩ := blk2 hr2
      have HI := Lib.hid (hint.stored hr2 (.bool neg') (.slice ao' n' cap'))
      have hb4 : Below w.heap.size w w2 := hb2.trans (hb3.mono hb2.size)
      clear hint hr2 hr1 hb3 hb2
      go_wp2
      refine bodyPost_ret (v := .agg #[.bool neg', .slice ao' n' cap']) (by simp [results, Tryz.results129, go_sem, c0, c1]) rfl ?_
      exact fin_int (by omega) hb4 HI.out (by rw [HP.out]; simp) (by omega)

theorem blen_one {v M : Nat} (hv : v ≤ 1) (hM : 1 ≤ M) : blen v ≤ M := by
  rw [blen_le_iff]
  have : (2 : Nat) ^ 1 ≤ 2 ^ M := Nat.pow_le_pow_right (by omega) hM
  omega

theorem blen_lt2 {v : Nat} : blen v < 2 ↔ v ≤ 1 := by
  have := @blen_le_iff v 1
  constructor
  · intro h; have := this.1 (by omega); omega
  · intro h; have := this.2 (by omega); omega

theorem len_of_blen {zs : List Int} (lz : Lim zs) (tz : Top zs) : blen (val zs).toNat ≤ 32 * zs.length := by
  rw [blen_le_iff]
  have h1 := val_lt lz
  have h0 := val_nonneg lz
  rw [base_pow] at h1
  have h2 : ((2 : Int) ^ (32 * zs.length)) = ((2 ^ (32 * zs.length) : Nat) : Int) := by simp
  rw [h2] at h1
  omega

/-- An error code was returned, with the zero number. -/
def RetZero (w : World) (c : Int) (e : Ending) (w' : World) : Prop :=
  e = .returned (.tuple #[.agg #[.bool false, .slice none 0 0], .int .i64 c]) ∧ Below w.heap.size w w'

theorem power_small (w : World) (nx : Bool) (ao : Option Addr) (n cap : Nat) (xs : List Int) (x : Int) (k : Nat) (hx : IntAt w nx ao n cap xs x) (hn : n ≤ 34359738368) (hv : val xs ≤ 1) (hk : k ≤ 9223372036854775807) :
    Calls Tryz.prog 91 #[.agg #[.bool nx, .slice ao n cap], .int .i64 (k : Int)] w (RetIE w (x ^ k) (n + 2)) := by
  have h0 := val_nonneg hx.lim
  obtain ⟨s, hs⟩ : ∃ s, blen (val xs).toNat = s := ⟨_, rfl⟩
  have hs2 : s < 2 := by rw [← hs, blen_lt2]; omega
  have HB : Hid (∀ w', Below w.heap.size w w' → Calls Tryz.prog 128 #[.slice ao n cap] w' (RetQ w' (.int .i64 (s : Int)))) := Lib.hid (fun w' hb => by
    have := bitlen_any w' ao n cap xs (hx.sl.below hb) hx.lim hx.top hn
    rwa [hs] at this)
  have HP : Hid (∀ w1, Below w.heap.size w w1 → _) := fun w1 hb => smallPower_any w1 nx ao n cap xs x k (hx.below hb) hn hv hk
  clear hx hs h0
  go_enter Tryz.func91, Tryz.ntmps91
  go_wp2_with fail
  refine (HB.out _ (by go_grown)).mono ?_
  rintro e w1 ⟨rfl, q, rfl⟩
  go_wp2_with fail
  refine (HP.out _ (below_drewN (by go_grown) q)).mono ?_
  rintro e w2 ⟨neg', ao', n', cap', zs', rfl, hint, hn', hb1⟩
  have hr2 : w2.heap[w.heap.size + 1]? = some (.cells #[.bool false, .slice none 0 0] 31 (0, 0)) := (hb1.block _ (by go_size)).trans (heap_alloc2 _ _ _).1
  obtain ⟨c0, c1, f0, f1⟩ := blk2 hr2
  have HI := Lib.hid (hint.stored hr2 (.bool neg') (.slice ao' n' cap'))
  have hb4 : Below w.heap.size w w2 := Below.trans (below_drewN (by go_grown) q) (hb1.mono (by go_size))
  clear hint hr2
  go_wp2
  refine bodyPost_ret (v := .tuple #[.agg #[.bool neg', .slice ao' n' cap'], .int .i64 0]) (by simp [results, Tryz.results91, go_sem, c0, c1]) rfl ?_
  exact ⟨_, _, _, _, _, rfl, HI.out, hn', (hb4.setCell (p := ⟨w.heap.size + 1, 0, none⟩) (by dsimp only; omega) _).setCell (p := ⟨w.heap.size + 1, 1, none⟩) (by dsimp only; omega) _⟩

set_option maxRecDepth 100000 in
theorem power_far (w : World) (nx : Bool) (ao : Option Addr) (n cap : Nat) (xs : List Int) (x : Int) (k : Nat) (s : Nat) (hx : IntAt w nx ao n cap xs x) (hn : n ≤ 1048576) (hs : blen (val xs).toNat = s) (hs2 : 2 ≤ s) (hk : k ≤ 9223372036854775807) (hfar : 65536 < k ∨ 65536 < (s - 1) * k) :
    Calls Tryz.prog 91 #[.agg #[.bool nx, .slice ao n cap], .int .i64 (k : Int)] w (RetZero w 14) := by
  have hsb := len_of_blen hx.lim hx.top
  rw [hs, hx.sl.len] at hsb
  have HB : Hid (∀ w', Below w.heap.size w w' → Calls Tryz.prog 128 #[.slice ao n cap] w' (RetQ w' (.int .i64 (s : Int)))) := Lib.hid (fun w' hb => by
    have := bitlen_any w' ao n cap xs (hx.sl.below hb) hx.lim hx.top (by omega)
    rwa [hs] at this)
  clear hx hs
  obtain ⟨r, rfl⟩ : ∃ r, s = r + 1 := ⟨s - 1, by omega⟩
  simp only [Nat.add_sub_cancel] at hfar
  by_cases hk1 : 65536 < k
  · have hki : (65536 : Int) < k := by omega
    clear hfar
    go_enter Tryz.func91, Tryz.ntmps91
    go_wp2_with fail
    refine (HB.out _ (by go_grown)).mono ?_
    rintro e w1 ⟨rfl, q, rfl⟩
    go_wp2_with fail
    have hr2 := (heap_alloc2 w (.cells #[.bool nx, .slice ao n cap] 31) (.cells #[.bool false, .slice none 0 0] 31)).1
    obtain ⟨c0, c1, f0, f1⟩ := blk2 hr2
    refine bodyPost_ret (v := .tuple #[.agg #[.bool false, .slice none 0 0], .int .i64 14]) (by simp [results, Tryz.results91, go_sem, c0, c1]) rfl ?_
    exact ⟨rfl, ((below_drewN (by go_grown) q).setCell (p := ⟨w.heap.size + 1, 0, none⟩) (by dsimp only; omega) _).setCell (p := ⟨w.heap.size + 1, 1, none⟩) (by dsimp only; omega) _⟩
  · have hrk : 65536 < r * k := by rcases hfar with h | h; exact absurd h hk1; exact h
    have hki : ¬ (65536 : Int) < k := by omega
    have hub : r * k ≤ 33554432 * 65536 := Nat.mul_le_mul (by omega) (by omega)
    obtain ⟨t, ht⟩ : ∃ t : Nat, r * k = t := ⟨_, rfl⟩
    have hti : (r : Int) * (k : Int) = (t : Int) := by rw [← ht, Int.natCast_mul]
    rw [ht] at hrk hub
    have h1 : (65536 : Int) < (r : Int) * (k : Int) := by rw [hti]; omega
    have h2 : (r : Int) * (k : Int) ≤ 2199023255552 := by rw [hti]; omega
    clear hti ht
    have h3 : (0 : Int) ≤ (r : Int) * (k : Int) := by omega
    clear hfar hrk hub
    go_enter Tryz.func91, Tryz.ntmps91
    go_wp2_with fail
    refine (HB.out _ (by go_grown)).mono ?_
    rintro e w1 ⟨rfl, q, rfl⟩
    go_wp2_with fail
    have hr2 := (heap_alloc2 w (.cells #[.bool nx, .slice ao n cap] 31) (.cells #[.bool false, .slice none 0 0] 31)).1
    obtain ⟨c0, c1, f0, f1⟩ := blk2 hr2
    refine bodyPost_ret (v := .tuple #[.agg #[.bool false, .slice none 0 0], .int .i64 14]) (by simp [results, Tryz.results91, go_sem, c0, c1]) rfl ?_
    exact ⟨rfl, ((below_drewN (by go_grown) q).setCell (p := ⟨w.heap.size + 1, 0, none⟩) (by dsimp only; omega) _).setCell (p := ⟨w.heap.size + 1, 1, none⟩) (by dsimp only; omega) _⟩

/-- Where the product of the size and the exponent is in reach the power is reckoned: it is returned, or found too large. -/
def RetPow (w : World) (y : Int) (L : Nat) (e : Ending) (w' : World) : Prop :=
  (blen (cpl y).toNat ≤ 65536 ∧ RetIE w y L e w') ∨ (65536 < blen (cpl y).toNat ∧ RetZero w 14 e w')

set_option maxRecDepth 100000 in
theorem power_near (w : World) (nx : Bool) (ao : Option Addr) (n cap : Nat) (xs : List Int) (x : Int) (k : Nat) (s : Nat) (hx : IntAt w nx ao n cap xs x) (hn : n ≤ 1048576) (hs : blen (val xs).toNat = s) (hs2 : 2 ≤ s) (hk : k ≤ 65536) (hnear : (s - 1) * k ≤ 65536) :
    Calls Tryz.prog 91 #[.agg #[.bool nx, .slice ao n cap], .int .i64 (k : Int)] w (RetPow w (x ^ k) 4098) := by
  have hsb := len_of_blen hx.lim hx.top
  rw [hs, hx.sl.len] at hsb
  have HX := Lib.hid hx
  have HB : Hid (∀ w', Below w.heap.size w w' → Calls Tryz.prog 128 #[.slice ao n cap] w' (RetQ w' (.int .i64 (s : Int)))) := Lib.hid (fun w' hb => by
    have := bitlen_any w' ao n cap xs (hx.sl.below hb) hx.lim hx.top (by omega)
    rwa [hs] at this)
  have h0 := val_nonneg hx.lim
  have hA1 : 1 ≤ val xs := by
    rcases (show val xs ≤ 0 ∨ 1 ≤ val xs by omega) with h | h
    · have : (val xs).toNat = 0 := by omega
      rw [this] at hs
      simp [blen] at hs
      omega
    · exact h
  have hbound : val xs ^ k < 4294967296 ^ 4097 := by
    have h1 : (val xs).toNat < 2 ^ s := by rw [← hs]; exact blen_lt _
    have h2 : s * k ≤ 32 * 4096 := by
      have : s * k ≤ (2 * (s - 1)) * k := Nat.mul_le_mul_right _ (by omega)
      rw [Nat.mul_assoc] at this
      omega
    have := pow_bound (K := 4096) h1 h2
    rwa [show (((val xs).toNat : Nat) : Int) = val xs by omega] at this
  have HR : Hid (∀ w', Below w.heap.size w w' → Calls Tryz.prog 130 #[.slice ao n cap, .int .i64 (k : Int)] w' (RetNat w' (val xs ^ k) (4097 + 1))) := Lib.hid (fun w' hb =>
    raise_any w' ao n cap xs k 4097 (hx.sl.below hb) hx.lim hA1 hn hk (by omega) hbound)
  have hpow : x ^ k = sgn (nx && decide (k % 2 = 1)) (val xs ^ k) := by rw [hx.val, sgn_pow]
  have hbk : decide (k % 2 = 1) = ((k : Int) % 2 == 1) := by
    rw [Bool.eq_iff_iff]
    simp
    omega
  rw [hbk] at hpow
  obtain ⟨y, hy⟩ : ∃ y, x ^ k = y := ⟨_, rfl⟩
  rw [hy] at hpow ⊢
  have HP := Lib.hid hpow
  obtain ⟨r, rfl⟩ : ∃ r, s = r + 1 := ⟨s - 1, by omega⟩
  simp only [Nat.add_sub_cancel] at hnear
  have hki : ¬ (65536 : Int) < k := by omega
  have h1 : (r : Int) * (k : Int) ≤ 65536 := by
    rw [← Int.natCast_mul]
    obtain ⟨t, ht⟩ : ∃ t : Nat, r * k = t := ⟨_, rfl⟩
    rw [ht] at hnear ⊢
    omega
  have h3 : (0 : Int) ≤ (r : Int) * (k : Int) := Int.mul_nonneg (by omega) (by omega)
  have h4 : ¬ (65536 : Int) < (r : Int) * (k : Int) := by omega
  clear hx hs hnear hbound hpow hbk hA1 h0 hy
  cases nx
  all_goals
    go_enter Tryz.func91, Tryz.ntmps91
    go_wp2_with fail
    refine (HB.out _ (by go_grown)).mono ?_
    rintro e w1 ⟨rfl, q, rfl⟩
    go_wp2_with fail
    refine (HR.out _ (below_drewN (by go_grown) q)).mono ?_
    rintro e w2 ⟨a2, m2, c2, z2, rfl, hown2, hl2, ht2, hv2, hm2, hb2⟩
    have HS2 := Lib.hid hown2.sl
    have HV2 := Lib.hid hv2
    have hr2 : w2.heap[w.heap.size + 1]? = some (.cells #[.bool false, .slice none 0 0] 31 (0, 0)) := (hb2.block _ (by go_size)).trans (heap_alloc2 _ _ _).1
    have hz2 : w.heap.size + 1 + 1 ≤ w2.heap.size := Nat.le_trans (by go_size) hb2.size
    have hb4 : Below w.heap.size w w2 := Below.trans (below_drewN (by go_grown) q) (hb2.mono (by go_size))
    clear hown2 hv2 hb2
    go_wp2_with fail
    refine (wrap_int _ _ _ _ _ _ HS2.out hl2 rfl).mono ?_
    rintro e w3 ⟨neg', ao', n', cap', zs', rfl, hint, hn', hb3⟩
    have hint2 : IntAt w3 neg' ao' n' cap' zs' y := by
      have e1 : y = _ := HP.out.trans (by rw [← HV2.out])
      rw [e1]
      simpa using hint
    have HI := Lib.hid hint2
    have hr3 := (hb3.block _ (by omega)).trans hr2
    have hb5 : Below w.heap.size w w3 := hb4.trans (hb3.mono hb4.size)
    have hz3 : w.heap.size + 1 + 1 ≤ w3.heap.size := Nat.le_trans hz2 hb3.size
    clear hint hint2 hr2 hb4 hb3 hz2
    obtain ⟨L, hL⟩ : ∃ L, blen (cpl y).toNat = L := ⟨_, rfl⟩
    have HLEN : Hid (∀ w', Below w3.heap.size w3 w' → Calls Tryz.prog 131 #[.agg #[.bool neg', .slice ao' n' cap']] w' (RetV w' (.int .i64 (L : Int)))) := Lib.hid (fun w' hb => by
      have := length_any w' neg' ao' n' cap' zs' y (HI.out.below hb) (by omega)
      rwa [hL] at this)
    have HL := Lib.hid hL
    obtain ⟨c0, c1, f0, f1⟩ := blk2 hr3
    have hl3 : w.heap.size + 1 < w3.heap.size := by omega
    clear hL
    by_cases hbig : 65536 < L
    · have hbi : (65536 : Int) < (L : Int) := by omega
      go_wp2_with fail
      refine (HLEN.out _ (by go_grown)).mono ?_
      rintro e w4 ⟨rfl, hb6⟩
      have hr4 := (hb6.block (w.heap.size + 1) (by go_size)).trans ((((Below.refl w3.heap.size w3).alloc (Nat.le_refl _) (.cells #[.bool neg', .slice ao' n' cap'] 31)).block _ hl3).trans hr3)
      obtain ⟨d0, d1, g0, g1⟩ := blk2 hr4
      have hb7 : Below w.heap.size w w4 := hb5.trans ((Below.trans (by go_grown) (hb6.mono (by go_size)) : Below w3.heap.size w3 w4).mono hb5.size)
      clear hr4 hb6
      go_wp2_with fail
      refine bodyPost_ret (v := .tuple #[.agg #[.bool false, .slice none 0 0], .int .i64 14]) (by simp [results, Tryz.results91, go_sem, d0, d1]) rfl ?_
      exact .inr ⟨by rw [HL.out]; exact hbig, rfl, (hb7.setCell (p := ⟨w.heap.size + 1, 0, none⟩) (by dsimp only; omega) _).setCell (p := ⟨w.heap.size + 1, 1, none⟩) (by dsimp only; omega) _⟩
    · have hbi : ¬ (65536 : Int) < (L : Int) := by omega
      go_wp2_with fail
      refine (HLEN.out _ (by go_grown)).mono ?_
      rintro e w4 ⟨rfl, hb6⟩
      have hr4 := (hb6.block (w.heap.size + 1) (by go_size)).trans ((((Below.refl w3.heap.size w3).alloc (Nat.le_refl _) (.cells #[.bool neg', .slice ao' n' cap'] 31)).block _ hl3).trans hr3)
      have hr5 : w4.heap[w3.heap.size]? = some (.cells #[.bool neg', .slice ao' n' cap'] 31 (0, 0)) := (hb6.block _ (by go_size)).trans (heap_alloc_new w3 _)
      obtain ⟨d0, d1, g0, g1⟩ := blk2 hr4
      obtain ⟨e0, e1, -, -⟩ := blk2 hr5
      have hb8 : Below w3.heap.size w3 w4 := Below.trans (by go_grown) (hb6.mono (by go_size))
      have hb7 : Below w.heap.size w w4 := hb5.trans (hb8.mono hb5.size)
      have HI4 := Lib.hid ((HI.out.below hb8).stored hr4 (.bool neg') (.slice ao' n' cap'))
      clear hr4 hr5 hb6 hb8
      go_wp2_with fail
      refine bodyPost_ret (v := .tuple #[.agg #[.bool neg', .slice ao' n' cap'], .int .i64 0]) (by simp [results, Tryz.results91, go_sem, d0, d1]) rfl ?_
      exact .inl ⟨by rw [HL.out]; omega, _, _, _, _, _, rfl, HI4.out, by omega, (hb7.setCell (p := ⟨w.heap.size + 1, 0, none⟩) (by dsimp only; omega) _).setCell (p := ⟨w.heap.size + 1, 1, none⟩) (by dsimp only; omega) _⟩

/-- Power: the power, or ErrLarge where it has more than 65536 binary digits. -/
theorem power_any (w : World) (nx : Bool) (ao : Option Addr) (n cap : Nat) (xs : List Int) (x : Int) (k : Nat) (hx : IntAt w nx ao n cap xs x) (hn : n ≤ 1048576) (hk : k ≤ 9223372036854775807) :
    Calls Tryz.prog 91 #[.agg #[.bool nx, .slice ao n cap], .int .i64 (k : Int)] w (RetPow w (x ^ k) 1048578) := by
  have h0 := val_nonneg hx.lim
  have habs := hx.abs
  obtain ⟨s, hs⟩ : ∃ s, blen (val xs).toNat = s := ⟨_, rfl⟩
  by_cases hs2 : s < 2
  · have hv : val xs ≤ 1 := by rw [← hs, blen_lt2] at hs2; omega
    refine (power_small w nx ao n cap xs x k hx (by omega) hv hk).mono ?_
    rintro e w' ⟨neg', ao', n', cap', zs', he, hi, hn', hb⟩
    refine .inl ⟨?_, neg', ao', n', cap', zs', he, hi, by omega, hb⟩
    refine blen_one ?_ (by omega)
    have h1 : (x ^ k).natAbs ≤ 1 := by
      rw [natAbs_pow', habs]
      have h2 : (val xs).toNat ≤ 1 := by omega
      have := Nat.pow_le_pow_left h2 k
      rwa [Nat.one_pow] at this
    unfold cpl
    split <;> omega
  · by_cases hfar : 65536 < k ∨ 65536 < (s - 1) * k
    · refine (power_far w nx ao n cap xs x k s hx hn hs (by omega) hk hfar).mono ?_
      intro e w' h
      refine .inr ⟨?_, h⟩
      have hA : 2 ^ (s - 1) ≤ (val xs).toNat := by
        rw [← hs]
        refine blen_ge ?_
        intro hz
        rw [hz] at hs
        simp [blen] at hs
        omega
      refine pow_big (A := (val xs).toNat) (k := k) hA ?_ (by rw [natAbs_pow', habs])
      rcases hfar with h | h
      · have : 1 * k ≤ (s - 1) * k := Nat.mul_le_mul_right _ (by omega)
        omega
      · exact h
    · refine (power_near w nx ao n cap xs x k s hx hn hs (by omega) (by omega) (by omega)).mono ?_
      rintro e w' (⟨h, neg', ao', n', cap', zs', he, hi, hn', hb⟩ | h)
      · exact .inl ⟨h, neg', ao', n', cap', zs', he, hi, by omega, hb⟩
      · exact .inr h


/-- Newton's step keeps what lies above the root. -/
theorem root_step {X g : Nat} (hg : 0 < g) : X < ((g + X / g) / 2 + 1) * ((g + X / g) / 2 + 1) := by
  have h1 := Nat.div_add_mod X g
  have h2 := Nat.mod_lt X hg
  obtain ⟨q, hq⟩ : ∃ q, X / g = q := ⟨_, rfl⟩
  rw [hq] at h1 ⊢
  have h3 : X < g * (q + 1) := by rw [Nat.mul_add]; omega
  obtain ⟨n, hn⟩ : ∃ n, (g + q) / 2 = n := ⟨_, rfl⟩
  have h4 : g + q + 1 ≤ 2 * (n + 1) := by omega
  rw [hn]
  have h5 : (g + q + 1) * (g + q + 1) ≤ 2 * (n + 1) * (2 * (n + 1)) := Nat.mul_le_mul h4 h4
  have h6 : 4 * (g * (q + 1)) ≤ (g + q + 1) * (g + q + 1) := by
    rcases Nat.le_total g (q + 1) with h | h
    · obtain ⟨d, hd⟩ := Nat.exists_eq_add_of_le h
      rw [show g + q + 1 = g + (q + 1) by omega, hd]
      have : 0 ≤ d * d := Nat.zero_le _
      grind
    · obtain ⟨d, hd⟩ := Nat.exists_eq_add_of_le h
      rw [show g + q + 1 = g + (q + 1) by omega, hd]
      have : 0 ≤ d * d := Nat.zero_le _
      grind
  have h7 : 2 * (n + 1) * (2 * (n + 1)) = 4 * ((n + 1) * (n + 1)) := by grind
  omega

theorem root_end {X g : Nat} (hg : 0 < g) (h : g ≤ (g + X / g) / 2) : g * g ≤ X := by
  have h1 : g ≤ X / g := by omega
  exact Nat.le_trans (Nat.mul_le_mul_left g h1) (Nat.mul_div_le X g)

theorem root_start (X : Nat) : X < (2 ^ ((blen X + 1) / 2) + 1) * (2 ^ ((blen X + 1) / 2) + 1) := by
  have h1 := blen_lt X
  have h2 : 2 ^ blen X ≤ 2 ^ ((blen X + 1) / 2) * 2 ^ ((blen X + 1) / 2) := by
    rw [← Nat.pow_add]
    exact Nat.pow_le_pow_right (by omega) (by omega)
  have h3 : 2 ^ ((blen X + 1) / 2) * 2 ^ ((blen X + 1) / 2) ≤ (2 ^ ((blen X + 1) / 2) + 1) * (2 ^ ((blen X + 1) / 2) + 1) := Nat.mul_le_mul (by omega) (by omega)
  omega

/-- A root in limbs of the call's own was returned. -/
def RetRoot (w : World) (X : Nat) (L : Nat) (e : Ending) (w' : World) : Prop := ∃ g : Nat, g * g ≤ X ∧ X < (g + 1) * (g + 1) ∧ RetNat w g L e w'

set_option maxRecDepth 100000 in
set_option maxHeartbeats 1000000 in
theorem root_any (w : World) (ao : Option Addr) (n capa : Nat) (xs : List Int) (X : Nat) (hx : Sl w ao n capa xs) (lx : Lim xs) (tx : Top xs) (hX : val xs = X) (h0 : 0 < X) (hn : n ≤ 1048576) :
    Calls Tryz.prog 158 #[.slice ao n capa] w (RetRoot w X (n + 2)) := by
  obtain ⟨L, hL⟩ : ∃ L, blen X = L := ⟨_, rfl⟩
  have HBL : Hid (∀ w1, Below w.heap.size w w1 → Calls Tryz.prog 128 #[.slice ao n capa] w1 (RetQ w1 (.int .i64 (L : Int)))) := Lib.hid (fun w1 hb => by
    have := bitlen_any w1 ao n capa xs (hx.below hb) lx tx (by omega)
    rwa [hX, Int.toNat_natCast, hL] at this)
  have hLn : L ≤ 32 * n := by
    have := len_of_blen lx tx
    rwa [hX, Int.toNat_natCast, hL, hx.len] at this
  obtain ⟨s, hs⟩ : ∃ s, (L + 1) / 2 = s := ⟨_, rfl⟩
  have HX := Lib.hid hx
  have HXV := Lib.hid hX
  have hst : X < (2 ^ s + 1) * (2 ^ s + 1) := by rw [← hs, ← hL]; exact root_start X
  have HST := Lib.hid hst
  have hs2 : ((L : Int) + 1) / 2 = (s : Int) := by omega
  have hs3 : ((L : Int) + 1).tdiv 2 = (s : Int) := by rw [Int.tdiv_eq_ediv_of_nonneg (by omega)]; exact hs2
  have HL := Lib.hid hL
  have HS := Lib.hid hs
  have hLb : (L : Int) + 1 ≤ 9223372036854775807 := by omega
  clear hx hX hst hL hs
  have HSU : Hid (∀ w', w'.heap[w.heap.size]? = some (.cells #[.int .u32 1] 138 (0, 0)) → Calls Tryz.prog 171 #[.slice (some ⟨w.heap.size, 0, none⟩) 1 1, .int .i64 (s : Int)] w' (RetNat w' (2 ^ s) (1 + s / 32 + 1))) := Lib.hid (fun w' hw => by
    have hsl : Sl w' (some ⟨w.heap.size, 0, none⟩) 1 1 [1] := by
      refine ⟨rfl, Nat.le_refl _, by unfold maxLen; omega, by simp, .inr ⟨_, 0, rfl, fun i hi => ?_⟩⟩
      obtain rfl : i = 0 := by simp at hi; omega
      simp [World.cell?, hw]
    have := shiftUp_any w' _ 1 1 [1] (s / 32) (s % 32) hsl (by intro z hz; simp at hz; subst hz; omega) (by omega) (by omega) (Nat.mod_lt _ (by omega)) (by omega)
    rw [Nat.div_add_mod] at this
    simpa [val] using this)
  have hs32 : 1 + s / 32 + 1 ≤ n + 2 := by omega
  go_enter Tryz.func158, Tryz.ntmps158
  go_wp2_with fail
  refine (HBL.out _ (by go_grown)).mono ?_
  rintro e w' ⟨rfl, q, rfl⟩
  have hw : ((w.alloc (.cells #[.int .u32 1] 138 (0, 0))).drewN q).heap[w.heap.size]? = some (.cells #[.int .u32 1] 138 (0, 0)) := ((below_drewN (Below.refl (w.heap.size + 1) (w.alloc (.cells #[.int .u32 1] 138 (0, 0)))) q).block w.heap.size (by omega)).trans (heap_alloc_new w _)
  have HW := Lib.hid hw
  have hbA : Below w.heap.size w ((w.alloc (.cells #[.int .u32 1] 138 (0, 0))).drewN q) := below_drewN ((Below.refl _ _).alloc (Nat.le_refl _) _) q
  have HBA := Lib.hid hbA
  clear hw hbA
  go_wp2_with fail
  refine (HSU.out _ HW.out).mono ?_
  rintro e w1 ⟨ga, gn, gc, gs, rfl, hown, lg, tg, hgv, hgn, hb1⟩
  have hbw := HBA.out.trans (hb1.mono HBA.out.size)
  have HO := Lib.hid (hown.mono HBA.out.size)
  have HBW := Lib.hid hbw
  have HGV := Lib.hid hgv
  clear hown hb1 hbw hgv
  go_wp2_with fail
  go_loopw [3, 4, 5, 6] (fun gv _ _ _ wr => ∃ (G : Nat) (ga : Option Addr) (gn gc : Nat) (gs : List Int), gv = .slice ga gn gc ∧ Own w.heap.size wr ga gn gc gs ∧ Lim gs ∧ Top gs ∧ val gs = G ∧ gn ≤ n + 2 ∧ 0 < G ∧
      X < (G + 1) * (G + 1) ∧ Below w.heap.size w wr) (fun gv _ _ _ wr => rowVal wr gv)
  case atStart => exact ⟨2 ^ s, ga, gn, gc, gs, rfl, HO.out, lg, tg, by rw [HGV.out]; simp, by omega, Nat.two_pow_pos s, HST.out, HBW.out⟩
  case round =>
    clear HO HBW HGV HW HBA lg tg hgn
    obtain ⟨G, ha, hn', hc, hs', rfl, hown, lh, th, hG, hhn, hG0, hXG, hbel⟩ := hrel
    have hh1 : 1 ≤ hn' := by
      rcases Nat.eq_zero_or_pos hn' with h | h
      · exfalso
        have h1 := hown.sl.len
        rw [h] at h1
        rw [List.eq_nil_of_length_eq_zero h1] at hG
        simp [val] at hG
        omega
      · exact h
    have hdv := divide_any wr ao ha n hn' capa hc xs hs' (HX.out.below hbel) hown.sl lx lh tx th (by omega) hh1
    rw [HXV.out, hG] at hdv
    have HDV := Lib.hid hdv
    have HO := Lib.hid hown
    have HGG := Lib.hid hG
    have HXG := Lib.hid hXG
    have HBEL := Lib.hid hbel
    clear hdv hown hG hXG hbel
    go_wp2_with fail
    refine HDV.out.mono ?_
    rintro e w2 ⟨a1, n1, c1, z1, a2, n2, c2, z2, rfl, o1, l1, t1, v1, b1, o2, l2, t2, v2, b2, hb2⟩
    have HO1 := Lib.hid o1
    have HV1 := Lib.hid v1
    have HB2 := Lib.hid hb2
    have hsm := sum_any w2 ha a1 hn' n1 hc c1 hs' z1 (HO.out.kept hb2).sl o1.sl lh l1 (by omega) (by omega)
    rw [HGG.out, v1] at hsm
    have HSM := Lib.hid hsm
    clear o1 o2 v1 v2 hb2 hsm t1 l2 t2
    go_wp2_with fail
    refine HSM.out.mono ?_
    rintro e w3 ⟨a3, n3, c3, z3, rfl, o3, l3, t3, v3, b3, hb3⟩
    have hn3 : 0 < n3 := by
      rcases Nat.eq_zero_or_pos n3 with h | h
      · exfalso
        have h1 := o3.sl.len
        rw [h] at h1
        rw [List.eq_nil_of_length_eq_zero h1] at v3
        simp only [val] at v3
        have : (0 : Int) ≤ (X : Int) / (G : Int) := Int.ediv_nonneg (by omega) (by omega)
        omega
      · exact h
    have hmax : max hn' n1 ≤ n + 2 := by omega
    have hsd := shiftDown_any w3 a3 n3 c3 z3 0 1 o3.sl l3 (by omega) hn3 (by omega)
    rw [v3] at hsd
    have hv : (((G : Int) + (X : Int) / (G : Int)) / 2 ^ (32 * 0 + 1)) = (((G + X / G) / 2 : Nat) : Int) := by simp
    rw [hv] at hsd
    have HSD : Hid (Calls Tryz.prog 172 #[.slice a3 n3 c3, .int .i64 1] w3 (RetNat w3 (((G + X / G) / 2 : Nat) : Int) n3)) := Lib.hid (by simpa using hsd)
    have HB3 := Lib.hid hb3
    clear hsd hv o3 v3 hb3 l3 t3
    obtain ⟨N, hN⟩ : ∃ N, (G + X / G) / 2 = N := ⟨_, rfl⟩
    have HN := Lib.hid hN
    rw [hN] at HSD
    clear hN
    go_wp2_with fail
    refine HSD.out.mono ?_
    rintro e w4 ⟨a4, n4, c4, z4, rfl, o4, l4, t4, v4, b4, hb4⟩
    have hbw4 : Below wr.heap.size wr w4 := (HB2.out.trans (HB3.out.mono HB2.out.size)).trans (hb4.mono (Nat.le_trans HB2.out.size HB3.out.size))
    have hok := HO.out.kept hbw4
    have hcp := compare_any w4 a4 ha n4 hn' c4 hc z4 hs' o4.sl hok.sl l4 lh t4 th
    rw [v4, HGG.out] at hcp
    have HO4 := Lib.hid (o4.mono (Nat.le_trans HBEL.out.size (Nat.le_trans HB2.out.size HB3.out.size)))
    have HV4 := Lib.hid v4
    have HOK := Lib.hid hok
    have HB4 : Hid (Below w.heap.size w w4) := Lib.hid (HBEL.out.trans (hbw4.mono HBEL.out.size))
    by_cases hlt : N < G
    · rw [cmpI_lt (by omega)] at hcp
      have HCP := Lib.hid hcp
      have hlen : n4 ≤ hn' := by
        have h1 := len_le_of_val l4 lh t4 (by rw [v4, HGG.out]; omega)
        rwa [o4.sl.len, hok.sl.len] at h1
      clear hcp o4 v4 hok hb4 hbw4
      go_wp2_with fail
      refine HCP.out.mono ?_
      rintro e w5 ⟨rfl, q5, rfl⟩
      have hb5 := below_drewN HB4.out q5
      have ho5 := HO4.out.kept (below_drewN (Below.refl _ _) q5)
      have HB5 := Lib.hid hb5
      have HO5 := Lib.hid ho5
      clear hb5 ho5
      go_wp2_with fail
      go_roundw
      case rel => exact ⟨N, a4, n4, c4, z4, rfl, HO5.out, l4, t4, HV4.out, by omega, (by rw [← HN.out]; by_cases h1 : G = 1; (subst h1; rw [Nat.div_one]; omega); (generalize X / G = y; omega)), by rw [← HN.out]; exact root_step hG0, HB5.out⟩
      case measure =>
        rw [HO5.out.rowVal, HO.out.rowVal, HV4.out, HGG.out]
        simpa using hlt
    · have hc0 : 0 ≤ cmpI (N : Int) (G : Int) := by unfold cmpI; rw [if_neg (by omega)]; split <;> omega
      generalize cmpI (N : Int) (G : Int) = cc at hc0 hcp
      have HCP := Lib.hid hcp
      clear hcp o4 v4 hok hb4 hbw4
      go_wp2_with fail
      refine HCP.out.mono ?_
      rintro e w5 ⟨rfl, q5, rfl⟩
      have hb5 := below_drewN HB4.out q5
      have ho5 := HOK.out.kept (below_drewN (Below.refl _ _) q5)
      have HB5 := Lib.hid hb5
      have HO5 := Lib.hid ho5
      clear hb5 ho5
      go_wp2_with fail
      go_ret
      exact ⟨G, root_end hG0 (by rw [HN.out]; omega), HXG.out, ha, hn', hc, hs', rfl, HO5.out, lh, th, HGG.out, hhn, HB5.out⟩


theorem root_zero (w : World) (ao : Option Addr) (n cap : Nat) (xs : List Int) (hx : IntAt w false ao n cap xs 0) :
    Calls Tryz.prog 132 #[.agg #[.bool false, .slice ao n cap]] w (RetZero w 0) := by
  have HS : Hid (∀ w1, Below w.heap.size w w1 → Calls Tryz.prog 64 #[.agg #[.bool false, .slice ao n cap]] w1 (RetV w1 (.int .i64 0))) := Lib.hid (fun w1 hb => by
    have := sign_int w1 false ao n cap xs 0 (hx.below hb)
    simpa [cmpI] using this)
  clear hx
  go_enter Tryz.func132, Tryz.ntmps132
  go_wp2_with fail
  refine (HS.out _ (by go_grown)).mono ?_
  rintro e w1 ⟨rfl, hb1⟩
  have hr2 := (hb1.block (w.heap.size + 1) (by go_size)).trans (heap_alloc2 w (.cells #[.bool false, .slice ao n cap] 31) (.cells #[.bool false, .slice none 0 0] 31)).1
  have hb4 : Below w.heap.size w w1 := Below.trans (by go_grown) (hb1.mono (by go_size))
  obtain ⟨c0, c1, f0, f1⟩ := blk2 hr2
  clear hb1
  go_wp2_with fail
  refine bodyPost_ret (v := .tuple #[.agg #[.bool false, .slice none 0 0], .int .i64 0]) (by simp [results, Tryz.results132, go_sem, c0, c1]) rfl ?_
  exact ⟨rfl, (hb4.setCell (p := ⟨w.heap.size + 1, 0, none⟩) (by dsimp only; omega) _).setCell (p := ⟨w.heap.size + 1, 1, none⟩) (by dsimp only; omega) _⟩

/-- The root of a number above 0, with the code 0. -/
def RetRt (w : World) (X : Nat) (L : Nat) (e : Ending) (w' : World) : Prop := ∃ g : Nat, g * g ≤ X ∧ X < (g + 1) * (g + 1) ∧ RetIE w (g : Int) L e w'

set_option maxRecDepth 100000 in
theorem root_pos (w : World) (ao : Option Addr) (n cap : Nat) (xs : List Int) (X : Nat) (hx : IntAt w false ao n cap xs (X : Int)) (h0 : 0 < X) (hn : n ≤ 1048576) :
    Calls Tryz.prog 132 #[.agg #[.bool false, .slice ao n cap]] w (RetRt w X (n + 2)) := by
  have hval : val xs = (X : Int) := by
    have := hx.val
    simpa [sgn] using this.symm
  have HS : Hid (∀ w1, Below w.heap.size w w1 → Calls Tryz.prog 64 #[.agg #[.bool false, .slice ao n cap]] w1 (RetV w1 (.int .i64 1))) := Lib.hid (fun w1 hb => by
    have := sign_int w1 false ao n cap xs X (hx.below hb)
    rwa [show cmpI (X : Int) 0 = 1 by unfold cmpI; rw [if_neg (by omega), if_pos (by omega)]] at this)
  have HR : Hid (∀ w1, Below w.heap.size w w1 → Calls Tryz.prog 158 #[.slice ao n cap] w1 (RetRoot w1 X (n + 2))) := Lib.hid (fun w1 hb => root_any w1 ao n cap xs X (hx.sl.below hb) hx.lim hx.top hval h0 hn)
  clear hx hval
  go_enter Tryz.func132, Tryz.ntmps132
  go_wp2_with fail
  refine (HS.out _ (by go_grown)).mono ?_
  rintro e w1 ⟨rfl, hb1⟩
  have hr2 := (hb1.block (w.heap.size + 1) (by go_size)).trans (heap_alloc2 w (.cells #[.bool false, .slice ao n cap] 31) (.cells #[.bool false, .slice none 0 0] 31)).1
  have hr1 := (hb1.block w.heap.size (by go_size)).trans (heap_alloc2 w (.cells #[.bool false, .slice ao n cap] 31) (.cells #[.bool false, .slice none 0 0] 31)).2
  have hb4 : Below w.heap.size w w1 := Below.trans (by go_grown) (hb1.mono (by go_size))
  have hz1 : w.heap.size + 1 + 1 ≤ w1.heap.size := Nat.le_trans (by go_size) hb1.size
  obtain ⟨c0, c1, f0, f1⟩ := blk2 hr2
  obtain ⟨e0, e1, -, -⟩ := blk2 hr1
  clear hb1 hr1
  go_wp2_with fail
  refine (HR.out _ hb4).mono ?_
  rintro e w2 ⟨g, hg1, hg2, a2, m2, d2, z2, rfl, hown2, hl2, ht2, hv2, hm2, hb2⟩
  have HS2 := Lib.hid hown2.sl
  have HV2 := Lib.hid hv2
  have hr3 := (hb2.block (w.heap.size + 1) (by omega)).trans hr2
  have hb5 : Below w.heap.size w w2 := hb4.trans (hb2.mono hb4.size)
  have hz2 := hb2.size
  clear hown2 hv2 hb2 hr2 hb4 c0 c1 f0 f1 e0 e1
  go_wp2_with fail
  refine (wrap_int _ _ _ _ _ _ HS2.out hl2 rfl).mono ?_
  rintro e w3 ⟨neg', ao', n', cap', zs', rfl, hint, hn', hb3⟩
  have hint2 : IntAt w3 neg' ao' n' cap' zs' (g : Int) := by
    rw [HV2.out] at hint
    simpa [sgn] using hint
  have hr4 := (hb3.block (w.heap.size + 1) (by omega)).trans hr3
  have hb6 : Below w.heap.size w w3 := hb5.trans (hb3.mono hb5.size)
  have HI4 := Lib.hid (hint2.stored hr4 (.bool neg') (.slice ao' n' cap'))
  obtain ⟨d0, d1, g0, g1⟩ := blk2 hr4
  clear hint hint2 hr3 hr4 hb3 hb5
  go_wp2_with fail
  refine bodyPost_ret (v := .tuple #[.agg #[.bool neg', .slice ao' n' cap'], .int .i64 0]) (by simp [results, Tryz.results132, go_sem, d0, d1]) rfl ?_
  exact ⟨g, hg1, hg2, _, _, _, _, _, rfl, HI4.out, by omega, (hb6.setCell (p := ⟨w.heap.size + 1, 0, none⟩) (by dsimp only; omega) _).setCell (p := ⟨w.heap.size + 1, 1, none⟩) (by dsimp only; omega) _⟩


theorem pow_fits {M s k : Nat} {x : Int} (h : x.natAbs < 2 ^ s) (hk : s * k < M) : blen (cpl (x ^ k)).toNat ≤ M := by
  rw [blen_le_iff]
  have h1 : (x ^ k).natAbs ≤ 2 ^ (s * k) := by
    rw [Int.natAbs_pow, Nat.pow_mul]
    exact Nat.pow_le_pow_left (Nat.le_of_lt h) k
  have h2 : 2 ^ (s * k) < 2 ^ M := Nat.pow_lt_pow_right (by omega) hk
  obtain ⟨P, hP⟩ : ∃ P, 2 ^ M = P := ⟨_, rfl⟩
  rw [hP] at h2 ⊢
  obtain ⟨y, hy⟩ : ∃ y, x ^ k = y := ⟨_, rfl⟩
  rw [hy] at h1 ⊢
  unfold cpl
  split <;> omega

theorem abs_bits {w : World} {nx : Bool} {ao : Option Addr} {n cap : Nat} {xs : List Int} {x : Int} (hx : IntAt w nx ao n cap xs x) : x.natAbs < 2 ^ (32 * n) := by
  have h1 := hx.abs
  have h2 := len_of_blen hx.lim hx.top
  rw [hx.sl.len] at h2
  have h3 := blen_lt (val xs).toNat
  have h4 : 2 ^ blen (val xs).toNat ≤ 2 ^ (32 * n) := Nat.pow_le_pow_right (by omega) h2
  omega

theorem two_base (k : Nat) : (4294967296 : Int) ^ k = ((2 ^ (32 * k) : Nat) : Int) := by rw [base_pow]; simp

/-- The limbs of a power. -/
theorem pow_len {w : World} {ny : Bool} {bo : Option Addr} {m cb : Nat} {ys : List Int} {x : Int} {n k : Nat} (hy : IntAt w ny bo m cb ys (x ^ k)) (h : x.natAbs < 2 ^ (32 * n)) : m ≤ n * k + 1 := by
  have h1 := hy.abs
  rw [Int.natAbs_pow] at h1
  have h2 : x.natAbs ^ k ≤ 2 ^ (32 * (n * k)) := by
    rw [← Nat.mul_assoc, Nat.pow_mul]
    exact Nat.pow_le_pow_left (Nat.le_of_lt h) k
  have h3 : 2 ^ (32 * (n * k)) < 2 ^ (32 * (n * k + 1)) := Nat.pow_lt_pow_right (by omega) (by omega)
  have h4 := val_nonneg hy.lim
  have h5 : val ys < 4294967296 ^ (n * k + 1) := by
    rw [two_base]
    obtain ⟨P, hP⟩ : ∃ P, 2 ^ (32 * (n * k + 1)) = P := ⟨_, rfl⟩
    rw [hP] at h3 ⊢
    omega
  have := len_of_val hy.lim hy.top h5
  rwa [hy.sl.len] at this

/-- A power within reach is returned, with the code 0. -/
theorem pow_in (w : World) (nx : Bool) (ao : Option Addr) (n cap : Nat) (xs : List Int) (x : Int) (k : Nat) (hx : IntAt w nx ao n cap xs x) (hn : n ≤ 1048576) (hk : 32 * n * k < 65536) (hk2 : k ≤ 65536) :
    Calls Tryz.prog 91 #[.agg #[.bool nx, .slice ao n cap], .int .i64 (k : Int)] w (RetIE w (x ^ k) (n * k + 1)) := by
  refine (power_any w nx ao n cap xs x k hx hn (by omega)).mono ?_
  rintro e w' (⟨_, h⟩ | ⟨h, _⟩)
  · obtain ⟨ny, bo, m, cb, ys, he, hi, _, hb⟩ := h
    exact ⟨ny, bo, m, cb, ys, he, hi, pow_len hi (abs_bits hx), hb⟩
  · have := pow_fits (abs_bits hx) hk
    omega

theorem root_uniq {g X : Nat} (h1 : g * g ≤ X * X) (h2 : X * X < (g + 1) * (g + 1)) : g = X := by
  have h3 : g ≤ X := by
    apply Nat.le_of_not_lt
    intro h
    have := Nat.mul_self_lt_mul_self h
    omega
  have h4 : X < g + 1 := by
    apply Nat.lt_of_not_le
    intro h
    have := Nat.mul_self_le_mul_self h
    omega
  omega

/-- The root of a number that is not below 0. -/
def RetRtI (w : World) (x : Int) (L : Nat) (e : Ending) (w' : World) : Prop := ∃ g : Nat, (g : Int) * g ≤ x ∧ x < ((g : Int) + 1) * (g + 1) ∧ RetIE w (g : Int) L e w'

theorem root_int (w : World) (nx : Bool) (ao : Option Addr) (n cap : Nat) (xs : List Int) (x : Int) (hx : IntAt w nx ao n cap xs x) (hn : n ≤ 1048576) (h0 : 0 ≤ x) :
    Calls Tryz.prog 132 #[.agg #[.bool nx, .slice ao n cap]] w (RetRtI w x (n + 2)) := by
  obtain rfl : nx = false := by rw [neg_iff2 hx]; simpa using h0
  by_cases hz : x = 0
  · subst hz
    refine (root_zero w ao n cap xs hx).mono ?_
    rintro e w' ⟨rfl, hb⟩
    exact ⟨0, by omega, by omega, false, none, 0, 0, [], rfl, int_zero2 w', by omega, hb⟩
  · obtain ⟨X, rfl⟩ : ∃ X : Nat, x = X := ⟨x.toNat, by omega⟩
    refine (root_pos w ao n cap xs X hx (by omega) hn).mono ?_
    rintro e w' ⟨g, h1, h2, h3⟩
    exact ⟨g, by exact_mod_cast h1, by exact_mod_cast h2, h3⟩

theorem root_square (w : World) (nx : Bool) (ao : Option Addr) (n cap : Nat) (xs : List Int) (x : Int) (hx : IntAt w nx ao n cap xs (x * x)) (hn : n ≤ 1048576) :
    Calls Tryz.prog 132 #[.agg #[.bool nx, .slice ao n cap]] w (RetIE w (x.natAbs : Int) (n + 2)) := by
  refine (root_int w nx ao n cap xs _ hx hn (by rw [← Int.natAbs_mul_self' x]; exact Int.mul_nonneg (by omega) (by omega))).mono ?_
  rintro e w' ⟨g, h1, h2, h3⟩
  rw [← Int.natAbs_mul_self' x] at h1 h2
  have : g = x.natAbs := root_uniq (by exact_mod_cast h1) (by exact_mod_cast h2)
  rw [← this]
  exact h3

theorem absI (w : World) (nx : Bool) (ao : Option Addr) (n cap : Nat) (xs : List Int) (x : Int) (hx : IntAt w nx ao n cap xs x) (hn : n ≤ 34359738368) :
    Calls Tryz.prog 69 #[.agg #[.bool nx, .slice ao n cap]] w (RetInt w (x.natAbs : Int) n) := by
  have HC : Hid (∀ w1, Below w.heap.size w w1 → _) := Lib.hid (fun w1 hb => clone_any w1 ao n cap xs (hx.sl.below hb) hn)
  have hl := hx.lim
  have hv : sgn false (val xs) = (x.natAbs : Int) := by
    have h1 := hx.abs
    have h2 := val_nonneg hx.lim
    simp only [sgn]
    simp
    omega
  have HV := Lib.hid hv
  clear hx hv
  go_enter Tryz.func69, Tryz.ntmps69
  go_wp2_with fail
  refine (HC.out _ (by go_grown)).mono ?_
  rintro e w2 ⟨a2, d2, rfl, hown2, hb1⟩
  have hr2 := (hb1.block (w.heap.size + 1) (by go_size)).trans (heap_alloc2 w (.cells #[.bool nx, .slice ao n cap] 31) (.cells #[.bool false, .slice none 0 0] 31)).1
  have hb4 : Below w.heap.size w w2 := Below.trans (by go_grown) (hb1.mono (by go_size))
  have hz2 : w.heap.size + 1 + 1 ≤ w2.heap.size := Nat.le_trans (by go_size) hb1.size
  have HS2 := Lib.hid hown2.sl
  clear hown2 hb1
  go_wp2_with fail
  refine (wrap_int _ _ _ _ _ _ HS2.out hl rfl).mono ?_
  rintro e w3 ⟨neg', ao', n', cap', zs', rfl, hint, hn', hb3⟩
  have hr4 := (hb3.block (w.heap.size + 1) (by omega)).trans hr2
  have hb6 : Below w.heap.size w w3 := hb4.trans (hb3.mono hb4.size)
  rw [HV.out] at hint
  have HI4 := Lib.hid (hint.stored hr4 (.bool neg') (.slice ao' n' cap'))
  obtain ⟨d0, d1, g0, g1⟩ := blk2 hr4
  clear hint hr2 hr4 hb3 hb4
  go_wp2_with fail
  refine bodyPost_ret (v := .agg #[.bool neg', .slice ao' n' cap']) (by simp [results, Tryz.results69, go_sem, d0, d1]) rfl ?_
  exact ⟨_, _, _, _, _, rfl, HI4.out, by omega, (hb6.setCell (p := ⟨w.heap.size + 1, 0, none⟩) (by dsimp only; omega) _).setCell (p := ⟨w.heap.size + 1, 1, none⟩) (by dsimp only; omega) _⟩

end Go.Proofs.YtdfepdhflnnjpaaGreat
