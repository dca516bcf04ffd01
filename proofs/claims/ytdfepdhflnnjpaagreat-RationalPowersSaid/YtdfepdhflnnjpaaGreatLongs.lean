/- Long1, Guess, LongM, Long2, Long3, DivAny in one text. -/
import Derived.Test.YtdfepdhflnnjpaaGreatShiftM
import Derived.Test.YtdfepdhflnnjpaaGreatTexts
import Derived.Test.YtdfepdhflnnjpaaGreatNumM
import Derived.Test.YtdfepdhflnnjpaaGreatNats
import Derived.Test.YtdfepdhflnnjpaaGreatSmallM
namespace Go.Proofs.YtdfepdhflnnjpaaGreat
open Go.RowKit
set_option autoImplicit false
set_option maxHeartbeats 1000000
set_option linter.unusedVariables false

/-- The limbs from i on, k of them. -/
def seg (zs : List Int) (i k : Nat) : List Int := (zs.drop i).take k

theorem seg_succ (zs : List Int) (i k : Nat) : val (seg zs i (k + 1)) = val (seg zs i k) + 4294967296 ^ k * zs.getD (i + k) 0 := by
  unfold seg
  rw [val_take_succ, getD_drop]

theorem seg_set {zs : List Int} {i k : Nat} {v : Int} : seg (zs.set (i + k) v) i k = seg zs i k := by
  unfold seg
  rw [List.drop_set, if_neg (by omega), show i + k - i = k by omega, take_set_same']

theorem seg_lim {zs : List Int} (h : Lim zs) (i k : Nat) : Lim (seg zs i k) := Lim_take (Lim_drop h i) k

theorem seg_len {zs : List Int} {i k : Nat} (h : i + k ≤ zs.length) : (seg zs i k).length = k := by
  unfold seg; rw [List.length_take, List.length_drop]; omega

theorem seg_lt {zs : List Int} (lz : Lim zs) {i k : Nat} (h : i + k ≤ zs.length) : val (seg zs i k) < 4294967296 ^ k := by
  have := val_lt (seg_lim lz i k)
  rwa [seg_len h] at this

theorem back_step {a b ds : List Int} {i k : Nat} {c z x : Int} (hk : i + k < b.length) (h : val (seg b i k) + 4294967296 ^ k * c = val (seg a i k) + val (ds.take k)) (hz : a.getD (i + k) 0 = z) (hx : ds.getD k 0 = x) :
    val (seg (b.set (i + k) ((z + x + c) % 4294967296)) i (k + 1)) + 4294967296 ^ (k + 1) * ((z + x + c) / 4294967296) = val (seg a i (k + 1)) + val (ds.take (k + 1)) := by
  rw [seg_succ, seg_set, getD_set_eq hk, seg_succ, val_take_succ, hz, hx, Int.pow_succ]
  have := Int.emod_add_mul_ediv (z + x + c) 4294967296
  grind

/-- Nothing but the limbs from i on, k of them, has changed. -/
def Same (a b : List Int) (i k : Nat) : Prop := b.length = a.length ∧ ∀ j, j < i ∨ i + k ≤ j → b.getD j 0 = a.getD j 0

/-- Nothing but the block g has changed. -/
def Apart (g : Nat) (w w' : World) : Prop := ∀ h, h ≠ g → w'.heap[h]? = w.heap[h]?

theorem Apart.refl (g : Nat) (w : World) : Apart g w w := fun _ _ => rfl

theorem Apart.trans {g : Nat} {a b c : World} (h : Apart g a b) (k : Apart g b c) : Apart g a c := fun i hi => (k i hi).trans (h i hi)

theorem Apart.set {g : Nat} {w w' : World} (h : Apart g w w') (j : Nat) (v : Value) : Apart g w (w'.setCell ⟨g, j, none⟩ v) := fun i hi => by
  rw [Below.heap_setCell _ _ _ _ (by exact hi)]
  exact h i hi

theorem Mine.apart {B g q : Nat} {w w' : World} {zs : List Int} (h : Mine B w q zs) (ha : Apart g w w') (hq : q ≠ g) : Mine B w' q zs := by
  refine ⟨h.1, ?_⟩
  rcases h.2 with h2 | ⟨g', c, cur, hv, hbg, hg, r⟩
  · exact .inl h2
  · simp only [Value.slice.injEq, Option.some.injEq, Addr.mk.injEq] at hv
    have e : g' = q := hv.1.1.symm
    refine .inr ⟨g', c, cur, by simp only [Value.slice.injEq, Option.some.injEq, Addr.mk.injEq]; exact hv, hbg, ?_, r⟩
    rw [ha g' (by omega)]
    exact hg

theorem mod_pow (U V : Int) (k : Nat) {L c z : Int} (hL0 : 0 ≤ L) (hL : L < 4294967296 ^ k) (h : L + 4294967296 ^ k * (z + c) = U + V) : L + 4294967296 ^ k * ((z + c) % 4294967296) = (U + V) % 4294967296 ^ (k + 1) := by
  have hp : (0 : Int) < 4294967296 ^ k := pow_pos k
  rw [Int.pow_succ, ← h]
  have hm := Int.emod_add_mul_ediv (z + c) 4294967296
  have h0 := Int.emod_nonneg (z + c) (show (4294967296 : Int) ≠ 0 by omega)
  have h1 := Int.emod_lt_of_pos (z + c) (show (0 : Int) < 4294967296 by omega)
  obtain ⟨P, hP⟩ : ∃ P : Int, 4294967296 ^ k = P := ⟨_, rfl⟩
  rw [hP] at hp hL ⊢
  obtain ⟨r, hr⟩ : ∃ r, (z + c) % 4294967296 = r := ⟨_, rfl⟩
  obtain ⟨q, hq⟩ : ∃ q, (z + c) / 4294967296 = q := ⟨_, rfl⟩
  rw [hr] at hm h0 h1 ⊢
  rw [hq] at hm
  have e : L + P * (z + c) = (L + P * r) + P * 4294967296 * q := by rw [← hm]; grind
  have h2 : P * r ≤ P * 4294967295 := Int.mul_le_mul_of_nonneg_left (by omega) (by omega)
  have h3 : 0 ≤ P * r := Int.mul_nonneg (by omega) h0
  rw [e, Int.add_mul_emod_self_left, Int.emod_eq_of_lt (by omega) (by omega)]

set_option maxRecDepth 100000 in
set_option maxHeartbeats 1000000 in
theorem addBack_any (B : Nat) (w0 w : World) (g i n pc : Nat) (dao : Option Addr) (dc : Nat) (zs ds : List Int) (hm : Mine B w g zs) (lz : Lim zs) (hl : i + n + 1 ≤ zs.length) (hpc : n + 1 ≤ pc) (hpm : pc ≤ 9223372036854775807) (hn : n ≤ 4294967296)
    (hd : Sl w0 dao n dc ds) (ld : Lim ds) (hb : Below w0.heap.size w0 w) (hg : w0.heap.size ≤ g) :
    Calls Tryz.prog 183 #[.slice (some ⟨g, i, none⟩) (n + 1) pc, .slice dao n dc] w fun e w' => ∃ zs', e = .returned (.tuple #[]) ∧ Mine B w' g zs' ∧ Same zs zs' i (n + 1) ∧ Lim zs' ∧ val (seg zs' i (n + 1)) = (val (seg zs i (n + 1)) + val ds) % 4294967296 ^ (n + 1) ∧ Below w0.heap.size w0 w' ∧ Apart g w w' := by
  have HD := Lib.hid hd
  have HM0 := Lib.hid hm
  have hdl := hd.le
  have HDL := Lib.hid hd.len
  have hdm : dc ≤ 9223372036854775807 := by have := hd.most; unfold maxLen at this; omega
  clear hd hm
  go_enter Tryz.func183, Tryz.ntmps183
  go_wp2_with fail
  go_loopw [4, 10] (fun c ii wr => ∃ (k : Nat) (cy : Int) (b : List Int), k ≤ n ∧ ii = .int .i64 k ∧ c = .int .u64 cy ∧ 0 ≤ cy ∧ cy ≤ 1 ∧ Same zs b i k ∧ Lim b ∧
      val (seg b i k) + 4294967296 ^ k * cy = val (seg zs i k) + val (ds.take k) ∧ Mine B wr g b ∧ Below w0.heap.size w0 wr ∧ Apart g w wr) (fun _ ii _ => n - (intOf ii).toNat)
  case atStart => exact ⟨0, 0, zs, Nat.zero_le _, rfl, rfl, by omega, by omega, ⟨rfl, fun _ _ => rfl⟩, lz, by simp [seg, val], HM0.out, hb, Apart.refl _ _⟩
  case round =>
    obtain ⟨k, cy, b, hk, rfl, rfl, hc0, hc1, hsame, hlim, hval, hmine, hbel, hap⟩ := hrel
    have HAP := Lib.hid hap
    have HS := Lib.hid hsame
    have HV := Lib.hid hval
    have HM := Lib.hid hmine
    have HBL := Lib.hid hbel
    clear hsame hval hmine hbel hap
    by_cases hkn : k < n
    · have hkni : (k : Int) < n := by omega
      have hbl : b.length = zs.length := HS.out.1
      obtain ⟨hcell, hfrz⟩ := HM.out.cell (i + k) (by omega)
      obtain ⟨z, hz⟩ : ∃ z, zs.getD (i + k) 0 = z := ⟨_, rfl⟩
      rw [HS.out.2 (i + k) (.inr (by omega)), hz] at hcell
      have lzz := Lim_getD lz (i + k)
      rw [hz] at lzz
      obtain ⟨bd, od, rfl, hcd⟩ := (HD.out.below HBL.out).cells.at (k := k) (by rw [HDL.out]; omega)
      obtain ⟨x, hx⟩ : ∃ x, ds.getD k 0 = x := ⟨_, rfl⟩
      have lxx := Lim_getD ld k
      rw [hx] at hcd lxx
      obtain ⟨hz0, hz1⟩ := lzz
      obtain ⟨hx0, hx1⟩ := lxx
      have HZ := Lib.hid hz
      have HX := Lib.hid hx
      have HBLEN := Lib.hid hbl
      have hk1 : (k : Int) < n + 1 := by omega
      clear hz hx hbl
      go_wp2_with fail
      go_roundw
      case rel =>
        have hbl := HBLEN.out
        refine ⟨k + 1, (z + x + cy) / 4294967296, b.set (i + k) ((z + x + cy) % 4294967296), by omega, by go_num, rfl, by omega, by omega, ⟨by rw [List.length_set]; exact hbl, fun j hj => ?_⟩, Lim_set hlim _ (by omega) (by omega), back_step (by omega) HV.out HZ.out HX.out, HM.out.set _ _, HBL.out.setCell hg _, HAP.out.set _ _⟩
        rw [getD_set_ne (by omega)]
        exact HS.out.2 j (by omega)
      case measure => simp [intOf]; omega
    · obtain rfl : k = n := by omega
      have hkni : ¬ (k : Int) < k := by omega
      have hbl : b.length = zs.length := HS.out.1
      obtain ⟨hcell, hfrz⟩ := HM.out.cell (i + k) (by omega)
      obtain ⟨z, hz⟩ : ∃ z, zs.getD (i + k) 0 = z := ⟨_, rfl⟩
      rw [HS.out.2 (i + k) (.inr (by omega)), hz] at hcell
      have lzz := Lim_getD lz (i + k)
      rw [hz] at lzz
      obtain ⟨hz0, hz1⟩ := lzz
      have HZ := Lib.hid hz
      have HBLEN := Lib.hid hbl
      have hk1 : (k : Int) < k + 1 := by omega
      clear hz hbl
      go_wp2_with fail
      go_end0
      have hbl := HBLEN.out
      refine ⟨rfl, b.set (i + k) ((z + cy) % 4294967296), HM.out.set _ _, ⟨by rw [List.length_set]; exact hbl, fun j hj => ?_⟩, Lim_set hlim _ (by omega) (by omega), ?_, HBL.out.setCell hg _, HAP.out.set _ _⟩
      · rw [getD_set_ne (by omega)]
        exact HS.out.2 j (by omega)
      · have hv := HV.out
        have hdl := HDL.out
        rw [List.take_of_length_le (by omega)] at hv
        rw [seg_succ, seg_set, getD_set_eq (by omega)]
        refine mod_pow _ _ k (val_nonneg (seg_lim hlim i k)) (seg_lt hlim (by omega)) ?_
        rw [seg_succ, HZ.out]
        grind

theorem take_step {a b ds : List Int} {i k : Nat} {c w z x q : Int} (hk : i + k < b.length) (h : val (seg b i k) - 4294967296 ^ k * (w + c) = val (seg a i k) - q * val (ds.take k)) (hz : a.getD (i + k) 0 = z) (hx : ds.getD k 0 = x) :
    val (seg (b.set (i + k) ((z - (x * q + c) % 4294967296 - w) % 4294967296)) i (k + 1)) - 4294967296 ^ (k + 1) * (- ((z - (x * q + c) % 4294967296 - w) / 4294967296) + (x * q + c) / 4294967296) = val (seg a i (k + 1)) - q * val (ds.take (k + 1)) := by
  rw [seg_succ, seg_set, getD_set_eq hk, seg_succ, val_take_succ, hz, hx, Int.pow_succ]
  have h1 := Int.emod_add_mul_ediv (x * q + c) 4294967296
  have h2 := Int.emod_add_mul_ediv (z - (x * q + c) % 4294967296 - w) 4294967296
  grind

/-- What is left, and whether it was too much. -/
theorem take_end {U S L z c w : Int} {k : Nat} (hL0 : 0 ≤ L) (hL : L < 4294967296 ^ k) (h : L + 4294967296 ^ k * (z - c - w) = U - S) : L + 4294967296 ^ k * ((z - c - w) % 4294967296) = (U - S) % 4294967296 ^ (k + 1) ∧ (z - c - w < 0 ↔ U < S) := by
  have e := mod_pow U (-S) k (z := z) (c := -c - w) hL0 hL (by rw [show z + (-c - w) = z - c - w by omega]; omega)
  rw [show z + (-c - w) = z - c - w by omega, show U + -S = U - S by omega] at e
  refine ⟨e, ?_⟩
  have hp : (0 : Int) < 4294967296 ^ k := pow_pos k
  obtain ⟨P, hP⟩ : ∃ P : Int, 4294967296 ^ k = P := ⟨_, rfl⟩
  rw [hP] at hp hL h
  constructor
  · intro hn
    have : P * (z - c - w) ≤ P * (-1) := Int.mul_le_mul_of_nonneg_left (by omega) (by omega)
    omega
  · intro hn
    rcases Int.lt_or_le (z - c - w) 0 with h1 | h1
    · exact h1
    · have : 0 ≤ P * (z - c - w) := Int.mul_nonneg (by omega) h1
      omega

theorem borrow_two {z t w : Int} (hz0 : 0 ≤ z) (hz1 : z ≤ 4294967295) (ht0 : 0 ≤ t) (ht1 : t ≤ 4294967295) (hw0 : 0 ≤ w) (hw1 : w ≤ 1) :
    IntKind.u64.wrap (IntKind.u64.wrap (z - t) - w) / 9223372036854775808 = - ((z - t - w) / 4294967296) ∧ IntKind.u64.wrap (IntKind.u64.wrap (z - t) - w) % 4294967296 = (z - t - w) % 4294967296 := by
  simp only [IntKind.wrap_u64]
  omega

theorem qprod_bound {x q c : Int} (hx0 : 0 ≤ x) (hx1 : x ≤ 4294967295) (hq0 : 0 ≤ q) (hq1 : q ≤ 4294967295) (hc0 : 0 ≤ c) (hc1 : c ≤ 4294967295) :
    0 ≤ x * q ∧ x * q ≤ 18446744065119617025 ∧ 0 ≤ x * q + c ∧ x * q + c ≤ 18446744069414584320 ∧ 0 ≤ (x * q + c) / 4294967296 ∧ (x * q + c) / 4294967296 ≤ 4294967295 := by
  have h1 : 0 ≤ x * q := Int.mul_nonneg hx0 hq0
  have h2 : x * q ≤ 4294967295 * 4294967295 := Int.mul_le_mul hx1 hq1 hq0 (by omega)
  omega

set_option maxRecDepth 100000 in
set_option maxHeartbeats 1000000 in
theorem subtract_any (B : Nat) (w0 w : World) (g i n pc : Nat) (dao : Option Addr) (dc : Nat) (zs ds : List Int) (q : Int) (hm : Mine B w g zs) (lz : Lim zs) (hl : i + n + 1 ≤ zs.length) (hpc : n + 1 ≤ pc) (hpm : pc ≤ 9223372036854775807) (hn : n ≤ 4294967296)
    (hd : Sl w0 dao n dc ds) (ld : Lim ds) (hb : Below w0.heap.size w0 w) (hg : w0.heap.size ≤ g) (hq0 : 0 ≤ q) (hq1 : q ≤ 4294967295) :
    Calls Tryz.prog 182 #[.slice (some ⟨g, i, none⟩) (n + 1) pc, .slice dao n dc, .int .u32 q] w fun e w' => ∃ zs', e = .returned (.bool (decide (val (seg zs i (n + 1)) < q * val ds))) ∧ Mine B w' g zs' ∧ Same zs zs' i (n + 1) ∧ Lim zs' ∧ val (seg zs' i (n + 1)) = (val (seg zs i (n + 1)) - q * val ds) % 4294967296 ^ (n + 1) ∧ Below w0.heap.size w0 w' ∧ Apart g w w' := by
  have HD := Lib.hid hd
  have HM0 := Lib.hid hm
  have hdl := hd.le
  have HDL := Lib.hid hd.len
  have hdm : dc ≤ 9223372036854775807 := by have := hd.most; unfold maxLen at this; omega
  clear hd hm
  go_enter Tryz.func182, Tryz.ntmps182
  go_wp2_with fail
  go_loopw [7, 8, 16] (fun c v ii wr => ∃ (k : Nat) (cy bw : Int) (b : List Int), k ≤ n ∧ ii = .int .i64 k ∧ c = .int .u64 cy ∧ v = .int .u64 bw ∧ 0 ≤ cy ∧ cy ≤ 4294967295 ∧ 0 ≤ bw ∧ bw ≤ 1 ∧ Same zs b i k ∧ Lim b ∧
      val (seg b i k) - 4294967296 ^ k * (bw + cy) = val (seg zs i k) - q * val (ds.take k) ∧ Mine B wr g b ∧ Below w0.heap.size w0 wr ∧ Apart g w wr) (fun _ _ ii _ => n - (intOf ii).toNat)
  case atStart => exact ⟨0, 0, 0, zs, Nat.zero_le _, rfl, rfl, rfl, by omega, by omega, by omega, by omega, ⟨rfl, fun _ _ => rfl⟩, lz, by simp [seg, val], HM0.out, hb, Apart.refl _ _⟩
  case round =>
    obtain ⟨k, cy, bw, b, hk, rfl, rfl, rfl, hc0, hc1, hw0, hw1, hsame, hlim, hval, hmine, hbel, hap⟩ := hrel
    have HAP := Lib.hid hap
    have HS := Lib.hid hsame
    have HV := Lib.hid hval
    have HM := Lib.hid hmine
    have HBL := Lib.hid hbel
    clear hsame hval hmine hbel hap
    by_cases hkn : k < n
    · have hkni : (k : Int) < n := by omega
      have hbl : b.length = zs.length := HS.out.1
      obtain ⟨hcell, hfrz⟩ := HM.out.cell (i + k) (by omega)
      obtain ⟨z, hz⟩ : ∃ z, zs.getD (i + k) 0 = z := ⟨_, rfl⟩
      rw [HS.out.2 (i + k) (.inr (by omega)), hz] at hcell
      have lzz := Lim_getD lz (i + k)
      rw [hz] at lzz
      obtain ⟨bd, od, rfl, hcd⟩ := (HD.out.below HBL.out).cells.at (k := k) (by rw [HDL.out]; omega)
      obtain ⟨x, hx⟩ : ∃ x, ds.getD k 0 = x := ⟨_, rfl⟩
      have lxx := Lim_getD ld k
      rw [hx] at hcd lxx
      obtain ⟨hz0, hz1⟩ := lzz
      obtain ⟨hx0, hx1⟩ := lxx
      obtain ⟨p0, p1, p2, p3, p4, p5⟩ := qprod_bound hx0 hx1 hq0 hq1 hc0 hc1
      have HZ := Lib.hid hz
      have HX := Lib.hid hx
      have HBLEN := Lib.hid hbl
      have hk1 : (k : Int) < n + 1 := by omega
      clear hz hx hbl
      go_wp2_with fail
      obtain ⟨q1, q2⟩ := borrow_two hz0 hz1 (show 0 ≤ (x * q + cy) % 4294967296 by omega) (by omega) hw0 hw1
      go_roundw
      case rel =>
        have hbl := HBLEN.out
        rw [q1, q2]
        refine ⟨k + 1, (x * q + cy) / 4294967296, - ((z - (x * q + cy) % 4294967296 - bw) / 4294967296), b.set (i + k) ((z - (x * q + cy) % 4294967296 - bw) % 4294967296), by omega, by go_num, rfl, rfl, p4, p5, by omega, by omega, ⟨by rw [List.length_set]; exact hbl, fun j hj => ?_⟩, Lim_set hlim _ (by omega) (by omega), take_step (by omega) HV.out HZ.out HX.out, HM.out.set _ _, HBL.out.setCell hg _, HAP.out.set _ _⟩
        rw [getD_set_ne (by omega)]
        exact HS.out.2 j (by omega)
      case measure => simp [intOf]; omega
    · obtain rfl : k = n := by omega
      have hkni : ¬ (k : Int) < k := by omega
      have hbl : b.length = zs.length := HS.out.1
      obtain ⟨hcell, hfrz⟩ := HM.out.cell (i + k) (by omega)
      obtain ⟨z, hz⟩ : ∃ z, zs.getD (i + k) 0 = z := ⟨_, rfl⟩
      rw [HS.out.2 (i + k) (.inr (by omega)), hz] at hcell
      have lzz := Lim_getD lz (i + k)
      rw [hz] at lzz
      obtain ⟨hz0, hz1⟩ := lzz
      have HZ := Lib.hid hz
      have HBLEN := Lib.hid hbl
      have hk1 : (k : Int) < k + 1 := by omega
      clear hz hbl
      go_wp2_with fail
      obtain ⟨q1, q2⟩ := borrow_two hz0 hz1 hc0 hc1 hw0 hw1
      have hbl := HBLEN.out
      have hv := HV.out
      have hdl := HDL.out
      rw [List.take_of_length_le (by omega)] at hv
      have hte := take_end (U := val (seg zs i (k + 1))) (S := q * val ds) (z := z) (c := cy) (w := bw) (k := k) (val_nonneg (seg_lim hlim i k)) (seg_lt hlim (by omega)) (by rw [seg_succ, HZ.out]; grind)
      have hbool : (- ((z - cy - bw) / 4294967296) == (1 : Int)) = decide (val (seg zs i (k + 1)) < q * val ds) := by
        rw [Bool.eq_iff_iff, decide_eq_true_iff, ← hte.2, beq_iff_eq]
        omega
      rw [← q1] at hbool
      have HBOOL := Lib.hid hbool
      have HT1 := Lib.hid hte.1
      have Q2 := Lib.hid q2
      clear hbool hte q1 q2 hv hdl hbl
      go_ret
      have hbl := HBLEN.out
      refine ⟨congrArg (fun v => Ending.returned (Value.bool v)) HBOOL.out, _, HM.out.set _ _, ⟨by rw [List.length_set]; exact hbl, fun j hj => ?_⟩, Lim_set hlim _ (by omega) (by omega), ?_, HBL.out.setCell hg _, HAP.out.set _ _⟩
      · rw [getD_set_ne (by omega)]
        exact HS.out.2 j (by omega)
      · rw [seg_succ, seg_set, getD_set_eq (by omega), Q2.out]
        exact HT1.out

theorem lt_of_mul {P a b : Int} (hP : 0 < P) (h : P * a < P * b) : a < b := Int.lt_of_mul_lt_mul_left h (Int.le_of_lt hP)

theorem q_top {q V U P W T : Int} (hq : q * V ≤ U) (hq0 : 0 ≤ q) (hP : 0 < P) (hV : P * W ≤ V) (hU : U < P * (T + 1)) : q * W ≤ T := by
  have h1 : q * (P * W) ≤ q * V := Int.mul_le_mul_of_nonneg_left hV hq0
  have h2 : P * (q * W) < P * (T + 1) := by
    have : P * (q * W) = q * (P * W) := by grind
    omega
  have := lt_of_mul hP h2
  omega

theorem q_lt {q d W T : Int} (h : q * W ≤ T) (hd : T < d * W) (hW : 0 < W) : q < d := by
  have : W * q < W * d := by rw [Int.mul_comm W q, Int.mul_comm W d]; omega
  exact lt_of_mul hW this

theorem d_low {d V U P W T : Int} (hd : d * W ≤ T) (h1 : 1 ≤ d) (hdW : d ≤ W) (hP : 0 < P) (hV : V ≤ P * (W + 1)) (hU : P * T ≤ U) : (d - 1) * V ≤ U := by
  have e1 : (d - 1) * V ≤ (d - 1) * (P * (W + 1)) := Int.mul_le_mul_of_nonneg_left hV (by omega)
  have e2 : (d - 1) * (P * (W + 1)) = P * ((d - 1) * (W + 1)) := by grind
  have e3 : (d - 1) * (W + 1) ≤ T := by
    have : (d - 1) * (W + 1) = d * W + d - W - 1 := by grind
    omega
  have e4 : P * ((d - 1) * (W + 1)) ≤ P * T := Int.mul_le_mul_of_nonneg_left e3 (Int.le_of_lt hP)
  omega

/-- A digit that the two top limbs of the divisor allow is the right one, or 1 more. -/
theorem d_ok {d V U P W T : Int} (hV0 : 0 < V) (hd : d * W ≤ T) (h0 : 0 ≤ d) (hdW : d ≤ W) (hP : 0 < P) (hV : V ≤ P * (W + 1)) (hU : P * T ≤ U) (hU0 : 0 ≤ U) : d ≤ U / V + 1 := by
  by_cases h1 : 1 ≤ d
  · have h := d_low hd h1 hdW hP hV hU
    have := (Int.le_ediv_iff_mul_le hV0).2 h
    omega
  · have := Int.ediv_nonneg hU0 (Int.le_of_lt hV0)
    omega

/-- two limbs at the top of a number -/
theorem two_top {ds : List Int} {k : Nat} (hl : ds.length = k + 2) : val ds = val (ds.take k) + 4294967296 ^ k * (ds.getD (k + 1) 0 * 4294967296 + ds.getD k 0) := by
  have h1 := val_take_succ ds (k + 1)
  have h2 := val_take_succ ds k
  rw [List.take_of_length_le (by omega)] at h1
  rw [h1, h2, Int.pow_succ]
  grind

theorem three_top {ps : List Int} {k : Nat} (hl : ps.length = k + 3) : val ps = val (ps.take k) + 4294967296 ^ k * ((ps.getD (k + 2) 0 * 4294967296 + ps.getD (k + 1) 0) * 4294967296 + ps.getD k 0) := by
  have h1 := val_take_succ ps (k + 2)
  have h2 := val_take_succ ps (k + 1)
  have h3 := val_take_succ ps k
  rw [List.take_of_length_le (by omega)] at h1
  rw [h1, h2, h3, Int.pow_succ, Int.pow_succ]
  grind

/-- A digit that is at least q, and that two limbs allow. -/
def RetGuess (w : World) (q W T : Int) (e : Ending) (w' : World) : Prop := ∃ d m, e = .returned (.int .u32 d) ∧ w' = w.drewN m ∧ 0 ≤ d ∧ d ≤ 4294967295 ∧ q ≤ d ∧ d * W ≤ T

set_option maxRecDepth 100000 in
set_option maxHeartbeats 1000000 in
theorem guess_walk (w : World) (ga ia k pc : Nat) (gb ib dc : Nat) (ps ds : List Int) (f s p2 p1 p0 q : Int)
    (hp : Sl w (some ⟨ga, ia, none⟩) (k + 3) pc ps) (hd : Sl w (some ⟨gb, ib, none⟩) (k + 2) dc ds) (hk : k ≤ 4294967296)
    (hf : ds.getD (k + 1) 0 = f) (hs : ds.getD k 0 = s) (h2 : ps.getD (k + 2) 0 = p2) (h1 : ps.getD (k + 1) 0 = p1) (h0 : ps.getD k 0 = p0)
    (bf : 2147483648 ≤ f ∧ f ≤ 4294967295) (bs : 0 ≤ s ∧ s ≤ 4294967295) (b2 : 0 ≤ p2 ∧ p2 ≤ f) (b1 : 0 ≤ p1 ∧ p1 ≤ 4294967295) (b0 : 0 ≤ p0 ∧ p0 ≤ 4294967295)
    (hq0 : 0 ≤ q) (hq1 : q ≤ 4294967295) (hqT : q * (f * 4294967296 + s) ≤ (p2 * 4294967296 + p1) * 4294967296 + p0) (hqt : q * f ≤ p2 * 4294967296 + p1) :
    Calls Tryz.prog 181 #[.slice (some ⟨ga, ia, none⟩) (k + 3) pc, .slice (some ⟨gb, ib, none⟩) (k + 2) dc] w (RetGuess w q (f * 4294967296 + s) ((p2 * 4294967296 + p1) * 4294967296 + p0)) := by
  obtain ⟨b0', o0', hb0', c0⟩ := hp.cells.at (k := k) (by rw [hp.len]; omega)
  obtain ⟨b1', o1', hb1', c1⟩ := hp.cells.at (k := k + 1) (by rw [hp.len]; omega)
  obtain ⟨b2', o2', hb2', c2⟩ := hp.cells.at (k := k + 2) (by rw [hp.len]; omega)
  obtain ⟨b3', o3', hb3', e0⟩ := hd.cells.at (k := k) (by rw [hd.len]; omega)
  obtain ⟨b4', o4', hb4', e1⟩ := hd.cells.at (k := k + 1) (by rw [hd.len]; omega)
  simp at hb0' hb1' hb2' hb3' hb4'
  obtain ⟨rfl, rfl⟩ := hb0'
  obtain ⟨rfl, rfl⟩ := hb1'
  obtain ⟨rfl, rfl⟩ := hb2'
  obtain ⟨rfl, rfl⟩ := hb3'
  obtain ⟨rfl, rfl⟩ := hb4'
  rw [h0] at c0
  rw [h1] at c1
  rw [h2] at c2
  rw [hs] at e0
  rw [hf] at e1
  have hpl := hp.le
  have hdl := hd.le
  have hpm : pc ≤ 9223372036854775807 := by have := hp.most; unfold maxLen at this; omega
  have hdm : dc ≤ 9223372036854775807 := by have := hd.most; unfold maxLen at this; omega
  clear hp hd h0 h1 h2 hs hf
  obtain ⟨f0, f1⟩ := bf
  obtain ⟨s0, s1⟩ := bs
  obtain ⟨g20, g21⟩ := b2
  obtain ⟨g10, g11⟩ := b1
  obtain ⟨g00, g01⟩ := b0
  have HQT := Lib.hid hqT
  have HQt := Lib.hid hqt
  have i1 : ((k + 2 : Nat) : Int) - 1 = ((k + 1 : Nat) : Int) := by omega
  have i2 : ((k + 2 : Nat) : Int) - 2 = (k : Int) := by omega
  have w1 : IntKind.i64.wrap (((k + 2 : Nat) : Int) - 1) = ((k + 1 : Nat) : Int) := by rw [IntKind.wrap_i64]; omega
  have w2 : IntKind.i64.wrap (((k + 2 : Nat) : Int) - 2) = (k : Int) := by rw [IntKind.wrap_i64]; omega
  clear hqT hqt
  go_enter Tryz.func181, Tryz.ntmps181
  go_wp2_with fail
  go_quiet (fail)
  go_wp2_with fail
  obtain ⟨top, htop⟩ : ∃ top, p2 * 4294967296 + p1 = top := ⟨_, rfl⟩
  have hor : bits BinOp.or IntKind.u64 (p2 * 4294967296) p1 = top := by rw [or_low p2 p1 g20 (by omega) g10 g11, htop]
  have ht0 : 0 ≤ top := by omega
  have ht1 : top ≤ 18446744073709551615 := by omega
  have htf : top ≤ f * 4294967296 + 4294967295 := by
    have : p2 * 4294967296 ≤ f * 4294967296 := Int.mul_le_mul_of_nonneg_right g21 (by omega)
    omega
  have HTOP := Lib.hid htop
  have hw3 : IntKind.u64.wrap (p2 * 4294967296) = p2 * 4294967296 := by rw [IntKind.wrap_u64]; omega
  clear htop
  go_quiet (fail)
  go_wp2_with fail
  have hfn : ¬ f = 0 := by omega
  obtain ⟨D, hD⟩ : ∃ D, top / f = D := ⟨_, rfl⟩
  obtain ⟨R, hR⟩ : ∃ R, top % f = R := ⟨_, rfl⟩
  have hD2 : top.tdiv f = D := by rw [Int.tdiv_eq_ediv_of_nonneg ht0, hD]
  have hR2 : top.tmod f = R := by rw [Int.tmod_eq_emod_of_nonneg ht0, hR]
  have hm := Int.emod_add_mul_ediv top f
  rw [hD, hR] at hm
  have hR0 : 0 ≤ R := by rw [← hR]; exact Int.emod_nonneg _ hfn
  have hR1 : R < f := by rw [← hR]; exact Int.emod_lt_of_pos _ (by omega)
  have hD0 : 0 ≤ D := by rw [← hD]; exact Int.ediv_nonneg ht0 (by omega)
  have hqD : q ≤ D := by rw [← hD]; exact (Int.le_ediv_iff_mul_le (by omega)).2 (by rw [← HTOP.out]; exact HQt.out)
  have hD1 : D ≤ 4294967297 := by
    have h1 : f * D ≤ f * 4294967298 - 1 := by omega
    have h2 : f * D < f * 4294967298 := by omega
    have := lt_of_mul (show 0 < f by omega) h2
    omega
  have HDR : Hid (D * f + R = top) := Lib.hid (by rw [Int.mul_comm]; omega)
  clear hm hD hR
  go_quiet (fail)
  go_wp2_with fail
  go_loopw [9, 10] (fun dd rr wr => ∃ d r : Int, dd = .int .u64 d ∧ rr = .int .u64 r ∧ d * f + r = top ∧ 0 ≤ r ∧ r ≤ 4294967295 ∧ 0 ≤ d ∧ d ≤ 4294967297 ∧ q ≤ d ∧ ∃ m, wr = w.drewN m) (fun dd _ _ => (intOf dd).toNat)
  case atStart => exact ⟨D, R, rfl, rfl, HDR.out, hR0, by omega, hD0, hD1, hqD, _, by first | rfl | rw [World.drewN_drewN, World.drewN_drewN] | rw [World.drewN_drewN]⟩
  case round =>
    obtain ⟨d, r, rfl, rfl, heq, r0, r1, d0, d1, hqd, m, rfl⟩ := hrel
    have HEQ := Lib.hid heq
    clear heq hD2 hR2 hR0 hR1 hD0 hqD hD1 HDR
    have hdf : f * d = top - r := by have := HEQ.out; rw [Int.mul_comm]; omega
    have HDF := Lib.hid hdf
    clear hdf
    -- what a step down asks and leaves
    have HDOWN : Hid (q ≤ d - 1 → 1 ≤ d ∧ (d - 1) * f + (r + f) = top ∧ (4294967296 ≤ r + f → d - 1 ≤ 4294967295 ∧ (d - 1) * (f * 4294967296 + s) ≤ (p2 * 4294967296 + p1) * 4294967296 + p0)) := Lib.hid (by
      intro hq
      have h1 : 1 ≤ d := by omega
      refine ⟨h1, by have := HEQ.out; rw [Int.sub_mul]; omega, fun hb => ?_⟩
      have hdl : d < 4294967297 := by
        have h2 : f * d < f * 4294967297 := by have := HDF.out; omega
        exact lt_of_mul (show 0 < f by omega) h2
      refine ⟨by omega, ?_⟩
      have h3 : (d - 1) * s ≤ 4294967296 * 4294967295 := Int.mul_le_mul (by omega) s1 s0 (by omega)
      have h4 : (d - 1) * (f * 4294967296 + s) = (top - (r + f)) * 4294967296 + (d - 1) * s := by
        have := HDF.out
        have e : (d - 1) * f = top - (r + f) := by rw [Int.sub_mul, Int.mul_comm d f]; omega
        rw [Int.mul_add, ← Int.mul_assoc, e]
      rw [HTOP.out, h4]
      omega)
    have hcast : ∀ v : Int, 0 ≤ v → v ≤ 4294967295 → v % 4294967296 = v := fun v h1 h2 => Int.emod_eq_of_lt h1 (by omega)
    have HCAST := Lib.hid hcast
    clear hcast
    by_cases hbig : 4294967296 ≤ d
    · obtain ⟨k1, k2, k3⟩ := HDOWN.out (by omega)
      have HK2 := Lib.hid k2
      have HK3 := Lib.hid k3
      clear k2 k3 HDOWN
      by_cases hbr : 4294967296 ≤ r + f
      · go_wp2_with fail
        go_ret
        obtain ⟨h1, h2⟩ := HK3.out hbr
        exact ⟨d - 1, m, by first | rfl | exact ret_int (HCAST.out _ (by omega) h1), rfl, by omega, h1, by omega, h2⟩
      · go_wp2_with fail
        go_roundw
        case rel => exact ⟨d - 1, r + f, rfl, rfl, HK2.out, by omega, by omega, by omega, by omega, by omega, m, rfl⟩
        case measure => simp [intOf]; omega
    · obtain ⟨P, hP⟩ : ∃ P, d * s = P := ⟨_, rfl⟩
      have hP0 : 0 ≤ P := by rw [← hP]; exact Int.mul_nonneg d0 s0
      have hP1 : P ≤ 4294967295 * 4294967295 := by rw [← hP]; exact Int.mul_le_mul (by omega) s1 s0 (by omega)
      obtain ⟨E, hE⟩ : ∃ E, r * 4294967296 + p0 = E := ⟨_, rfl⟩
      have hor2 : bits BinOp.or IntKind.u64 (r * 4294967296) p0 = E := by rw [or_low r p0 r0 r1 g00 g01, hE]
      have hw4 : IntKind.u64.wrap (r * 4294967296) = r * 4294967296 := by rw [IntKind.wrap_u64]; omega
      have hw5 : IntKind.u64.wrap P = P := by rw [IntKind.wrap_u64]; omega
      have HW : Hid (d * (f * 4294967296 + s) - ((p2 * 4294967296 + p1) * 4294967296 + p0) = P - E) := Lib.hid (by
        rw [HTOP.out, Int.mul_add, ← Int.mul_assoc, hP, ← hE]
        have := HEQ.out
        have e : d * f = top - r := by omega
        rw [e]; omega)
      have HE := Lib.hid hE
      have hPb : P ≤ 18446744065119617025 := hP1
      clear hE hP1
      by_cases hgt : E < P
      · have hq1' : q ≤ d - 1 := by
          have := q_lt (d := d) HQT.out (by have := HW.out; omega) (by omega)
          omega
        obtain ⟨k1, k2, k3⟩ := HDOWN.out hq1'
        have HK2 := Lib.hid k2
        have HK3 := Lib.hid k3
        clear k2 k3 HDOWN
        by_cases hbr : 4294967296 ≤ r + f
        · go_wp2_with fail
          go_ret
          obtain ⟨h1, h2⟩ := HK3.out hbr
          exact ⟨d - 1, m, by first | rfl | exact ret_int (HCAST.out _ (by omega) h1), rfl, by omega, h1, by omega, h2⟩
        · go_wp2_with fail
          go_roundw
          case rel => exact ⟨d - 1, r + f, rfl, rfl, HK2.out, by omega, by omega, by omega, by omega, by omega, m, rfl⟩
          case measure => simp [intOf]; omega
      · go_wp2_with fail
        go_ret
        exact ⟨d, m, by first | rfl | exact ret_int (HCAST.out _ (by omega) (by omega)), rfl, d0, by omega, hqd, by have := HW.out; omega⟩

theorem top_form {ds : List Int} {k : Nat} (ld : Lim ds) (hl : ds.length = k + 2) : ∃ P f s v : Int, P = 4294967296 ^ k ∧ ds.getD (k + 1) 0 = f ∧ ds.getD k 0 = s ∧ 0 < P ∧ 0 ≤ v ∧ v < P ∧ val ds = v + P * (f * 4294967296 + s) := by
  refine ⟨_, _, _, val (ds.take k), rfl, rfl, rfl, pow_pos k, val_nonneg (Lim_take ld k), ?_, two_top hl⟩
  have := val_lt (Lim_take ld k)
  rwa [List.length_take, Nat.min_eq_left (by omega)] at this

/-- guess: the digit, or 1 more. -/
def RetDigit (w : World) (q : Int) (e : Ending) (w' : World) : Prop := ∃ d m, e = .returned (.int .u32 d) ∧ w' = w.drewN m ∧ 0 ≤ d ∧ d ≤ 4294967295 ∧ (d = q ∨ d = q + 1)

theorem guess_any (w : World) (ga ia k pc : Nat) (gb ib dc : Nat) (ps ds : List Int)
    (hp : Sl w (some ⟨ga, ia, none⟩) (k + 3) pc ps) (lp : Lim ps) (hd : Sl w (some ⟨gb, ib, none⟩) (k + 2) dc ds) (ld : Lim ds) (hk : k ≤ 1073741824) (hf : 2147483648 ≤ ds.getD (k + 1) 0) (hU : val ps < val ds * 4294967296) :
    Calls Tryz.prog 181 #[.slice (some ⟨ga, ia, none⟩) (k + 3) pc, .slice (some ⟨gb, ib, none⟩) (k + 2) dc] w (RetDigit w (val ps / val ds)) := by
  obtain ⟨P, f, s, v, hP, hff, hss, hP0, v0, v1, hV⟩ := top_form ld hd.len
  have h3 := three_top hp.len
  rw [← hP] at h3
  have u0 := val_nonneg (Lim_take lp k)
  have u1 := val_lt (Lim_take lp k)
  rw [List.length_take, hp.len, Nat.min_eq_left (by omega), ← hP] at u1
  have bf := Lim_getD ld (k + 1)
  have bs := Lim_getD ld k
  have b2 := Lim_getD lp (k + 2)
  have b1 := Lim_getD lp (k + 1)
  have b0 := Lim_getD lp k
  have hU0 := val_nonneg lp
  obtain ⟨p2, e2⟩ : ∃ x, ps.getD (k + 2) 0 = x := ⟨_, rfl⟩
  obtain ⟨p1, e1⟩ : ∃ x, ps.getD (k + 1) 0 = x := ⟨_, rfl⟩
  obtain ⟨p0, e0⟩ : ∃ x, ps.getD k 0 = x := ⟨_, rfl⟩
  obtain ⟨u, eu⟩ : ∃ x, val (ps.take k) = x := ⟨_, rfl⟩
  obtain ⟨U, hUU⟩ : ∃ x, val ps = x := ⟨_, rfl⟩
  obtain ⟨V, hVV⟩ : ∃ x, val ds = x := ⟨_, rfl⟩
  rw [hff] at bf hf
  rw [hss] at bs
  rw [e2] at b2 h3
  rw [e1] at b1 h3
  rw [e0] at b0 h3
  rw [eu] at u0 u1 h3
  rw [hUU] at hU hU0 h3
  rw [hVV] at hU hV
  have W0 : 0 < f * 4294967296 + s := by omega
  have hPW : P * 1 ≤ P * (f * 4294967296 + s) := Int.mul_le_mul_of_nonneg_left (by omega) (by omega)
  have hV0 : 0 < V := by omega
  have hVlo : P * (f * 4294967296 + s) ≤ V := by omega
  have hVhi : V ≤ P * (f * 4294967296 + s + 1) := by rw [Int.mul_add]; omega
  have hUlo : P * ((p2 * 4294967296 + p1) * 4294967296 + p0) ≤ U := by omega
  have hUhi : U < P * ((p2 * 4294967296 + p1) * 4294967296 + p0 + 1) := by rw [Int.mul_add P _ 1]; omega
  obtain ⟨q, hq⟩ : ∃ q, U / V = q := ⟨_, rfl⟩
  have hqV : q * V ≤ U := by rw [← hq]; exact Int.ediv_mul_le U (by omega)
  have hq0 : 0 ≤ q := by rw [← hq]; exact Int.ediv_nonneg hU0 (by omega)
  have hq1 : q ≤ 4294967295 := by
    have : U / V < 4294967296 := Int.ediv_lt_of_lt_mul hV0 (by rw [Int.mul_comm]; exact hU)
    omega
  have hp2 : p2 ≤ f := by
    have h1 : P * ((p2 * 4294967296 + p1) * 4294967296 + p0) < P * ((f * 4294967296 + s + 1) * 4294967296) := by
      have : V * 4294967296 ≤ P * (f * 4294967296 + s + 1) * 4294967296 := Int.mul_le_mul_of_nonneg_right hVhi (by omega)
      rw [Int.mul_assoc] at this
      omega
    have h2 := lt_of_mul hP0 h1
    omega
  have hqT := q_top hqV hq0 hP0 hVlo hUhi
  have hqt : q * f ≤ p2 * 4294967296 + p1 := by
    refine q_top (P := P * 4294967296) hqV hq0 (by omega) ?_ ?_
    · have e : P * 4294967296 * f = P * (f * 4294967296) := by rw [Int.mul_assoc, Int.mul_comm 4294967296 f]
      rw [e]
      have : P * (f * 4294967296) ≤ P * (f * 4294967296 + s) := Int.mul_le_mul_of_nonneg_left (by omega) (by omega)
      omega
    · have e : P * 4294967296 * (p2 * 4294967296 + p1 + 1) = P * ((p2 * 4294967296 + p1 + 1) * 4294967296) := by rw [Int.mul_assoc, Int.mul_comm 4294967296]
      rw [e]
      have : P * ((p2 * 4294967296 + p1) * 4294967296 + p0 + 1) ≤ P * ((p2 * 4294967296 + p1 + 1) * 4294967296) := Int.mul_le_mul_of_nonneg_left (by omega) (by omega)
      omega
  rw [hUU, hVV, hq]
  refine (guess_walk w ga ia k pc gb ib dc ps ds f s p2 p1 p0 q hp hd (by omega) hff hss e2 e1 e0 ⟨hf, bf.2⟩ bs ⟨b2.1, hp2⟩ b1 b0 hq0 hq1 hqT hqt).mono ?_
  rintro e w' ⟨d, m, rfl, rfl, d0, d1, hqd, hdT⟩
  have hd1 := d_ok hV0 hdT d0 (by omega) hP0 hVhi hUlo hU0
  rw [hq] at hd1
  exact ⟨d, m, rfl, rfl, d0, d1, by omega⟩

theorem Same.take {a b : List Int} {i k : Nat} (h : Same a b i k) : b.take i = a.take i := by
  apply List.ext_getElem (by rw [List.length_take, List.length_take, h.1])
  intro j h1 h2
  rw [List.length_take] at h1 h2
  rw [List.getElem_take, List.getElem_take]
  have := h.2 j (.inl (by omega))
  rwa [getD_lt (by omega), getD_lt (by omega)] at this

theorem Same.drop {a b : List Int} {i k : Nat} (h : Same a b i k) : b.drop (i + k) = a.drop (i + k) := by
  apply List.ext_getElem (by rw [List.length_drop, List.length_drop, h.1])
  intro j h1 h2
  rw [List.length_drop] at h1 h2
  rw [List.getElem_drop, List.getElem_drop]
  have := h.2 (i + k + j) (.inr (by omega))
  rwa [getD_lt (by omega), getD_lt (by omega)] at this

theorem Same.trans {a b c : List Int} {i k : Nat} (h : Same a b i k) (h2 : Same b c i k) : Same a c i k := ⟨h2.1.trans h.1, fun j hj => (h2.2 j hj).trans (h.2 j hj)⟩

theorem drop_seg {R : List Int} {i k : Nat} (h : i + k ≤ R.length) : val (R.drop i) = val (seg R i k) + 4294967296 ^ k * val (R.drop (i + k)) := by
  have := val_split (R.drop i) k
  rw [List.length_take, List.length_drop, Nat.min_eq_left (by omega), List.drop_drop] at this
  exact this

/-- The rest above a place is less than the divisor: there is nothing beyond m limbs of it. -/
theorem rest_top {R : List Int} {i m : Nat} {V : Int} (lR : Lim R) (h : i + 1 + m ≤ R.length) (hV : V < 4294967296 ^ m) (hlt : val (R.drop (i + 1)) < V) :
    val (R.drop (i + (m + 1))) = 0 ∧ val (R.drop i) = val (seg R i (m + 1)) ∧ val (seg R i (m + 1)) < V * 4294967296 := by
  have h1 := drop_seg (R := R) (i := i + 1) (k := m) h
  have h2 := drop_seg (R := R) (i := i) (k := m + 1) (by omega)
  have e : i + 1 + m = i + (m + 1) := by omega
  rw [e] at h1
  have n1 := val_nonneg (seg_lim lR (i + 1) m)
  have n2 := val_nonneg (Lim_drop lR (i + (m + 1)))
  have hz : val (R.drop (i + (m + 1))) = 0 := by
    rcases Int.lt_or_eq_of_le n2 with h3 | h3
    · exfalso
      have : 4294967296 ^ m * 1 ≤ 4294967296 ^ m * val (R.drop (i + (m + 1))) := Int.mul_le_mul_of_nonneg_left (by omega) (Int.le_of_lt (pow_pos m))
      omega
    · exact h3.symm
  refine ⟨hz, by rw [h2, hz]; omega, ?_⟩
  have h3 : val (R.drop i) = R.getD i 0 + 4294967296 * val (R.drop (i + 1)) := by rw [drop_getD (by omega)]; simp [val]
  have h4 := Lim_getD lR i
  rw [hz, Int.mul_zero, Int.add_zero] at h2
  omega

/-- One step of long division. -/
theorem long_step {R R' Q : List Int} {i m : Nat} {V A : Int} (lR : Lim R) (h : i + 1 + m ≤ R.length) (hi : i < Q.length) (hV0 : 0 < V) (hV : V < 4294967296 ^ m) (hlt : val (R.drop (i + 1)) < V) (hA : val R + V * (4294967296 ^ (i + 1) * val (Q.drop (i + 1))) = A)
    (hs : Same R R' i (m + 1)) (hr : val (seg R' i (m + 1)) = val (seg R i (m + 1)) % V) :
    val R' + V * (4294967296 ^ i * val ((Q.set i (val (seg R i (m + 1)) / V)).drop i)) = A ∧ val (R'.drop i) < V := by
  obtain ⟨hz, hU, -⟩ := rest_top lR h hV hlt
  have h2 := drop_seg (R := R') (i := i) (k := m + 1) (by rw [hs.1]; omega)
  rw [hs.drop, hz, Int.mul_zero, Int.add_zero, hr] at h2
  refine ⟨?_, by rw [h2]; exact Int.emod_lt_of_pos _ hV0⟩
  have h3 := val_split R i
  have h4 := val_split R' i
  rw [List.length_take, Nat.min_eq_left (by omega)] at h3
  rw [List.length_take, hs.1, Nat.min_eq_left (by omega), hs.take] at h4
  have h5 : (Q.set i (val (seg R i (m + 1)) / V)).drop i = (val (seg R i (m + 1)) / V) :: Q.drop (i + 1) := by
    rw [List.drop_eq_getElem_cons (by rw [List.length_set]; exact hi), List.getElem_set_self, List.drop_set_of_lt (by omega)]
  rw [h5]
  simp only [val]
  rw [h4, h2, ← hA, h3, hU, Int.pow_succ]
  have := Int.emod_add_mul_ediv (val (seg R i (m + 1))) V
  grind

theorem digit_right {U V M d q : Int} (hU0 : 0 ≤ U) (hV0 : 0 < V) (hq : U / V = q) (hd : d = q ∨ d = q + 1) (hVM : V ≤ M) (hn : ¬ U < d * V) : d = q ∧ (U - d * V) % M = U % V := by
  have h1 := Int.emod_add_mul_ediv U V
  have h2 := Int.emod_lt_of_pos U hV0
  have h3 := Int.emod_nonneg U (show V ≠ 0 by omega)
  rw [hq] at h1
  rcases hd with rfl | rfl
  · refine ⟨rfl, ?_⟩
    rw [show U - d * V = U % V by rw [Int.mul_comm d V]; omega, Int.emod_eq_of_lt h3 (by omega)]
  · exfalso
    apply hn
    rw [Int.add_mul, Int.mul_comm q V]
    omega

theorem digit_more {U V M d q : Int} (hU0 : 0 ≤ U) (hV0 : 0 < V) (hq : U / V = q) (hd : d = q ∨ d = q + 1) (hVM : V ≤ M) (hn : U < d * V) : d - 1 = q ∧ ((U - d * V) % M + V) % M = U % V := by
  have h1 := Int.emod_add_mul_ediv U V
  have h2 := Int.emod_lt_of_pos U hV0
  have h3 := Int.emod_nonneg U (show V ≠ 0 by omega)
  rw [hq] at h1
  rcases hd with rfl | rfl
  · exfalso
    rw [Int.mul_comm d V] at hn
    omega
  · refine ⟨by omega, ?_⟩
    rw [Int.emod_add_emod, show U - (q + 1) * V + V = U % V by rw [Int.add_mul, Int.mul_comm q V]; omega, Int.emod_eq_of_lt h3 (by omega)]

theorem lz32_any (w : World) (d p : Nat) (h : d < 4294967296) (hp : p + blen d = 32) : Calls Tryz.prog 177 #[.int .u32 (d : Int)] w fun e w' => e = .returned (.int .i64 (p : Int)) ∧ w = w' := by
  have HL := Lib.hid (len32_any w d h)
  obtain ⟨b, hb⟩ : ∃ b, blen d = b := ⟨_, rfl⟩
  rw [hb] at HL hp
  go_enter Tryz.func177, Tryz.ntmps177
  go_wp2_with fail
  refine HL.out.mono ?_
  rintro e w' ⟨rfl, rfl⟩
  go_wp2_with fail
  go_ret
  exact ⟨by go_num, rfl⟩

theorem blen_mul {v s : Nat} (h : 0 < v) : blen (v * 2 ^ s) = blen v + s := by
  have h1 : 2 ^ s ≤ v * 2 ^ s := by
    have := Nat.mul_le_mul_right (2 ^ s) h
    omega
  rw [blen_div (v * 2 ^ s) s h1, Nat.mul_div_cancel _ (Nat.two_pow_pos s)]

/-- Moved up by its leading zeros a number has as many limbs as before, and the top one has its top bit. -/
theorem norm_top {ys ds : List Int} {k s : Nat} (ly : Lim ys) (ty : Top ys) (hl : ys.length = k + 1) (ld : Lim ds) (td : Top ds) (hs : s + blen (ys.getD k 0).toNat = 32) (hv : val ds = val ys * 2 ^ s) :
    ds.length = k + 1 ∧ 2147483648 ≤ ds.getD k 0 ∧ val ds < 4294967296 ^ (k + 1) := by
  have hne : ys ≠ [] := by intro h; rw [h] at hl; simp at hl
  have hb := blen_val ly ty hne
  rw [hl, Nat.add_sub_cancel] at hb
  have hvp := val_pos_of_top ly ty hne
  have hp := pow_pos (ys.length - 1)
  have hv0 : 0 < val ys := by omega
  obtain ⟨v, hvn⟩ : ∃ v : Nat, val ys = v := ⟨(val ys).toNat, by omega⟩
  have hd0 : val ds = ((v * 2 ^ s : Nat) : Int) := by rw [hv, hvn]; simp
  have hbd : blen (val ds).toNat = blen (val ys).toNat + s := by
    rw [hd0, hvn, Int.toNat_natCast, Int.toNat_natCast]
    exact blen_mul (by omega)
  have hdn : ds ≠ [] := by
    intro h
    rw [h] at hv
    simp [val] at hv
    have : 0 < val ys * 2 ^ s := Int.mul_pos hv0 (Int.pow_pos (by omega))
    omega
  have hb2 := blen_val ld td hdn
  have ht0 : ds.getD (ds.length - 1) 0 ≠ 0 := by rcases td with h | h; exact absurd h hdn; exact h
  have hlim := Lim_getD ld (ds.length - 1)
  obtain ⟨t, ht⟩ : ∃ t : Nat, ds.getD (ds.length - 1) 0 = t := ⟨(ds.getD (ds.length - 1) 0).toNat, by omega⟩
  rw [ht, Int.toNat_natCast] at hb2
  rw [ht] at ht0 hlim
  have h1 : blen t ≤ 32 := blen_le_iff.2 (by omega)
  have h2 : ¬ blen t ≤ 0 := by rw [blen_le_iff]; omega
  have hlen : ds.length = k + 1 := by omega
  have h3 : blen t = 32 := by omega
  have h4 := blen_ge (v := t) (by omega)
  rw [h3] at h4
  refine ⟨hlen, ?_, ?_⟩
  · rw [hlen, Nat.add_sub_cancel] at ht
    omega
  · have := val_lt ld
    rwa [hlen] at this

theorem start_top {R : List Int} {n m : Nat} {X P V : Int} (lR : Lim R) (hl : R.length = n + 1) (hm : 1 ≤ m) (hmn : m ≤ n) (hP : 0 < P) (hA : val R = X * P) (hX : X < 4294967296 ^ n) (hV : 4294967296 ^ (m - 1) * P ≤ V) : val (R.drop (n - m + 1)) < V := by
  apply Int.not_le.1
  intro h
  have hs := val_split R (n - m + 1)
  rw [List.length_take, Nat.min_eq_left (by omega)] at hs
  have h0 := val_nonneg (Lim_take lR (n - m + 1))
  have h1 : 4294967296 ^ (n - m + 1) * (4294967296 ^ (m - 1) * P) ≤ 4294967296 ^ (n - m + 1) * val (R.drop (n - m + 1)) := Int.mul_le_mul_of_nonneg_left (by omega) (Int.le_of_lt (pow_pos _))
  rw [← Int.mul_assoc, ← Int.pow_add, show n - m + 1 + (m - 1) = n by omega] at h1
  have h2 : X * P < 4294967296 ^ n * P := Int.mul_lt_mul_of_pos_right hX hP
  omega

theorem Mine.seg {B : Nat} {w : World} {g : Nat} {R : List Int} (h : Mine B w g R) (hm : R.length ≤ maxLen) {i l : Nat} (hl : i + l ≤ R.length) : Sl w (some ⟨g, i, none⟩) l (R.length - i) (seg R i l) := by
  refine ⟨seg_len hl, by omega, by omega, by simp, .inr ⟨g, i, rfl, fun j hj => ?_⟩⟩
  rw [seg_len hl] at hj
  rw [(h.cell (i + j) (by omega)).1]
  unfold Go.Proofs.YtdfepdhflnnjpaaGreat.seg
  have e : ((R.drop i).take l).getD j 0 = (R.drop i).getD j 0 := by simp [List.getD, hj]
  rw [e, getD_drop]

theorem quot_end {X Y P R Q : Int} (hP : 0 < P) (hY : 0 < Y) (h : R + Y * P * Q = X * P) (h0 : 0 ≤ R) (h1 : R < Y * P) : Q = X / Y ∧ R / P = X % Y := by
  have hv : 0 < Y * P := Int.mul_pos hY hP
  have e1 : X * P / (Y * P) = Q := by
    rw [← h, Int.add_mul_ediv_left _ _ (by omega), Int.ediv_eq_zero_of_lt h0 h1, Int.zero_add]
  rw [Int.mul_ediv_mul_of_pos_left _ _ hP] at e1
  have e2 := Int.emod_add_mul_ediv X Y
  rw [e1] at e2
  have e3 : R = X % Y * P := by
    rw [show X % Y = X - Y * Q by omega, Int.sub_mul, ← h]
    grind
  exact ⟨e1.symm, by rw [e3, Int.mul_ediv_cancel _ (by omega)]⟩

theorem guess_at (w : World) (ga ia m pc : Nat) (gb ib dc : Nat) (ps ds : List Int) (hm : 2 ≤ m) (hp : Sl w (some ⟨ga, ia, none⟩) (m + 1) pc ps) (lp : Lim ps) (hd : Sl w (some ⟨gb, ib, none⟩) m dc ds) (ld : Lim ds) (hk : m ≤ 1073741824) (hf : 2147483648 ≤ ds.getD (m - 1) 0) (hU : val ps < val ds * 4294967296) :
    Calls Tryz.prog 181 #[.slice (some ⟨ga, ia, none⟩) (m + 1) pc, .slice (some ⟨gb, ib, none⟩) m dc] w (RetDigit w (val ps / val ds)) := by
  obtain ⟨k, rfl⟩ : ∃ k, m = k + 2 := ⟨m - 2, by omega⟩
  exact guess_any w ga ia k pc gb ib dc ps ds hp lp hd ld (by omega) hf hU

theorem shiftDown_trm (B : Nat) (w : World) (g c n p : Nat) (R : List Int) (h : Own B w (some ⟨g, 0, none⟩) n c R) (lR : Lim R) (hn : n ≤ 4294967296) (hp : p < 32) :
    Calls Tryz.prog 172 #[.slice (some ⟨g, 0, none⟩) (tl R n) c, .int .i64 (p : Int)] w (RetNat w (val R / 2 ^ p) n) := by
  have ht := tl_le R n
  have hs := (h.trimmed (tl R n) ht).sl
  have hv := tl_val R n
  have hl := h.sl.len
  rw [List.take_of_length_le (by omega : R.length ≤ n)] at hv
  by_cases h0 : tl R n = 0
  · rw [h0] at hv ⊢
    simp only [List.take_zero, val] at hv
    refine (shiftDown_far w _ 0 c (p : Int) (by omega) (by omega) (by omega)).mono ?_
    rintro e w' ⟨a, n1, c1, zs, rfl, h1, h2, h3, h4, h5, h6⟩
    exact ⟨a, n1, c1, zs, rfl, h1, h2, h3, by rw [h4, ← hv]; simp, by omega, h6⟩
  · have := shiftDown_any w _ (tl R n) c _ 0 p hs (Lim_take lR _) (by omega) (by omega) hp
    rw [Nat.mul_zero, Nat.zero_add, hv] at this
    refine this.mono ?_
    rintro e w' ⟨a, n1, c1, zs, rfl, h1, h2, h3, h4, h5, h6⟩
    exact ⟨a, n1, c1, zs, rfl, h1, h2, h3, h4, by omega, h6⟩

set_option maxRecDepth 100000 in
set_option maxHeartbeats 1000000 in
theorem divideLong_any (w : World) (ao bo : Option Addr) (n m capa capb : Nat) (xs ys : List Int) (hx : Sl w ao n capa xs) (hy : Sl w bo m capb ys) (lx : Lim xs) (ly : Lim ys) (ty : Top ys) (hn : n ≤ 1073741824) (hm : 2 ≤ m) (hmn : m ≤ n) :
    Calls Tryz.prog 169 #[.slice ao n capa, .slice bo m capb] w (RetDiv w (val xs / val ys) (val xs % val ys) (n - m + 1) (n + 1)) := by
  obtain ⟨gb, ob, rfl, hcb⟩ := hy.cells.at (k := m - 1) (by rw [hy.len]; omega)
  have hyl := hy.len
  have ht0 : ys.getD (m - 1) 0 ≠ 0 := by
    rcases ty with h | h
    · rw [h] at hyl; simp at hyl; omega
    · rwa [hyl] at h
  have hlt := Lim_getD ly (m - 1)
  obtain ⟨t, ht⟩ : ∃ t : Nat, ys.getD (m - 1) 0 = t := ⟨(ys.getD (m - 1) 0).toNat, by omega⟩
  rw [ht] at hcb ht0 hlt
  have hb1 : blen t ≤ 32 := blen_le_iff.2 (by omega)
  have hb2 : ¬ blen t ≤ 0 := by rw [blen_le_iff]; omega
  obtain ⟨p, hp⟩ : ∃ p, p + blen t = 32 := ⟨32 - blen t, by omega⟩
  have hp31 : p ≤ 31 := by omega
  have HLZ : Hid (∀ w1, Calls Tryz.prog 177 #[.int .u32 (t : Int)] w1 fun e w' => e = .returned (.int .i64 (p : Int)) ∧ w1 = w') := Lib.hid (fun w1 => lz32_any w1 t p (by omega) hp)
  have HUB : Hid (∀ w', Below w.heap.size w w' → Calls Tryz.prog 171 #[.slice (some ⟨gb, ob, none⟩) m capb, .int .i64 (p : Int)] w' (RetNat w' (val ys * 2 ^ p) (m + 1))) := Lib.hid (fun w' hb => by
    have := shiftUp_any w' _ m capb ys 0 p (hy.below hb) ly (by omega) (by omega) (by omega) (by omega)
    simpa using this)
  have HUA : Hid (∀ w', Below w.heap.size w w' → Calls Tryz.prog 171 #[.slice ao n capa, .int .i64 (p : Int)] w' (RetNat w' (val xs * 2 ^ p) (n + 1))) := Lib.hid (fun w' hb => by
    have := shiftUp_any w' _ n capa xs 0 p (hx.below hb) lx (by omega) (by omega) (by omega) (by omega)
    simpa using this)
  have HNT : Hid (∀ ds, Lim ds → Top ds → val ds = val ys * 2 ^ p → ds.length = m ∧ 2147483648 ≤ ds.getD (m - 1) 0 ∧ val ds < 4294967296 ^ m) := Lib.hid (fun ds ld td hv => by
    obtain ⟨k, rfl⟩ : ∃ k, m = k + 1 := ⟨m - 1, by omega⟩
    exact norm_top ly ty hyl ld td (by rw [Nat.add_sub_cancel] at ht; rw [ht, Int.toNat_natCast]; exact hp) hv)
  have hcy : capb ≤ 9223372036854775807 ∧ m ≤ capb := ⟨by have := hy.most; unfold maxLen at this; omega, hy.le⟩
  obtain ⟨hcy1, hcy2⟩ := hcy
  have hm1 : (m : Int) - 1 = ((m - 1 : Nat) : Int) := by omega
  obtain ⟨i0, hi, hz0, hz1, hz2⟩ := info_parts info_u32
  have hinf : (Tryz.prog.info? 138).map (·.size) = some 1 := by rw [hi]; simp [hz1]
  have HYL := Lib.hid hyl
  have HX := Lib.hid hx
  have hmi : (1 : Int) ≤ (m : Int) := by omega
  have hmni : (m : Int) ≤ (n : Int) := by omega
  obtain ⟨m1, hm1'⟩ : ∃ m1 : Nat, m = m1 + 1 := ⟨m - 1, by omega⟩
  rw [show m - 1 = m1 by omega] at hcb
  have hmm : ((m : Int) - 1) = (m1 : Int) := by omega
  have hmmt : ((m : Int) - 1).toNat = m1 := by omega
  have hmml : (m1 : Int) < (m : Int) := by omega
  have HM1 := Lib.hid hm1'
  have HW := Lib.hid hm1
  clear hm1' hm1
  have hyp := val_pos_of_top ly ty (by intro h; rw [h] at hyl; simp at hyl; omega)
  rw [hyl] at hyp
  have hP0 : (0 : Int) < 2 ^ p := Int.pow_pos (by omega)
  have hy0 : 0 < val ys := by have := pow_pos (m - 1); omega
  have HST : Hid (∀ R, Lim R → R.length = n + 1 → val R = val xs * 2 ^ p → val (R.drop (n - m + 1)) < val ys * 2 ^ p) := Lib.hid (fun R lR hl hA => by
    have h1 := val_lt lx
    rw [hx.len] at h1
    exact start_top lR hl (by omega) hmn hP0 hA h1 (Int.mul_le_mul_of_nonneg_right hyp (by omega)))
  have HP0 := Lib.hid hP0
  have HY0 := Lib.hid hy0
  clear hx hy hp hb1 hb2 ht hyl ht0 hlt hyp hP0 hy0
  go_enter Tryz.func169, Tryz.ntmps169
  go_wp2_with fail
  refine (HLZ.out _).mono ?_
  rintro e w' ⟨rfl, rfl⟩
  go_wp2_with fail
  refine (HUB.out _ (by go_grown)).mono ?_
  rintro e w1 ⟨dao, dn, dc, ds, rfl, hown, ld, td, hdv, -, hb1⟩
  obtain ⟨hdl, hd31, hdV⟩ := HNT.out ds ld td hdv
  have hsl := hown.sl
  obtain rfl : dn = m := by rw [← hsl.len]; exact hdl
  obtain ⟨gd, od, rfl, -⟩ := hsl.cells.at (k := 0) (by omega)
  have HD := Lib.hid hsl
  have HDV := Lib.hid hdv
  have HDB := Lib.hid hdV
  have HD31 := Lib.hid hd31
  have HB1 := Lib.hid hb1
  clear hown hdv hdl hdV hsl hd31 hb1
  go_wp2_with (at_make; refine wpList_make_full _ rfl _ _ 22 rfl w1.heap.size 138 i0 (.int .u32 0) 1 Tryz.underlying22 hi hz0 hz1 _ _ _ _ (n + 1) rfl rfl (by omega) (by omega) (by rw [hz2]; omega) (by unfold maxLen; omega) (by simp) ?_)
  intro w2 hown hgrow
  have hm1 := made_mine (n := n + 1) (by simpa using hown)
  have hb2 : Below w1.heap.size w1 w2 := Below.grown (.refl _ _) hgrow (Nat.le_refl _) (by intro g hg; cases hg)
  have HM2 := Lib.hid hm1
  have HB2 := Lib.hid hb2
  have hsz2 := hgrow.size
  clear hown hgrow hm1 hb2
  go_wp2_with fail
  refine (HUA.out _ (HB1.out.trans (HB2.out.mono HB1.out.size))).mono ?_
  rintro e w3 ⟨ao2, n2, c2, zs2, rfl, hown2, lz2, tz2, hv2, hn2, hb3⟩
  have hsl2 := hown2.sl
  have hm3 : Mine w1.heap.size w3 w1.heap.size (List.replicate (n + 1) 0) := HM2.out.kept hb3
  have HROW := Lib.hid hm3.row
  have hl2 := hsl2.len
  obtain ⟨cs, hcs⟩ : ∃ cs, cs = zs2.map (Value.int .u32) := ⟨_, rfl⟩
  have hcl : cs.length = Nat.min n2 (n + 1) := by rw [hcs, List.length_map, hl2]; exact (Nat.min_eq_left hn2).symm
  have h1c : ∀ v ∈ cs, v.oneCell' = true := by rw [hcs]; exact ints_oneCell _ _
  have hpos : 0 < cs.length → ∃ ad, ao2 = some ad ∧ ∀ j v, cs[j]? = some v → w3.cell? (ad.add j) = some v := by
    intro hp
    rcases hsl2.cells with h | ⟨b, o, h1, h2⟩
    · rw [hcs, h] at hp; simp at hp
    · refine ⟨_, h1, fun j v hj => ?_⟩
      rw [hcs, List.getElem?_map] at hj
      obtain ⟨z, hz, rfl⟩ := Option.map_eq_some_iff.1 hj
      obtain ⟨hjl, rfl⟩ := List.getElem?_eq_some_iff.1 hz
      have := h2 j hjl
      rw [getD_lt hjl] at this
      rw [Addr.add_lit]
      exact this
  have hsz3 : w1.heap.size ≤ w3.heap.size := Nat.le_trans HB2.out.size hb3.size
  have hc2 : c2 ≤ 9223372036854775807 ∧ n2 ≤ c2 := ⟨by have := hsl2.most; unfold maxLen at this; omega, hsl2.le⟩
  obtain ⟨hc2a, hc2b⟩ := hc2
  have HCS := Lib.hid hcs
  have HCL := Lib.hid hcl
  have H1C := Lib.hid h1c
  have HPOS := Lib.hid hpos
  have HV2 := Lib.hid hv2
  have HL2 := Lib.hid hl2
  have HB3 : Hid (Below w1.heap.size w1 w3) := Lib.hid (HB2.out.trans (hb3.mono HB2.out.size))
  clear hcs hcl h1c hpos hv2 hl2 hsl2 hm3 hb3 hown2
  go_wp2_with (with_reducible refine wpList_copy_splice (o := ⟨some 31, _, _, _, _, _⟩) rfl (.tmp 27) (.tmp 30) 22 22 rfl 138 Tryz.underlying22 hinf _ _ _ _ _ _ rfl rfl (w1.heap.size) 0 _ 138 HROW.out cs HCL.out (fun hp => ⟨rfl, HPOS.out hp⟩) ?hf H1C.out (w1.heap.size) w3 (Below.refl _ _) (Nat.le_refl _) ?_)
  case hf =>
    have h2 := HCL.out
    have h3 : Nat.min n2 (n + 1) ≤ n + 1 := Nat.min_le_right _ _
    (try simp only [List.length_map, List.length_replicate])
    omega
  intro w4 hrow4 hb4
  have hb4' : Below w1.heap.size w1 w4 := HB3.out.trans hb4
  obtain ⟨R0, hR0⟩ : ∃ R0, zs2 ++ List.replicate (n + 1 - n2) 0 = R0 := ⟨_, rfl⟩
  have hm4 : Mine w1.heap.size w4 w1.heap.size R0 := by
    refine Mine.ofRow ?_ (Nat.le_refl _) ?_
    · have h1 := hrow4.out
      rw [h1, ← hR0]
      congr 3
      have e : (List.replicate (n + 1) (Value.int .u32 0)).drop (0 + (zs2.map (Value.int .u32)).length) = (List.replicate (n + 1 - n2) (0 : Int)).map (Value.int .u32) := by
        rw [List.map_replicate, List.drop_replicate, List.length_map, HL2.out]
        congr 1
        omega
      rw [HCS.out, splice, List.map_append, ← e]
      simp
    · rw [← hR0, List.length_append, List.length_replicate, HL2.out]; unfold maxLen; omega
  have hRl : Lim R0 := by rw [← hR0]; exact Lim_append lz2 (Lim_replicate _)
  have hRv : val R0 = val xs * 2 ^ p := by rw [← hR0, val_append, val_replicate, ← HV2.out]; omega
  have hRn : R0.length = n + 1 := by rw [← hR0, List.length_append, List.length_replicate, HL2.out]; omega
  have HM4 := Lib.hid hm4
  have HB4 := Lib.hid hb4'
  have HRV := Lib.hid hRv
  have HRN := Lib.hid hRn
  clear hrow4 hb4 hb4' hR0 hm4 hRv hRn HROW HCS HCL H1C HPOS HV2 HL2 HB3 lz2 tz2
  go_wp2_with (at_make; refine wpList_make_full _ rfl _ _ 22 rfl w4.heap.size 138 i0 (.int .u32 0) 1 Tryz.underlying22 hi hz0 hz1 _ _ _ _ (n - dn + 1) rfl rfl (by omega) (by omega) (by rw [hz2]; omega) (by unfold maxLen; omega) (by simp) ?_)
  intro w5 hown hgrow
  have hm5 := made_mine (n := n - dn + 1) (by simpa using hown)
  have hb5 : Below w4.heap.size w4 w5 := Below.grown (.refl _ _) hgrow (Nat.le_refl _) (by intro g hg; cases hg)
  have HQ := Lib.hid hm5
  have hm45 : Mine w1.heap.size w5 w1.heap.size R0 := HM4.out.kept hb5
  have hlt45 : w1.heap.size < w4.heap.size := by
    have := (HM4.out.cell 0 (by rw [HRN.out]; omega)).1
    exact World.block_lt_of_cell? w4 _ this
  have HM5 := Lib.hid hm45
  have HB5 : Hid (Below w1.heap.size w1 w5) := Lib.hid (HB4.out.trans (hb5.mono HB4.out.size))
  clear hown hgrow hm5 hb5 hm45
  go_wp2_with fail
  obtain ⟨V, hVd⟩ : ∃ V, val ds = V := ⟨_, rfl⟩
  have HVD := Lib.hid hVd
  have hV0 : 0 < V := by rw [← hVd, HDV.out]; exact Int.mul_pos HY0.out HP0.out
  have HV0 := Lib.hid hV0
  have hVB : V < 4294967296 ^ dn := by rw [← hVd]; exact HDB.out
  have HVB := Lib.hid hVB
  have HA := HRV.out
  have hs0 := HST.out R0 hRl HRN.out HRV.out
  rw [← HDV.out, hVd] at hs0
  have HS0 := Lib.hid hs0
  obtain ⟨A, hA⟩ : ∃ A, val xs * 2 ^ p = A := ⟨_, rfl⟩
  have HAA := Lib.hid hA
  rw [hA] at HA
  have HA0 := Lib.hid HA
  obtain ⟨g1, hg1⟩ : ∃ g, w1.heap.size = g := ⟨_, rfl⟩
  obtain ⟨g2, hg2⟩ : ∃ g, w4.heap.size = g := ⟨_, rfl⟩
  rw [hg1] at HM5 hlt45
  rw [hg2] at HQ hlt45
  try rw [hg1]
  try rw [hg2]
  have HG1 := Lib.hid hg1
  have HG2 := Lib.hid hg2
  clear hVd hV0 hVB HA hs0 hA hg1 hg2
  go_loopw [10, 11, 12] (fun ii _ _ wr => ∃ (j : Nat) (R Q : List Int), j ≤ n - dn + 1 ∧ ii = .int .i64 ((j : Int) - 1) ∧ R.length = n + 1 ∧ Q.length = n - dn + 1 ∧ Lim R ∧ Lim Q ∧
      val R + V * (4294967296 ^ j * val (Q.drop j)) = A ∧ val (R.drop j) < V ∧ Mine g1 wr g1 R ∧ Mine g2 wr g2 Q ∧ Below w1.heap.size w1 wr) (fun ii _ _ _ => (intOf ii + 1).toNat)
  case atStart =>
    refine ⟨n - dn + 1, R0, List.replicate (n - dn + 1) 0, Nat.le_refl _, by go_num, HRN.out, List.length_replicate, hRl, Lim_replicate _, ?_, HS0.out, HM5.out, HQ.out, HB5.out⟩
    rw [List.drop_of_length_le (by rw [List.length_replicate]; exact Nat.le_refl _)]
    simp only [val, Int.mul_zero, Int.add_zero]
    exact HA0.out
  case round =>
    obtain ⟨j, R, Q, hj, rfl, hRl', hQl, lR, lQ, hval, hlt, hmR, hmQ, hbel⟩ := hrel
    have HV := Lib.hid hval
    have HLT := Lib.hid hlt
    have HMR := Lib.hid hmR
    have HMQ := Lib.hid hmQ
    have HBL := Lib.hid hbel
    have HRL := Lib.hid hRl'
    have HQL := Lib.hid hQl
    clear hval hlt hmR hmQ hbel hRl' hQl HA0 HS0 HM5 HQ HB5 HB4 HB2 HM2 hRl
    rcases j with _ | i
    · rw [show (((0 : Nat) : Int) - 1) = -1 from rfl]
      have hmq : Own g2 wr (some ⟨g2, 0, none⟩) (n - dn + 1) (n - dn + 1) Q := by have := HMQ.out; unfold Mine at this; rwa [HQL.out] at this
      have hmr : Own g1 wr (some ⟨g1, 0, none⟩) (n + 1) (n + 1) R := by have := HMR.out; unfold Mine at this; rwa [HRL.out] at this
      have hq0 : w.heap.size ≤ g2 ∧ w.heap.size ≤ g1 := by have := HB1.out.size; rw [HG1.out] at this; omega
      have hend := quot_end (X := val xs) (Y := val ys) (P := 2 ^ p) (R := val R) (Q := val Q) HP0.out HY0.out (by
        have h1 := HV.out
        rw [Int.pow_zero, Int.one_mul, List.drop_zero, ← HAA.out, ← HVD.out, HDV.out] at h1
        exact h1) (val_nonneg lR) (by
        have h1 := HLT.out
        rwa [List.drop_zero, ← HVD.out, HDV.out] at h1)
      have HTQ := Lib.hid (trim_any wr (some ⟨g2, 0, none⟩) (n - dn + 1) (n - dn + 1) Q HQL.out (Nat.le_refl _) (by unfold maxLen; omega) hmq.sl.cells)
      have HTR := Lib.hid (trim_any wr (some ⟨g1, 0, none⟩) (n + 1) (n + 1) R HRL.out (Nat.le_refl _) (by unfold maxLen; omega) hmr.sl.cells)
      have HSD := Lib.hid (shiftDown_trm g1 wr g1 (n + 1) (n + 1) p R hmr lR (by omega) (by omega))
      have HOQ := Lib.hid hmq
      have HEND := Lib.hid hend
      have HQ0 := Lib.hid hq0
      clear hmq hmr hend hq0
      go_wp2_with fail
      refine HTQ.out.mono ?_
      rintro e w' ⟨rfl, rfl⟩
      go_wp2_with fail
      refine HTR.out.mono ?_
      rintro e w' ⟨rfl, rfl⟩
      go_wp2_with fail
      refine HSD.out.mono ?_
      rintro e w' ⟨a3, n3, c3, z3, rfl, hown3, lz3, tz3, hz3, hn3, hb3⟩
      have HOWN3 := Lib.hid hown3
      have HB3 := Lib.hid hb3
      have HZ3 := Lib.hid hz3
      clear hown3 hb3 hz3
      go_wp2_with fail
      go_ret2
      have ho := ((HOQ.out.trimmed (tl Q (n - dn + 1)) (tl_le _ _)).mono HQ0.out.1).kept HB3.out
      have hbw : Below w.heap.size w wr := HB1.out.trans (HBL.out.mono HB1.out.size)
      refine ⟨_, _, _, Q.take (tl Q (n - dn + 1)), _, _, _, z3, rfl, ho, Lim_take lQ _, ?_, ?_, tl_le _ _, HOWN3.out.mono hbw.size, lz3, tz3, ?_, hn3, hbw.trans (HB3.out.mono hbw.size)⟩
      · have := trm_top Q
        rwa [trm, HQL.out] at this
      · rw [tl_val, List.take_of_length_le (by rw [HQL.out]; exact Nat.le_refl _)]
        exact HEND.out.1
      · rw [HZ3.out]
        exact HEND.out.2
    · rw [show (((i + 1 : Nat) : Int) - 1) = (i : Int) by omega]
      have hin : (i : Int) + dn + 1 ≤ n + 1 := by omega
      go_wp2_with fail
      rw [show i + dn + 1 - i = dn + 1 by omega]
      obtain ⟨pc, hpc⟩ : ∃ pc, n + 1 - i = pc := ⟨_, rfl⟩
      have hpc1 : dn + 1 ≤ pc := by omega
      have hpc2 : pc ≤ 9223372036854775807 := by omega
      rw [hpc]
      have hsg := HMR.out.seg (i := i) (l := dn + 1) (by rw [HRL.out]; unfold maxLen; omega) (by rw [HRL.out]; omega)
      rw [HRL.out, hpc] at hsg
      clear hpc
      obtain ⟨hrz, hru, hrl⟩ := rest_top lR (i := i) (m := dn) (by rw [HRL.out]; omega) HVB.out HLT.out
      obtain ⟨U, hU⟩ : ∃ U, val (seg R i (dn + 1)) = U := ⟨_, rfl⟩
      have hU0 : 0 ≤ U := by rw [← hU]; exact val_nonneg (seg_lim lR _ _)
      have hgs := guess_at wr g1 i dn pc gd od dc (seg R i (dn + 1)) ds hm hsg (seg_lim lR _ _) (HD.out.below HBL.out) ld (by omega) HD31.out (by rw [HVD.out]; exact hrl)
      rw [hU, HVD.out] at hgs
      have HU := Lib.hid hU
      obtain ⟨q, hq⟩ : ∃ q, U / V = q := ⟨_, rfl⟩
      rw [hq] at hgs
      have HQD := Lib.hid hq
      have hqq : 0 ≤ q := by rw [← hq]; exact Int.ediv_nonneg hU0 (by have := HV0.out; omega)
      clear hsg hrz hru hrl hU hq
      refine hgs.mono ?_
      clear hgs
      rintro e w' ⟨d, mm, rfl, rfl, d0, d1, hdq⟩
      have HDQ := Lib.hid hdq
      clear hdq
      have hsub := subtract_any g1 w1 (wr.drewN mm) g1 i dn pc (some ⟨gd, od, none⟩) dc R ds d (HMR.out.kept (below_drewN (Below.refl _ _) mm)) lR (by rw [HRL.out]; omega) hpc1 hpc2 (by omega) HD.out ld (below_drewN HBL.out mm) (by rw [HG1.out]; exact Nat.le_refl _) d0 d1
      rw [HU.out, HVD.out] at hsub
      have hVM : V ≤ 4294967296 ^ (dn + 1) := by have h1 := HVB.out; have h2 := pow_le (show dn ≤ dn + 1 by omega); omega
      have HVM := Lib.hid hVM
      clear hVM
      by_cases hn : U < d * V
      · rw [decide_eq_true hn] at hsub
        obtain ⟨hd1, hr1⟩ := digit_more (M := 4294967296 ^ (dn + 1)) hU0 HV0.out HQD.out HDQ.out HVM.out hn
        have HR1 := Lib.hid hr1
        have hdd : 1 ≤ d := by omega
        have HN := Lib.hid hn
        have HSUB := Lib.hid hsub
        have HDD := Lib.hid hd1
        clear hsub hn hr1 hd1
        go_wp2_with fail
        refine HSUB.out.mono ?_
        rintro e w2' ⟨R1, rfl, hm1, hsm1, lR1, hv1, hb1, hap1⟩
        have hR1l : R1.length = n + 1 := by rw [hsm1.1]; exact HRL.out
        have hadd := addBack_any g1 w1 w2' g1 i dn pc (some ⟨gd, od, none⟩) dc R1 ds hm1 lR1 (by rw [hR1l]; omega) hpc1 hpc2 (by omega) HD.out ld hb1 (by rw [HG1.out]; exact Nat.le_refl _)
        rw [hv1, HVD.out, HR1.out] at hadd
        have HADD := Lib.hid hadd
        have HSM1 := Lib.hid hsm1
        have HAP1 := Lib.hid hap1
        clear hadd hsm1 hap1 hm1 hv1 hb1 hR1l lR1
        go_wp2_with fail
        refine HADD.out.mono ?_
        rintro e w3' ⟨R2, rfl, hm2, hsm2, lR2, hv2, hb2, hap2⟩
        have hmq : Mine g2 w3' g2 Q := Mine.apart (show Mine g2 (wr.drewN mm) g2 Q from Own.kept HMQ.out (below_drewN (Below.refl _ _) mm)) (HAP1.out.trans hap2) (by omega)
        have HSM := Lib.hid (HSM1.out.trans hsm2)
        have HM := Lib.hid hm2
        have HR2 := Lib.hid hv2
        have HB2 := Lib.hid hb2
        obtain ⟨hcell, hfrz⟩ := hmq.cell i (by rw [HQL.out]; omega)
        have HMQ2 := Lib.hid hmq
        have hiq : i < n - dn + 1 := by omega
        clear hmq hsm2 hm2 hv2 hb2 hap2
        go_wp2_with fail
        go_roundw
        case rel =>
          have hls := long_step (R' := R2) (Q := Q) lR (by rw [HRL.out]; omega) (by rw [HQL.out]; exact hiq) HV0.out HVB.out HLT.out HV.out HSM.out (by rw [HU.out]; exact HR2.out)
          rw [HU.out, HQD.out] at hls
          have hge : w1.heap.size ≤ g2 := by rw [HG1.out]; omega
          have hb3 : Below w1.heap.size w1 (w3'.setCell ⟨g2, i, none⟩ (.int .u32 q)) := HB2.out.setCell hge _
          rw [HDD.out]
          refine ⟨i, R2, Q.set i q, by omega, by go_num, by rw [HSM.out.1]; exact HRL.out, by rw [List.length_set]; exact HQL.out, lR2, Lim_set lQ _ hqq (by have := HDD.out; omega), hls.1, hls.2, ?_, HMQ2.out.set _ _, hb3⟩
          exact Mine.apart (g := g2) HM.out (Apart.set (Apart.refl _ _) _ _) (by omega)
        case measure => simp [intOf]
      · rw [decide_eq_false hn] at hsub
        obtain ⟨hd1, hr1⟩ := digit_right (M := 4294967296 ^ (dn + 1)) hU0 HV0.out HQD.out HDQ.out HVM.out hn
        have HR1 := Lib.hid hr1
        have HN := Lib.hid hn
        rw [hr1] at hsub
        have HSUB := Lib.hid hsub
        have HDD := Lib.hid hd1
        clear hsub hn hr1 hd1
        go_wp2_with fail
        refine HSUB.out.mono ?_
        rintro e w3' ⟨R2, rfl, hm2, hsm2, lR2, hv2, hb2, hap2⟩
        have hmq : Mine g2 w3' g2 Q := Mine.apart (show Mine g2 (wr.drewN mm) g2 Q from Own.kept HMQ.out (below_drewN (Below.refl _ _) mm)) hap2 (by omega)
        have HSM := Lib.hid hsm2
        have HM := Lib.hid hm2
        have HR2 := Lib.hid hv2
        have HB2 := Lib.hid hb2
        obtain ⟨hcell, hfrz⟩ := hmq.cell i (by rw [HQL.out]; omega)
        have HMQ2 := Lib.hid hmq
        have hiq : i < n - dn + 1 := by omega
        clear hmq hsm2 hm2 hv2 hb2 hap2
        go_wp2_with fail
        go_roundw
        case rel =>
          have hls := long_step (R' := R2) (Q := Q) lR (by rw [HRL.out]; omega) (by rw [HQL.out]; exact hiq) HV0.out HVB.out HLT.out HV.out HSM.out (by rw [HU.out]; exact HR2.out)
          rw [HU.out, HQD.out] at hls
          have hge : w1.heap.size ≤ g2 := by rw [HG1.out]; omega
          have hb3 : Below w1.heap.size w1 (w3'.setCell ⟨g2, i, none⟩ (.int .u32 q)) := HB2.out.setCell hge _
          rw [HDD.out]
          refine ⟨i, R2, Q.set i q, by omega, by go_num, by rw [HSM.out.1]; exact HRL.out, by rw [List.length_set]; exact HQL.out, lR2, Lim_set lQ _ hqq (by have := HDD.out; omega), hls.1, hls.2, ?_, HMQ2.out.set _ _, hb3⟩
          exact Mine.apart (g := g2) HM.out (Apart.set (Apart.refl _ _) _ _) (by omega)
        case measure => simp [intOf]

theorem RetDiv.more {w : World} {q r : Int} {L M L' M' : Nat} (h1 : L ≤ L') (h2 : M ≤ M') {e : Ending} {w' : World} (h : RetDiv w q r L M e w') : RetDiv w q r L' M' e w' := by
  obtain ⟨a1, n1, c1, z1, a2, n2, c2, z2, e1, o1, l1, t1, v1, b1, o2, l2, t2, v2, b2, hb⟩ := h
  exact ⟨a1, n1, c1, z1, a2, n2, c2, z2, e1, o1, l1, t1, v1, by omega, o2, l2, t2, v2, by omega, hb⟩

set_option maxRecDepth 100000 in
theorem divide_big (w : World) (ao bo : Option Addr) (n m capa capb : Nat) (xs ys : List Int) (hx : Sl w ao n capa xs) (hy : Sl w bo m capb ys) (lx : Lim xs) (ly : Lim ys) (tx : Top xs) (ty : Top ys) (hn : n ≤ 1073741824) (hm : 2 ≤ m) (hge : val ys ≤ val xs) :
    Calls Tryz.prog 154 #[.slice ao n capa, .slice bo m capb] w (RetDiv w (val xs / val ys) (val xs % val ys) (n - m + 1) (n + 1)) := by
  have hmn : m ≤ n := by
    have := len_le_of_val ly lx ty hge
    rwa [hx.len, hy.len] at this
  have hcn : 0 ≤ cmpI (val xs) (val ys) := by unfold cmpI; rw [if_neg (by omega)]; split <;> omega
  have HC : Hid (Calls Tryz.prog 114 #[.slice ao n capa, .slice bo m capb] w (RetQ w (.int .i64 (cmpI (val xs) (val ys))))) := compare_any w ao bo n m capa capb xs ys hx hy lx ly tx ty
  generalize cmpI (val xs) (val ys) = cc at hcn HC
  have HK : Hid (∀ w1, Below w.heap.size w w1 → Calls Tryz.prog 169 #[.slice ao n capa, .slice bo m capb] w1 (RetDiv w1 (val xs / val ys) (val xs % val ys) (n - m + 1) (n + 1))) := Lib.hid (fun w1 hb => divideLong_any w1 ao bo n m capa capb xs ys (hx.below hb) (hy.below hb) lx ly ty hn hm hmn)
  have hm1 : ((m : Int) == 1) = false := by simp; omega
  have hcc : ¬ cc < 0 := by omega
  have hm2 : ¬ (m : Int) = 1 := by omega
  have hm3 : ¬ m = 1 := by omega
  clear hx hy hge
  go_enter Tryz.func154, Tryz.ntmps154
  go_wp2_with fail
  refine HC.out.mono ?_
  rintro e w0 ⟨rfl, q, rfl⟩
  have hb0 := below_drewN (Below.refl w.heap.size w) q
  go_wp2_with fail
  refine (HK.out _ (by first | exact hb0 | exact below_drewN (Below.refl _ _) _)).mono ?_
  rintro e w1 ⟨a1, n1, c1, z1, a2, n2, c2, z2, rfl, o1, l1, t1, v1, b1, o2, l2, t2, v2, b2, hb⟩
  have HO1 := Lib.hid o1
  have HO2 := Lib.hid o2
  have HV1 := Lib.hid v1
  have HV2 := Lib.hid v2
  clear o1 o2 v1 v2
  go_wp2_with fail
  go_ret2
  exact ⟨_, _, _, z1, _, _, _, z2, rfl, HO1.out, l1, t1, HV1.out, b1, HO2.out, l2, t2, HV2.out, b2, hb0.trans hb⟩

theorem divide_any (w : World) (ao bo : Option Addr) (n m capa capb : Nat) (xs ys : List Int) (hx : Sl w ao n capa xs) (hy : Sl w bo m capb ys) (lx : Lim xs) (ly : Lim ys) (tx : Top xs) (ty : Top ys) (hn : n ≤ 1073741824) (hm : 1 ≤ m) :
    Calls Tryz.prog 154 #[.slice ao n capa, .slice bo m capb] w (RetDiv w (val xs / val ys) (val xs % val ys) n (n + 2)) := by
  by_cases h1 : val xs < val ys
  · refine (divide_lt w ao bo n m capa capb xs ys hx hy lx ly tx ty (by omega) h1).mono ?_
    exact fun e w' h => h.more (by omega) (by omega)
  · by_cases h2 : m = 1
    · subst h2
      obtain ⟨d, rfl⟩ : ∃ d, ys = [d] := by
        have := hy.len
        rcases ys with _ | ⟨d, _ | ⟨d', ys⟩⟩
        · simp at this
        · exact ⟨d, rfl⟩
        · simp at this
      refine (divide_one w ao bo n capa capb xs d hx hy lx ly tx ty (by omega) (by omega)).mono ?_
      exact fun e w' h => h.more (by omega) (by omega)
    · have hmn : m ≤ n := by
        have := len_le_of_val ly lx ty (by omega)
        rwa [hx.len, hy.len] at this
      refine (divide_big w ao bo n m capa capb xs ys hx hy lx ly tx ty hn (by omega) (by omega)).mono ?_
      exact fun e w' h => h.more (by omega) (by omega)

theorem divide_int (w : World) (nx ny : Bool) (ao bo : Option Addr) (n m capa capb : Nat) (xs ys : List Int) (x y : Int) (hx : IntAt w nx ao n capa xs x) (hy : IntAt w ny bo m capb ys y) (hy0 : y ≠ 0) (hn : n ≤ 1073741824) :
    Calls Tryz.prog 120 #[.agg #[.bool nx, .slice ao n capa], .agg #[.bool ny, .slice bo m capb]] w (RetQR w (x.tdiv y) (x.tmod y) n (n + 2)) := by
  refine div_int w nx ny ao bo n m capa capb xs ys x y hx hy hy0 n (n + 2) (fun w1 hb => ?_)
  refine divide_any w1 ao bo n m capa capb xs ys (hx.sl.below hb) (hy.sl.below hb) hx.lim hy.lim hx.top hy.top hn ?_
  rcases Nat.eq_zero_or_pos m with h | h
  · exfalso
    have h1 := hy.sl.len
    rw [h] at h1
    have h2 := hy.abs
    rw [List.eq_nil_of_length_eq_zero h1] at h2
    simp [val] at h2
    omega
  · exact h
end Go.Proofs.YtdfepdhflnnjpaaGreat
