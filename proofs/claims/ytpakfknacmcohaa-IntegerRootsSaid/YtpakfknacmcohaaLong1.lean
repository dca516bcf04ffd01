/- Long division: addBack, subtract. -/
import Derived.Test.YtpakfknacmcohaaLow
namespace Go.Proofs.Ytpakfknacmcohaa
open Go.RowKit
set_option autoImplicit false
set_option linter.unusedVariables false

/-- The limbs from i on, k of them. -/
def seg (zs : List Int) (i k : Nat) : List Int := (zs.drop i).take k
theorem seg_succ (zs : List Int) (i k : Nat) : val (seg zs i (k + 1)) = val (seg zs i k) + 4294967296 ^ k * zs.getD (i + k) 0 := by
  unfold seg
  rw [val_take_succ, getD_drop]
theorem seg_set {zs : List Int} {i k : Nat} {v : Int} : seg (zs.set (i + k) v) i k = seg zs i k := by
  unfold seg
  rw [List.drop_set, if_neg (by omega), show i + k - i = k by omega, take_set_same']
theorem seg_lim {zs : List Int} (h : Lim zs) (i k : Nat) : Lim (seg zs i k) := Lim_take (Lim_drop h i) k
theorem seg_len {zs : List Int} {i k : Nat} (h : i + k ≤ zs.length) : (seg zs i k).length = k := by
  unfold seg; rw [List.length_take, List.length_drop]; omega
theorem seg_lt {zs : List Int} (lz : Lim zs) {i k : Nat} (h : i + k ≤ zs.length) : val (seg zs i k) < 4294967296 ^ k := by
  have := val_lt (seg_lim lz i k)
  rwa [seg_len h] at this

theorem back_step {a b ds : List Int} {i k : Nat} {c z x : Int} (hk : i + k < b.length) (h : val (seg b i k) + 4294967296 ^ k * c = val (seg a i k) + val (ds.take k)) (hz : a.getD (i + k) 0 = z) (hx : ds.getD k 0 = x) :
    val (seg (b.set (i + k) ((z + x + c) % 4294967296)) i (k + 1)) + 4294967296 ^ (k + 1) * ((z + x + c) / 4294967296) = val (seg a i (k + 1)) + val (ds.take (k + 1)) := by
  rw [seg_succ, seg_set, getD_set_eq hk, seg_succ, val_take_succ, hz, hx, Int.pow_succ]
  have := Int.emod_add_mul_ediv (z + x + c) 4294967296
  grind

/-- Nothing but the limbs from i on, k of them, has changed. -/
def Same (a b : List Int) (i k : Nat) : Prop := b.length = a.length ∧ ∀ j, j < i ∨ i + k ≤ j → b.getD j 0 = a.getD j 0

/-- Nothing but the block g has changed. -/
def Apart (g : Nat) (w w' : World) : Prop := ∀ h, h ≠ g → w'.heap[h]? = w.heap[h]?
theorem Apart.refl (g : Nat) (w : World) : Apart g w w := fun _ _ => rfl
theorem Apart.trans {g : Nat} {a b c : World} (h : Apart g a b) (k : Apart g b c) : Apart g a c := fun i hi => (k i hi).trans (h i hi)
theorem Apart.set {g : Nat} {w w' : World} (h : Apart g w w') (j : Nat) (v : Value) : Apart g w (w'.setCell ⟨g, j, none⟩ v) := fun i hi => by
  rw [Below.heap_setCell _ _ _ _ (by exact hi)]
  exact h i hi
theorem Mine.apart {B g q : Nat} {w w' : World} {zs : List Int} (h : Mine B w q zs) (ha : Apart g w w') (hq : q ≠ g) : Mine B w' q zs := by
  refine ⟨h.1, ?_⟩
  rcases h.2 with h2 | ⟨g', c, cur, hv, hbg, hg, r⟩
  · exact .inl h2
  · simp only [Value.slice.injEq, Option.some.injEq, Addr.mk.injEq] at hv
    have e : g' = q := hv.1.1.symm
    refine .inr ⟨g', c, cur, by simp only [Value.slice.injEq, Option.some.injEq, Addr.mk.injEq]; exact hv, hbg, ?_, r⟩
    rw [ha g' (by omega)]
    exact hg

theorem mod_pow (U V : Int) (k : Nat) {L c z : Int} (hL0 : 0 ≤ L) (hL : L < 4294967296 ^ k) (h : L + 4294967296 ^ k * (z + c) = U + V) : L + 4294967296 ^ k * ((z + c) % 4294967296) = (U + V) % 4294967296 ^ (k + 1) := by
  have hp : (0 : Int) < 4294967296 ^ k := pow_pos k
  rw [Int.pow_succ, ← h]
  have hm := Int.emod_add_mul_ediv (z + c) 4294967296
  have h0 := Int.emod_nonneg (z + c) (show (4294967296 : Int) ≠ 0 by omega)
  have h1 := Int.emod_lt_of_pos (z + c) (show (0 : Int) < 4294967296 by omega)
  obtain ⟨P, hP⟩ : ∃ P : Int, 4294967296 ^ k = P := ⟨_, rfl⟩
  rw [hP] at hp hL ⊢
  obtain ⟨r, hr⟩ : ∃ r, (z + c) % 4294967296 = r := ⟨_, rfl⟩
  obtain ⟨q, hq⟩ : ∃ q, (z + c) / 4294967296 = q := ⟨_, rfl⟩
  rw [hr] at hm h0 h1 ⊢
  rw [hq] at hm
  have e : L + P * (z + c) = (L + P * r) + P * 4294967296 * q := by rw [← hm]; grind
  have h2 : P * r ≤ P * 4294967295 := Int.mul_le_mul_of_nonneg_left (by omega) (by omega)
  have h3 : 0 ≤ P * r := Int.mul_nonneg (by omega) h0
  rw [e, Int.add_mul_emod_self_left, Int.emod_eq_of_lt (by omega) (by omega)]

set_option maxRecDepth 100000 in
set_option maxHeartbeats 1000000 in
theorem addBack_any (B : Nat) (w0 w : World) (g i n pc : Nat) (dao : Option Addr) (dc : Nat) (zs ds : List Int) (hm : Mine B w g zs) (lz : Lim zs) (hl : i + n + 1 ≤ zs.length) (hpc : n + 1 ≤ pc) (hpm : pc ≤ 9223372036854775807) (hn : n ≤ 4294967296)
    (hd : Sl w0 dao n dc ds) (ld : Lim ds) (hb : Below w0.heap.size w0 w) (hg : w0.heap.size ≤ g) :
    Calls Try.prog 136 #[.slice (some ⟨g, i, none⟩) (n + 1) pc, .slice dao n dc] w fun e w' => ∃ zs', e = .returned (.tuple #[]) ∧ Mine B w' g zs' ∧ Same zs zs' i (n + 1) ∧ Lim zs' ∧ val (seg zs' i (n + 1)) = (val (seg zs i (n + 1)) + val ds) % 4294967296 ^ (n + 1) ∧ Below w0.heap.size w0 w' ∧ Apart g w w' := by
  have HD := Lib.hid hd
  have HM0 := Lib.hid hm
  have hdl := hd.le
  have HDL := Lib.hid hd.len
  have hdm : dc ≤ 9223372036854775807 := by have := hd.most; unfold maxLen at this; omega
  clear hd hm
  go_enter Try.func136, Try.ntmps136
  go_wp2_with fail
  go_loopw [4, 10] (fun c ii wr => ∃ (k : Nat) (cy : Int) (b : List Int), k ≤ n ∧ ii = .int .i64 k ∧ c = .int .u64 cy ∧ 0 ≤ cy ∧ cy ≤ 1 ∧ Same zs b i k ∧ Lim b ∧
      val (seg b i k) + 4294967296 ^ k * cy = val (seg zs i k) + val (ds.take k) ∧ Mine B wr g b ∧ Below w0.heap.size w0 wr ∧ Apart g w wr) (fun _ ii _ => n - (intOf ii).toNat)
  case atStart => exact ⟨0, 0, zs, Nat.zero_le _, rfl, rfl, by omega, by omega, ⟨rfl, fun _ _ => rfl⟩, lz, by simp [seg, val], HM0.out, hb, Apart.refl _ _⟩
  case round =>
    obtain ⟨k, cy, b, hk, rfl, rfl, hc0, hc1, hsame, hlim, hval, hmine, hbel, hap⟩ := hrel
    have HAP := Lib.hid hap
    have HS := Lib.hid hsame
    have HV := Lib.hid hval
    have HM := Lib.hid hmine
    have HBL := Lib.hid hbel
    clear hsame hval hmine hbel hap
    by_cases hkn : k < n
    · have hkni : (k : Int) < n := by omega
      have hbl : b.length = zs.length := HS.out.1
      obtain ⟨hcell, hfrz⟩ := HM.out.cell (i + k) (by omega)
      obtain ⟨z, hz⟩ : ∃ z, zs.getD (i + k) 0 = z := ⟨_, rfl⟩
      rw [HS.out.2 (i + k) (.inr (by omega)), hz] at hcell
      have lzz := Lim_getD lz (i + k)
      rw [hz] at lzz
      obtain ⟨bd, od, rfl, hcd⟩ := (HD.out.below HBL.out).cells.at (k := k) (by rw [HDL.out]; omega)
      obtain ⟨x, hx⟩ : ∃ x, ds.getD k 0 = x := ⟨_, rfl⟩
      have lxx := Lim_getD ld k
      rw [hx] at hcd lxx
      obtain ⟨hz0, hz1⟩ := lzz
      obtain ⟨hx0, hx1⟩ := lxx
      have HZ := Lib.hid hz
      have HX := Lib.hid hx
      have HBLEN := Lib.hid hbl
      have hk1 : (k : Int) < n + 1 := by omega
      clear hz hx hbl
      go_wp2_with fail
      go_roundw
      case rel =>
        have hbl := HBLEN.out
        refine ⟨k + 1, (z + x + cy) / 4294967296, b.set (i + k) ((z + x + cy) % 4294967296), by omega, by go_num, rfl, by omega, by omega, ⟨by rw [List.length_set]; exact hbl, fun j hj => ?_⟩, Lim_set hlim _ (by omega) (by omega), back_step (by omega) HV.out HZ.out HX.out, HM.out.set _ _, HBL.out.setCell hg _, HAP.out.set _ _⟩
        rw [getD_set_ne (by omega)]
        exact HS.out.2 j (by omega)
      case measure => simp [intOf]; omega
    · obtain rfl : k = n := by omega
      have hkni : ¬ (k : Int) < k := by omega
      have hbl : b.length = zs.length := HS.out.1
      obtain ⟨hcell, hfrz⟩ := HM.out.cell (i + k) (by omega)
      obtain ⟨z, hz⟩ : ∃ z, zs.getD (i + k) 0 = z := ⟨_, rfl⟩
      rw [HS.out.2 (i + k) (.inr (by omega)), hz] at hcell
      have lzz := Lim_getD lz (i + k)
      rw [hz] at lzz
      obtain ⟨hz0, hz1⟩ := lzz
      have HZ := Lib.hid hz
      have HBLEN := Lib.hid hbl
      have hk1 : (k : Int) < k + 1 := by omega
      clear hz hbl
      go_wp2_with fail
      go_end0
      have hbl := HBLEN.out
      refine ⟨rfl, b.set (i + k) ((z + cy) % 4294967296), HM.out.set _ _, ⟨by rw [List.length_set]; exact hbl, fun j hj => ?_⟩, Lim_set hlim _ (by omega) (by omega), ?_, HBL.out.setCell hg _, HAP.out.set _ _⟩
      · rw [getD_set_ne (by omega)]
        exact HS.out.2 j (by omega)
      · have hv := HV.out
        have hdl := HDL.out
        rw [List.take_of_length_le (by omega)] at hv
        rw [seg_succ, seg_set, getD_set_eq (by omega)]
        refine mod_pow _ _ k (val_nonneg (seg_lim hlim i k)) (seg_lt hlim (by omega)) ?_
        rw [seg_succ, HZ.out]
        grind

theorem take_step {a b ds : List Int} {i k : Nat} {c w z x q : Int} (hk : i + k < b.length) (h : val (seg b i k) - 4294967296 ^ k * (w + c) = val (seg a i k) - q * val (ds.take k)) (hz : a.getD (i + k) 0 = z) (hx : ds.getD k 0 = x) :
    val (seg (b.set (i + k) ((z - (x * q + c) % 4294967296 - w) % 4294967296)) i (k + 1)) - 4294967296 ^ (k + 1) * (- ((z - (x * q + c) % 4294967296 - w) / 4294967296) + (x * q + c) / 4294967296) = val (seg a i (k + 1)) - q * val (ds.take (k + 1)) := by
  rw [seg_succ, seg_set, getD_set_eq hk, seg_succ, val_take_succ, hz, hx, Int.pow_succ]
  have h1 := Int.emod_add_mul_ediv (x * q + c) 4294967296
  have h2 := Int.emod_add_mul_ediv (z - (x * q + c) % 4294967296 - w) 4294967296
  grind

/-- What is left, and whether it was too much. -/
theorem take_end {U S L z c w : Int} {k : Nat} (hL0 : 0 ≤ L) (hL : L < 4294967296 ^ k) (h : L + 4294967296 ^ k * (z - c - w) = U - S) : L + 4294967296 ^ k * ((z - c - w) % 4294967296) = (U - S) % 4294967296 ^ (k + 1) ∧ (z - c - w < 0 ↔ U < S) := by
  have e := mod_pow U (-S) k (z := z) (c := -c - w) hL0 hL (by rw [show z + (-c - w) = z - c - w by omega]; omega)
  rw [show z + (-c - w) = z - c - w by omega, show U + -S = U - S by omega] at e
  refine ⟨e, ?_⟩
  have hp : (0 : Int) < 4294967296 ^ k := pow_pos k
  obtain ⟨P, hP⟩ : ∃ P : Int, 4294967296 ^ k = P := ⟨_, rfl⟩
  rw [hP] at hp hL h
  constructor
  · intro hn
    have : P * (z - c - w) ≤ P * (-1) := Int.mul_le_mul_of_nonneg_left (by omega) (by omega)
    omega
  · intro hn
    rcases Int.lt_or_le (z - c - w) 0 with h1 | h1
    · exact h1
    · have : 0 ≤ P * (z - c - w) := Int.mul_nonneg (by omega) h1
      omega

theorem borrow_two {z t w : Int} (hz0 : 0 ≤ z) (hz1 : z ≤ 4294967295) (ht0 : 0 ≤ t) (ht1 : t ≤ 4294967295) (hw0 : 0 ≤ w) (hw1 : w ≤ 1) :
    IntKind.u64.wrap (IntKind.u64.wrap (z - t) - w) / 9223372036854775808 = - ((z - t - w) / 4294967296) ∧ IntKind.u64.wrap (IntKind.u64.wrap (z - t) - w) % 4294967296 = (z - t - w) % 4294967296 := by
  simp only [IntKind.wrap_u64]
  omega
theorem qprod_bound {x q c : Int} (hx0 : 0 ≤ x) (hx1 : x ≤ 4294967295) (hq0 : 0 ≤ q) (hq1 : q ≤ 4294967295) (hc0 : 0 ≤ c) (hc1 : c ≤ 4294967295) :
    0 ≤ x * q ∧ x * q ≤ 18446744065119617025 ∧ 0 ≤ x * q + c ∧ x * q + c ≤ 18446744069414584320 ∧ 0 ≤ (x * q + c) / 4294967296 ∧ (x * q + c) / 4294967296 ≤ 4294967295 := by
  have h1 : 0 ≤ x * q := Int.mul_nonneg hx0 hq0
  have h2 : x * q ≤ 4294967295 * 4294967295 := Int.mul_le_mul hx1 hq1 hq0 (by omega)
  omega

set_option maxRecDepth 100000 in
set_option maxHeartbeats 1000000 in
theorem subtract_any (B : Nat) (w0 w : World) (g i n pc : Nat) (dao : Option Addr) (dc : Nat) (zs ds : List Int) (q : Int) (hm : Mine B w g zs) (lz : Lim zs) (hl : i + n + 1 ≤ zs.length) (hpc : n + 1 ≤ pc) (hpm : pc ≤ 9223372036854775807) (hn : n ≤ 4294967296)
    (hd : Sl w0 dao n dc ds) (ld : Lim ds) (hb : Below w0.heap.size w0 w) (hg : w0.heap.size ≤ g) (hq0 : 0 ≤ q) (hq1 : q ≤ 4294967295) :
    Calls Try.prog 135 #[.slice (some ⟨g, i, none⟩) (n + 1) pc, .slice dao n dc, .int .u32 q] w fun e w' => ∃ zs', e = .returned (.bool (decide (val (seg zs i (n + 1)) < q * val ds))) ∧ Mine B w' g zs' ∧ Same zs zs' i (n + 1) ∧ Lim zs' ∧ val (seg zs' i (n + 1)) = (val (seg zs i (n + 1)) - q * val ds) % 4294967296 ^ (n + 1) ∧ Below w0.heap.size w0 w' ∧ Apart g w w' := by
  have HD := Lib.hid hd
  have HM0 := Lib.hid hm
  have hdl := hd.le
  have HDL := Lib.hid hd.len
  have hdm : dc ≤ 9223372036854775807 := by have := hd.most; unfold maxLen at this; omega
  clear hd hm
  go_enter Try.func135, Try.ntmps135
  go_wp2_with fail
  go_loopw [7, 8, 16] (fun c v ii wr => ∃ (k : Nat) (cy bw : Int) (b : List Int), k ≤ n ∧ ii = .int .i64 k ∧ c = .int .u64 cy ∧ v = .int .u64 bw ∧ 0 ≤ cy ∧ cy ≤ 4294967295 ∧ 0 ≤ bw ∧ bw ≤ 1 ∧ Same zs b i k ∧ Lim b ∧
      val (seg b i k) - 4294967296 ^ k * (bw + cy) = val (seg zs i k) - q * val (ds.take k) ∧ Mine B wr g b ∧ Below w0.heap.size w0 wr ∧ Apart g w wr) (fun _ _ ii _ => n - (intOf ii).toNat)
  case atStart => exact ⟨0, 0, 0, zs, Nat.zero_le _, rfl, rfl, rfl, by omega, by omega, by omega, by omega, ⟨rfl, fun _ _ => rfl⟩, lz, by simp [seg, val], HM0.out, hb, Apart.refl _ _⟩
  case round =>
    obtain ⟨k, cy, bw, b, hk, rfl, rfl, rfl, hc0, hc1, hw0, hw1, hsame, hlim, hval, hmine, hbel, hap⟩ := hrel
    have HAP := Lib.hid hap
    have HS := Lib.hid hsame
    have HV := Lib.hid hval
    have HM := Lib.hid hmine
    have HBL := Lib.hid hbel
    clear hsame hval hmine hbel hap
    by_cases hkn : k < n
    · have hkni : (k : Int) < n := by omega
      have hbl : b.length = zs.length := HS.out.1
      obtain ⟨hcell, hfrz⟩ := HM.out.cell (i + k) (by omega)
      obtain ⟨z, hz⟩ : ∃ z, zs.getD (i + k) 0 = z := ⟨_, rfl⟩
      rw [HS.out.2 (i + k) (.inr (by omega)), hz] at hcell
      have lzz := Lim_getD lz (i + k)
      rw [hz] at lzz
      obtain ⟨bd, od, rfl, hcd⟩ := (HD.out.below HBL.out).cells.at (k := k) (by rw [HDL.out]; omega)
      obtain ⟨x, hx⟩ : ∃ x, ds.getD k 0 = x := ⟨_, rfl⟩
      have lxx := Lim_getD ld k
      rw [hx] at hcd lxx
      obtain ⟨hz0, hz1⟩ := lzz
      obtain ⟨hx0, hx1⟩ := lxx
      obtain ⟨p0, p1, p2, p3, p4, p5⟩ := qprod_bound hx0 hx1 hq0 hq1 hc0 hc1
      have HZ := Lib.hid hz
      have HX := Lib.hid hx
      have HBLEN := Lib.hid hbl
      have hk1 : (k : Int) < n + 1 := by omega
      clear hz hx hbl
      go_wp2_with fail
      obtain ⟨q1, q2⟩ := borrow_two hz0 hz1 (show 0 ≤ (x * q + cy) % 4294967296 by omega) (by omega) hw0 hw1
      go_roundw
      case rel =>
        have hbl := HBLEN.out
        rw [q1, q2]
        refine ⟨k + 1, (x * q + cy) / 4294967296, - ((z - (x * q + cy) % 4294967296 - bw) / 4294967296), b.set (i + k) ((z - (x * q + cy) % 4294967296 - bw) % 4294967296), by omega, by go_num, rfl, rfl, p4, p5, by omega, by omega, ⟨by rw [List.length_set]; exact hbl, fun j hj => ?_⟩, Lim_set hlim _ (by omega) (by omega), take_step (by omega) HV.out HZ.out HX.out, HM.out.set _ _, HBL.out.setCell hg _, HAP.out.set _ _⟩
        rw [getD_set_ne (by omega)]
        exact HS.out.2 j (by omega)
      case measure => simp [intOf]; omega
    · obtain rfl : k = n := by omega
      have hkni : ¬ (k : Int) < k := by omega
      have hbl : b.length = zs.length := HS.out.1
      obtain ⟨hcell, hfrz⟩ := HM.out.cell (i + k) (by omega)
      obtain ⟨z, hz⟩ : ∃ z, zs.getD (i + k) 0 = z := ⟨_, rfl⟩
      rw [HS.out.2 (i + k) (.inr (by omega)), hz] at hcell
      have lzz := Lim_getD lz (i + k)
      rw [hz] at lzz
      obtain ⟨hz0, hz1⟩ := lzz
      have HZ := Lib.hid hz
      have HBLEN := Lib.hid hbl
      have hk1 : (k : Int) < k + 1 := by omega
      clear hz hbl
      go_wp2_with fail
      obtain ⟨q1, q2⟩ := borrow_two hz0 hz1 hc0 hc1 hw0 hw1
      have hbl := HBLEN.out
      have hv := HV.out
      have hdl := HDL.out
      rw [List.take_of_length_le (by omega)] at hv
      have hte := take_end (U := val (seg zs i (k + 1))) (S := q * val ds) (z := z) (c := cy) (w := bw) (k := k) (val_nonneg (seg_lim hlim i k)) (seg_lt hlim (by omega)) (by rw [seg_succ, HZ.out]; grind)
      have hbool : (- ((z - cy - bw) / 4294967296) == (1 : Int)) = decide (val (seg zs i (k + 1)) < q * val ds) := by
        rw [Bool.eq_iff_iff, decide_eq_true_iff, ← hte.2, beq_iff_eq]
        omega
      rw [← q1] at hbool
      have HBOOL := Lib.hid hbool
      have HT1 := Lib.hid hte.1
      have Q2 := Lib.hid q2
      clear hbool hte q1 q2 hv hdl hbl
      go_ret
      have hbl := HBLEN.out
      refine ⟨congrArg (fun v => Ending.returned (Value.bool v)) HBOOL.out, _, HM.out.set _ _, ⟨by rw [List.length_set]; exact hbl, fun j hj => ?_⟩, Lim_set hlim _ (by omega) (by omega), ?_, HBL.out.setCell hg _, HAP.out.set _ _⟩
      · rw [getD_set_ne (by omega)]
        exact HS.out.2 j (by omega)
      · rw [seg_succ, seg_set, getD_set_eq (by omega), Q2.out]
        exact HT1.out
end Go.Proofs.Ytpakfknacmcohaa
