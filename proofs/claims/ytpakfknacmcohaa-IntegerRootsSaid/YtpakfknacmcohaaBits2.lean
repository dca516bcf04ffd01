/- Contracts of signed, matching, the combiner's closure, Boole. -/
import Derived.Test.YtpakfknacmcohaaBits1
namespace Go.Proofs.Ytpakfknacmcohaa
open Go.RowKit
set_option autoImplicit false
set_option linter.unusedVariables false

/-- The number that n words of two's complement are. -/
def sval (n : Nat) (v : Int) : Int := if 4294967296 ^ n ≤ 2 * v then v - 4294967296 ^ n else v
theorem sval_top {zs : List Int} {k : Nat} (lz : Lim zs) (hl : zs.length = k + 1) : 4294967296 ^ (k + 1) ≤ 2 * val zs ↔ 2147483648 ≤ zs.getD k 0 := by
  have h1 := val_take_succ zs k
  rw [List.take_of_length_le (by omega)] at h1
  have h2 := val_lt (Lim_take lz k)
  have h3 := val_nonneg (Lim_take lz k)
  rw [List.length_take, Nat.min_eq_left (by omega)] at h2
  rw [h1, Int.pow_succ]
  generalize zs.getD k 0 = z
  have hp := pow_pos k
  generalize (4294967296 : Int) ^ k = p at *
  constructor
  · intro h
    rcases (show 2147483648 ≤ z ∨ z ≤ 2147483647 by omega) with h4 | h4
    · exact h4
    · have : p * z ≤ p * 2147483647 := Int.mul_le_mul_of_nonneg_left h4 (by omega)
      omega
  · intro h
    have : p * 2147483648 ≤ p * z := Int.mul_le_mul_of_nonneg_left h (by omega)
    omega

/-- An integer was returned; below block B all is as it was. -/
def RetIntB (B : Nat) (w : World) (x : Int) (L : Nat) (e : Ending) (w' : World) : Prop :=
  ∃ neg ao n cap zs, e = .returned (.agg #[.bool neg, .slice ao n cap]) ∧ IntAt w' neg ao n cap zs x ∧ n ≤ L ∧ Below B w w'

set_option maxRecDepth 100000 in
theorem signed_any (B : Nat) (w : World) (ao : Option Addr) (n cap : Nat) (zs : List Int) (h : Own B w ao (n + 1) cap zs) (lz : Lim zs) (hB : B ≤ w.heap.size) :
    Calls Try.prog 102 #[.slice ao (n + 1) cap] w (RetIntB B w (sval (n + 1) (val zs)) (n + 1)) := by
  have hlen := h.sl.len
  obtain ⟨g, rfl, hg, hc, hf⟩ := h.at (j := n) (by omega)
  have hgl : g < w.heap.size := by have := World.block_lt_of_cell? w _ hc; exact this
  have htop := sval_top lz hlen
  have hzn := Lim_getD lz n
  have hmost := h.sl.most
  have hle := h.sl.le
  unfold maxLen at hmost
  have hbw : Below B w (w.alloc (.cells #[.bool false, .slice none 0 0] 28)) := (Below.refl _ _).alloc hB _
  have ho1 : Own B (w.alloc (.cells #[.bool false, .slice none 0 0] 28)) (some ⟨g, 0, none⟩) (n + 1) cap zs := World.ownsRow.alloc h _
  have HO := Lib.hid ho1
  obtain ⟨z, hz⟩ : ∃ z, zs.getD n 0 = z := ⟨_, rfl⟩
  rw [hz] at hc htop hzn
  have HT := Lib.hid htop
  obtain ⟨hz0, hz1⟩ := hzn
  have HL := Lib.hid hlen
  clear h hlen htop hz ho1
  by_cases hneg : 2147483648 ≤ z
  · have hq : z / 2147483648 = 1 := by omega
    have hsv : sval (n + 1) (val zs) = val zs - 4294967296 ^ (n + 1) := by unfold sval; rw [if_pos (HT.out.2 hneg)]
    rw [hsv]
    have hqb : (z / 2147483648 == 1) = true := by rw [hq]; rfl
    have HQ := Lib.hid hq
    clear hq hsv
    go_enter Try.func102, Try.ntmps102
    go_wp2_with fail
    refine (negate_any B _ _ _ _ _ HO.out lz).mono ?_
    rintro e w1 ⟨ys, rfl, ho2, hl2, hv2, hgr, hb1⟩
    have hr1 : w1.heap[w.heap.size]? = some (.cells #[.bool false, .slice none 0 0] 28 (0, 0)) := (hgr.block _ (by simp) (by simp [Value.ownBlock]; omega)).trans (heap_alloc_new w _)
    have hz1' : w.heap.size + 1 ≤ w1.heap.size := by have := hgr.size; simp at this; omega
    have HO2 := Lib.hid ho2
    have HV2 := Lib.hid hv2
    have HR := Lib.hid hr1
    clear ho2 hv2 hr1 hgr
    go_wp2_with fail
    refine (wrap_int w1 true _ _ _ ys HO2.out.sl hl2 rfl).mono ?_
    rintro e w2 ⟨neg', ao', n', cap', zs', rfl, hint, hn', hb3⟩
    have hr2 := (hb3.block _ (by omega)).trans HR.out
    obtain ⟨c0, c1, f0, f1⟩ := blk2 hr2
    have HI := Lib.hid (hint.stored hr2 (.bool neg') (.slice ao' n' cap'))
    clear hint hr2
    have hb4 : Below B w w2 := (hbw.trans hb1).trans (hb3.mono (by omega))
    go_wp2
    refine bodyPost_ret (v := .agg #[.bool neg', .slice ao' n' cap']) (by simp [results, Try.results102, go_sem, c0, c1]) rfl ?_
    have hx : sgn true (val ys) = val zs - 4294967296 ^ (n + 1) := by
      have h1 := val_lt lz
      rw [HL.out] at h1
      have h2 := HT.out.2 hneg
      have h3 := pow_pos (n + 1)
      rw [HV2.out, show - val zs = (4294967296 ^ (n + 1) - val zs) + 4294967296 ^ (n + 1) * (-1) by omega, Int.add_mul_emod_self_left, Int.emod_eq_of_lt (by omega) (by omega)]
      simp [sgn]
      omega
    exact ⟨_, _, _, _, _, rfl, hx ▸ HI.out, hn', (hb4.setCell (p := ⟨w.heap.size, 0, none⟩) hB _).setCell (p := ⟨w.heap.size, 1, none⟩) hB _⟩
  · have hq : z / 2147483648 = 0 := by omega
    have hsv : sval (n + 1) (val zs) = val zs := by unfold sval; rw [if_neg (fun h => hneg (HT.out.1 h))]
    rw [hsv]
    have hqb : (z / 2147483648 == 1) = false := by rw [hq]; rfl
    clear hq hsv
    go_enter Try.func102, Try.ntmps102
    go_wp2_with fail
    refine (wrap_int _ false _ _ _ zs HO.out.sl lz rfl).mono ?_
    rintro e w2 ⟨neg', ao', n', cap', zs', rfl, hint, hn', hb3⟩
    obtain ⟨hz2, hr2, hb2⟩ := left1 hb3
    obtain ⟨c0, c1, f0, f1⟩ := blk2 hr2
    have HI := Lib.hid (hint.stored hr2 (.bool neg') (.slice ao' n' cap'))
    clear hint hr2
    have hb4 : Below B w w2 := hb2.mono hB
    go_wp2
    refine bodyPost_ret (v := .agg #[.bool neg', .slice ao' n' cap']) (by simp [results, Try.results102, go_sem, c0, c1]) rfl ?_
    exact ⟨_, _, _, _, _, rfl, HI.out, hn', (hb4.setCell (p := ⟨w.heap.size, 0, none⟩) hB _).setCell (p := ⟨w.heap.size, 1, none⟩) hB _⟩

/-- The word whose bits are set where those of a are as said. -/
def mat (a : Int) (b : Bool) : Int := if b then a else 4294967295 - a
theorem matching_0 (w : World) (a : Int) (h0 : 0 ≤ a) (h1 : a ≤ 4294967295) : Calls Try.prog 127 #[.int .u32 a, .int .i64 0] w fun e w' => e = .returned (.int .u32 (mat a false)) ∧ w = w' := by
  have hnot := not_u32 a h0 h1
  go_enter Try.func127, Try.ntmps127
  go_wp2
  go_ret
  exact ⟨rfl, rfl⟩
theorem matching_1 (w : World) (a : Int) : Calls Try.prog 127 #[.int .u32 a, .int .i64 1] w fun e w' => e = .returned (.int .u32 (mat a true)) ∧ w = w' := by
  go_enter Try.func127, Try.ntmps127
  go_wp2
  go_ret
  exact ⟨rfl, rfl⟩

/-- The places of the table below p, word by word. -/
def combTo (op : Int) (a b : Int) : Nat → Int
  | 0 => 0
  | p + 1 => if op / 2 ^ p % 2 = 1 then bits .or .u32 (combTo op a b p) (bits .and .u32 (mat a (decide (p / 2 % 2 = 1))) (mat b (decide (p % 2 = 1)))) else combTo op a b p
def comb (op a b : Int) : Int := combTo op a b 4

theorem and1_all : ∀ k : Fin 16, bits .and .i64 (k.val : Int) 1 = (k.val : Int) % 2 := by decide +kernel
theorem and1_i64 (x : Int) (h0 : 0 ≤ x) (h1 : x ≤ 15) : bits BinOp.and IntKind.i64 x 1 = x % 2 := by
  obtain ⟨k, rfl⟩ := Int.eq_ofNat_of_zero_le h0
  exact and1_all ⟨k, by omega⟩

set_option maxRecDepth 100000 in
theorem comb_any (w : World) (a b op : Int) (p : Addr) (hc : w.cell? p = some (.int .i64 op)) (ho0 : 0 ≤ op) (ho1 : op ≤ 15) (ha0 : 0 ≤ a) (ha1 : a ≤ 4294967295) (hb0 : 0 ≤ b) (hb1 : b ≤ 4294967295) :
    Calls Try.prog 126 #[.int .u32 a, .int .u32 b, .pointer (some p)] w fun e w' => e = .returned (.int .u32 (comb op a b)) ∧ w = w' := by
  go_enter Try.func126, Try.ntmps126
  go_wp2_with fail
  go_loop [6, 8] (fun r i => ∃ k : Nat, k ≤ 4 ∧ i = .int .i64 k ∧ r = .int .u32 (combTo op a b k)) (fun _ i => 4 - (intOf i).toNat)
  case atStart => exact ⟨0, by omega, rfl, rfl⟩
  case round =>
    obtain ⟨k, hk, rfl, rfl⟩ := hrel
    rcases (show k = 0 ∨ k = 1 ∨ k = 2 ∨ k = 3 ∨ k = 4 by omega) with rfl | rfl | rfl | rfl | rfl
    · have hb := and1_i64 (op) (by omega) (by omega)
      by_cases hbit : (op) % 2 = 1
      · have hbb : (bits BinOp.and IntKind.i64 (op) 1 == 1) = true := by rw [hb, hbit]; rfl
        have hst : combTo op a b (0 + 1) = bits .or .u32 (combTo op a b 0) (bits .and .u32 (mat a false) (mat b false)) := by
          show (if op / 2 ^ 0 % 2 = 1 then _ else _) = _
          rw [if_pos (by simpa using hbit)]; rfl
        have HST := Lib.hid hst
        clear hst hb hbit
        go_wp2_with fail
        refine (matching_0 w a ha0 ha1).mono ?_
        rintro e w1 ⟨rfl, rfl⟩
        go_wp2_with fail
        refine (matching_0 w b hb0 hb1).mono ?_
        rintro e w1 ⟨rfl, rfl⟩
        go_wp2_with fail
        go_round
        case rel => exact ⟨1, by omega, rfl, by rw [HST.out]⟩
        case measure => simp [intOf]
      · have hbb : (bits BinOp.and IntKind.i64 (op) 1 == 1) = false := by rw [hb]; simpa using hbit
        have hst : combTo op a b (0 + 1) = combTo op a b 0 := by
          show (if op / 2 ^ 0 % 2 = 1 then _ else _) = _
          rw [if_neg (by simpa using hbit)]
        have HST := Lib.hid hst
        clear hst hb hbit
        go_wp2_with fail
        go_round
        case rel => exact ⟨1, by omega, rfl, by rw [HST.out]⟩
        case measure => simp [intOf]
    · have hb := and1_i64 (op / 2) (by omega) (by omega)
      by_cases hbit : (op / 2) % 2 = 1
      · have hbb : (bits BinOp.and IntKind.i64 (op / 2) 1 == 1) = true := by rw [hb, hbit]; rfl
        have hst : combTo op a b (1 + 1) = bits .or .u32 (combTo op a b 1) (bits .and .u32 (mat a false) (mat b true)) := by
          show (if op / 2 ^ 1 % 2 = 1 then _ else _) = _
          rw [if_pos (by simpa using hbit)]; rfl
        have HST := Lib.hid hst
        clear hst hb hbit
        go_wp2_with fail
        refine (matching_0 w a ha0 ha1).mono ?_
        rintro e w1 ⟨rfl, rfl⟩
        go_wp2_with fail
        refine (matching_1 w b).mono ?_
        rintro e w1 ⟨rfl, rfl⟩
        go_wp2_with fail
        go_round
        case rel => exact ⟨2, by omega, rfl, by rw [HST.out]⟩
        case measure => simp [intOf]
      · have hbb : (bits BinOp.and IntKind.i64 (op / 2) 1 == 1) = false := by rw [hb]; simpa using hbit
        have hst : combTo op a b (1 + 1) = combTo op a b 1 := by
          show (if op / 2 ^ 1 % 2 = 1 then _ else _) = _
          rw [if_neg (by simpa using hbit)]
        have HST := Lib.hid hst
        clear hst hb hbit
        go_wp2_with fail
        go_round
        case rel => exact ⟨2, by omega, rfl, by rw [HST.out]⟩
        case measure => simp [intOf]
    · have hb := and1_i64 (op / 4) (by omega) (by omega)
      by_cases hbit : (op / 4) % 2 = 1
      · have hbb : (bits BinOp.and IntKind.i64 (op / 4) 1 == 1) = true := by rw [hb, hbit]; rfl
        have hst : combTo op a b (2 + 1) = bits .or .u32 (combTo op a b 2) (bits .and .u32 (mat a true) (mat b false)) := by
          show (if op / 2 ^ 2 % 2 = 1 then _ else _) = _
          rw [if_pos (by simpa using hbit)]; rfl
        have HST := Lib.hid hst
        clear hst hb hbit
        go_wp2_with fail
        refine (matching_1 w a).mono ?_
        rintro e w1 ⟨rfl, rfl⟩
        go_wp2_with fail
        refine (matching_0 w b hb0 hb1).mono ?_
        rintro e w1 ⟨rfl, rfl⟩
        go_wp2_with fail
        go_round
        case rel => exact ⟨3, by omega, rfl, by rw [HST.out]⟩
        case measure => simp [intOf]
      · have hbb : (bits BinOp.and IntKind.i64 (op / 4) 1 == 1) = false := by rw [hb]; simpa using hbit
        have hst : combTo op a b (2 + 1) = combTo op a b 2 := by
          show (if op / 2 ^ 2 % 2 = 1 then _ else _) = _
          rw [if_neg (by simpa using hbit)]
        have HST := Lib.hid hst
        clear hst hb hbit
        go_wp2_with fail
        go_round
        case rel => exact ⟨3, by omega, rfl, by rw [HST.out]⟩
        case measure => simp [intOf]
    · have hb := and1_i64 (op / 8) (by omega) (by omega)
      by_cases hbit : (op / 8) % 2 = 1
      · have hbb : (bits BinOp.and IntKind.i64 (op / 8) 1 == 1) = true := by rw [hb, hbit]; rfl
        have hst : combTo op a b (3 + 1) = bits .or .u32 (combTo op a b 3) (bits .and .u32 (mat a true) (mat b true)) := by
          show (if op / 2 ^ 3 % 2 = 1 then _ else _) = _
          rw [if_pos (by simpa using hbit)]; rfl
        have HST := Lib.hid hst
        clear hst hb hbit
        go_wp2_with fail
        refine (matching_1 w a).mono ?_
        rintro e w1 ⟨rfl, rfl⟩
        go_wp2_with fail
        refine (matching_1 w b).mono ?_
        rintro e w1 ⟨rfl, rfl⟩
        go_wp2_with fail
        go_round
        case rel => exact ⟨4, by omega, rfl, by rw [HST.out]⟩
        case measure => simp [intOf]
      · have hbb : (bits BinOp.and IntKind.i64 (op / 8) 1 == 1) = false := by rw [hb]; simpa using hbit
        have hst : combTo op a b (3 + 1) = combTo op a b 3 := by
          show (if op / 2 ^ 3 % 2 = 1 then _ else _) = _
          rw [if_neg (by simpa using hbit)]
        have HST := Lib.hid hst
        clear hst hb hbit
        go_wp2_with fail
        go_round
        case rel => exact ⟨4, by omega, rfl, by rw [HST.out]⟩
        case measure => simp [intOf]
    · go_wp2_with fail
      go_ret
      exact ⟨rfl, rfl⟩
end Go.Proofs.Ytpakfknacmcohaa
