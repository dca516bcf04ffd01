/- Deposit of the reference. -/
import Derived.Test.YtipjbknoeoajnaaRField
namespace Go.Proofs.Ytipjbknoeoajnaa
open Go.RowKit
set_option autoImplicit false
set_option linter.unusedVariables false

theorem rdeposit_no (w : World) (nx ny : Bool) (ao bo : Option Addr) (n m capa capb : Nat) (k at' : Int) (h : (k < 0 ∨ 65536 < k) ∨ (at' < 0 ∨ 65536 < at')) :
    Calls Try.prog 59 #[.agg #[.bool nx, .slice ao n capa], .agg #[.bool ny, .slice bo m capb], .int .i64 k, .int .i64 at'] w (RetZeroR w 1) := by
  by_cases hk : k < 0 ∨ 65536 < k
  · have HK := Lib.hid (fun w1 => within_no w1 k hk)
    clear h hk
    go_enter Try.func59, Try.ntmps59
    go_wp2_with (go_at_call 109; refine (HK.out _).mono ?_; rintro e w1 ⟨rfl, rfl⟩)
    refine bodyPost_ret (v := .tuple #[.agg #[.bool false, .slice none 0 0], .int .i64 1]) (by simp [results, Try.results59, go_sem]) rfl ?_
    exact ⟨rfl, by go_grown⟩
  · have h2 : at' < 0 ∨ 65536 < at' := by omega
    have HK := Lib.hid (fun w1 => within_yes w1 k (by omega) (by omega))
    have HA := Lib.hid (fun w1 => within_no w1 at' h2)
    clear h hk h2
    go_enter Try.func59, Try.ntmps59
    go_wp2_with fail
    refine (HK.out _).mono ?_
    rintro e w1 ⟨rfl, rfl⟩
    go_wp2_with fail
    refine (HA.out _).mono ?_
    rintro e w1 ⟨rfl, rfl⟩
    go_wp2_with fail
    refine bodyPost_ret (v := .tuple #[.agg #[.bool false, .slice none 0 0], .int .i64 1]) (by simp [results, Try.results59, go_sem]) rfl ?_
    exact ⟨rfl, by go_grown⟩

/-- The reference's integer with some bits replaced was returned. -/
def RetDepR (w : World) (x p : Int) (k a : Nat) (L : Nat) (e : Ending) (w' : World) : Prop :=
  ∃ neg ao n cap zs D, e = .returned (.tuple #[.agg #[.bool neg, .slice ao n cap], .int .i64 0]) ∧ RefAt w' neg ao n cap zs D ∧ (∀ i, bitZ D i = depB x p k a i) ∧ n ≤ L ∧ Below w.heap.size w w'

theorem rowSetOther {B : Nat} {w : World} {e : TypeId} {s : Nat} {v : Value} {n : Nat} {xs : List Value} (h : w.ownsRow B e s v n xs) {p : Addr} (u : Value) (hp : p.block < B) : (w.setCell p u).ownsRow B e s v n xs := by
  refine ⟨h.1, ?_⟩
  rcases h.2 with h2 | ⟨g, c, cur, hv, hbg, hg, r⟩
  · exact .inl h2
  · refine .inr ⟨g, c, cur, hv, hbg, ?_, r⟩
    rw [Below.heap_setCell _ _ _ _ (by omega)]
    exact hg
theorem rowKept {B : Nat} {w w' : World} {e : TypeId} {s : Nat} {v : Value} {n : Nat} {xs : List Value} (h : w.ownsRow B e s v n xs) (hb : Below w.heap.size w w') : w'.ownsRow B e s v n xs := by
  refine ⟨h.1, ?_⟩
  rcases h.2 with h2 | ⟨g, c, cur, hv, hbg, hg, r⟩
  · exact .inl h2
  · exact .inr ⟨g, c, cur, hv, hbg, (hb.block g (Array.getElem?_eq_some_iff.1 hg).1).trans hg, r⟩

/-- Bits in a row of the call's own. -/
def RowB (B : Nat) (w : World) (ao : Option Addr) (k cap : Nat) (bs : List Bool) : Prop := w.ownsRow B 4 1 (.slice ao k cap) k (bs.map Value.bool)
theorem RowB.len {B : Nat} {w : World} {ao : Option Addr} {k cap : Nat} {bs : List Bool} (h : RowB B w ao k cap bs) : bs.length = k := by
  have := h.1; simpa using this
theorem RowB.at {B : Nat} {w : World} {ao : Option Addr} {k cap : Nat} {bs : List Bool} (h : RowB B w ao k cap bs) {j : Nat} (hj : j < k) :
    ∃ g, ao = some ⟨g, 0, none⟩ ∧ B ≤ g ∧ g < w.heap.size ∧ w.cell? ⟨g, j, none⟩ = some (.bool (bs.getD j false)) ∧ w.frozen? ⟨g, j, none⟩ = false := by
  have h' : w.ownsRow B 4 1 (.slice ao k cap) k (bs.map Value.bool) := h
  rcases h'.2 with ⟨hv, hn⟩ | ⟨g, c, cur, hv, hb, hg, hnc, hcm, hcs, htake⟩
  · omega
  · simp only [Value.slice.injEq] at hv
    obtain ⟨rfl, _, rfl⟩ := hv
    have hl := h.len
    refine ⟨g, rfl, hb, (Array.getElem?_eq_some_iff.1 hg).1, ?_, World.ownsRow.frozenAt h' j⟩
    rw [World.ownsRow.cellAt h' j (by omega), List.getElem?_map, List.getElem?_eq_getElem (by omega)]
    simp [List.getD, show j < bs.length by omega]
theorem RowB.set {B : Nat} {w : World} {g k cap : Nat} {bs : List Bool} (h : RowB B w (some ⟨g, 0, none⟩) k cap bs) (j : Nat) (v : Bool) : RowB B (w.setCell ⟨g, j, none⟩ (.bool v)) (some ⟨g, 0, none⟩) k cap (bs.set j v) := by
  have := (World.ownsRow.stored h j (.bool v)).1
  unfold RowB
  rw [List.map_set]
  exact this
theorem RowB.slb {B : Nat} {w : World} {ao : Option Addr} {k cap : Nat} {bs : List Bool} (h : RowB B w ao k cap bs) : SlB w ao k cap (fun i => bs.getD i false) := by
  have hc := row_cap h
  refine ⟨hc.1, by have := hc.2; unfold maxLen at this; omega, fun j hj => ?_⟩
  obtain ⟨g, h1, _, _, h2, _⟩ := h.at hj
  exact ⟨g, 0, h1, by simpa using h2⟩
theorem RowB.of {B : Nat} {w : World} {ao : Option Addr} {k cap : Nat} {f : Nat → Bool} (h : w.ownsRow B 4 1 (.slice ao k cap) k ((List.range k).map fun i => .bool (f i))) : RowB B w ao k cap ((List.range k).map f) := by
  unfold RowB
  rw [List.map_map]
  exact h
theorem range_getD (f : Nat → Bool) (k j : Nat) (h : j < k) : ((List.range k).map f).getD j false = f j := by simp [List.getD, h]

theorem bitZ_sign {x : Int} {i : Nat} (h : blen (cpl x).toNat ≤ i) : bitZ x i = decide (x < 0) := by
  rw [← bitZ_of]
  unfold bitOf
  have h1 := blen_lt (cpl x).toNat
  have h2 : 2 ^ blen (cpl x).toNat ≤ 2 ^ i := Nat.pow_le_pow_right (by omega) h
  rw [Nat.div_eq_of_lt (by omega)]
  cases decide (x < 0) <;> rfl

theorem rdep_bits {x p : Int} {K k a : Nat} {bs : List Bool} {nx : Bool} (hnx : nx = decide (x < 0)) (hK : a + k ≤ K) (hL : blen (cpl x).toNat ≤ K) (hbs : ∀ t, t < K → bs.getD t false = depB x p k a t) (i : Nat) :
    bitZ (ofSign nx ((bval (fun i => bs.getD i false != nx) K : Nat) : Int)) i = depB x p k a i := by
  rw [ofSign_bit, ← bitZ_nat, bval_bits]
  by_cases hi : i < K
  · rw [decide_eq_true hi, Bool.true_and, hbs i hi]
    cases depB x p k a i <;> cases nx <;> rfl
  · rw [decide_eq_false hi, Bool.false_and]
    unfold depB
    rw [if_neg (by omega), bitZ_sign (by omega), ← hnx]
    cases nx <;> rfl

set_option maxRecDepth 100000 in
set_option maxHeartbeats 2000000 in
theorem rdeposit_yes (w : World) (nx ny : Bool) (ao bo : Option Addr) (n m capa capb : Nat) (xs ys : List Int) (x p : Int) (k at' : Nat) (hx : RefAt w nx ao n capa xs x) (hy : RefAt w ny bo m capb ys p) (hn : n ≤ 1000) (hm : m ≤ 1000) (hk : k ≤ 1000) (ha : at' ≤ 1000) :
    Calls Try.prog 59 #[.agg #[.bool nx, .slice ao n capa], .agg #[.bool ny, .slice bo m capb], .int .i64 (k : Int), .int .i64 (at' : Int)] w (RetDepR w x p k at' 20000) := by
  have HK := Lib.hid (fun w1 => within_yes w1 k (by omega) (by omega))
  have HA := Lib.hid (fun w1 => within_yes w1 at' (by omega) (by omega))
  have HNX : Hid (nx = decide (x < 0)) := Lib.hid (neg_iff hx)
  have HNY : Hid (ny = decide (p < 0)) := Lib.hid (neg_iff hy)
  obtain ⟨L, hL⟩ : ∃ L, blen (cpl x).toNat = L := ⟨_, rfl⟩
  have hLb := rlen_bd hx hn
  rw [hL] at hLb
  have HLL := Lib.hid hL
  have HL : Hid (∀ w', Below w.heap.size w w' → Calls Try.prog 27 #[.agg #[.bool nx, .slice ao n capa]] w' (RetV w' (.int .i64 (L : Int)))) := Lib.hid (fun w' hb => by
    rw [← hL]; exact rlength_any w' nx ao n capa xs x (hx.below hb) (by omega))
  have HBX : Hid (∀ w1, Below w.heap.size w w1 → ∀ K : Nat, K ≤ 100000 → Calls Try.prog 81 #[.agg #[.bool nx, .slice ao n capa], .int .i64 (K : Int)] w1 (RetBits w1 (cpl x).toNat nx K)) := Lib.hid (fun w1 hb K hK =>
    rbits_any w1 nx ao n capa xs x (hx.below hb) (by omega) _ (by omega))
  have HBY : Hid (∀ w1, Below w.heap.size w w1 → Calls Try.prog 81 #[.agg #[.bool ny, .slice bo m capb], .int .i64 (k : Int)] w1 (RetBits w1 (cpl p).toNat ny k)) := Lib.hid (fun w1 hb =>
    rbits_any w1 ny bo m capb ys p (hy.below hb) (by omega) _ (by omega))
  obtain ⟨K, hK1, hK2, hKd⟩ : ∃ K : Nat, at' + k ≤ K ∧ L ≤ K ∧ ((L : Int) < at' + k ∧ K = at' + k ∨ ¬ (L : Int) < at' + k ∧ K = L) := by
    by_cases h : L < at' + k
    · exact ⟨at' + k, Nat.le_refl _, by omega, .inl ⟨by omega, rfl⟩⟩
    · exact ⟨L, by omega, Nat.le_refl _, .inr ⟨by omega, rfl⟩⟩
  have hKb : K ≤ 20000 := by omega
  clear hx hy hL
  go_enter Try.func59, Try.ntmps59
  go_wp2_with fail
  refine (HK.out _).mono ?_
  rintro e w1 ⟨rfl, rfl⟩
  go_wp2_with fail
  refine (HA.out _).mono ?_
  rintro e w1 ⟨rfl, rfl⟩
  go_wp2_with fail
  obtain ⟨W, hW⟩ : ∃ W, W = (((w.alloc (.cells #[.bool nx, .slice ao n capa] 31)).alloc (.cells #[.bool ny, .slice bo m capb] 31)).alloc (.cells #[.bool false, .slice none 0 0] 31)) := ⟨_, rfl⟩
  have hbW : Below w.heap.size w W := by rw [hW]; go_grown
  have hsW : w.heap.size + 1 + 1 + 1 ≤ W.heap.size := by rw [hW]; go_size
  obtain ⟨r1, r2, r3⟩ : W.heap[w.heap.size]? = some (.cells #[.bool nx, .slice ao n capa] 31 (0, 0)) ∧ W.heap[w.heap.size + 1]? = some (.cells #[.bool ny, .slice bo m capb] 31 (0, 0)) ∧ W.heap[w.heap.size + 1 + 1]? = some (.cells #[.bool false, .slice none 0 0] 31 (0, 0)) := by rw [hW]; exact three_rows w _ _ _
  rw [← hW]
  clear hW
  obtain ⟨x0, x1, -, -⟩ := blk2 r1
  have HKP : Hid (∀ w', Below W.heap.size W w' → (w'.cell? ⟨w.heap.size, 0, none⟩ = some (.bool nx) ∧ w'.cell? ⟨w.heap.size, 1, none⟩ = some (.slice ao n capa))) := Lib.hid (fun w' hb => ⟨(hb.cell (p := ⟨w.heap.size, 0, none⟩) (by dsimp only; omega)).trans x0, (hb.cell (p := ⟨w.heap.size, 1, none⟩) (by dsimp only; omega)).trans x1⟩)
  have R1 := Lib.hid r1
  have R2 := Lib.hid r2
  have R3 := Lib.hid r3
  clear x0 x1 r1 r2 r3
  have hw1 : IntKind.i64.wrap ((at' : Int) + k) = (at' : Int) + k := by rw [IntKind.wrap_i64]; omega
  go_cut [10] (fun l wx => ∃ (lo : Option Addr) (lc : Nat), l = .slice lo K lc ∧ RowB W.heap.size wx lo K lc ((List.range K).map (bitZ x)) ∧ Below W.heap.size W wx)
  case first =>
    have HFX : Hid (∀ w' lo lc, w'.ownsRow W.heap.size 4 1 (.slice lo K lc) K ((List.range K).map fun i => .bool (bitOf (cpl x).toNat nx i)) → RowB W.heap.size w' lo K lc ((List.range K).map (bitZ x))) := Lib.hid (fun w' lo lc h => by
      have e : bitOf (cpl x).toNat nx = bitZ x := by funext i; rw [HNX.out]; exact bitZ_of x i
      rw [e] at h
      exact RowB.of h)
    rcases hKd with ⟨hd1, rfl⟩ | ⟨hd1, rfl⟩
    · go_region_held3 (fun w' => w'.cell? ⟨w.heap.size, 0, none⟩ = some (.bool nx) ∧ w'.cell? ⟨w.heap.size, 1, none⟩ = some (.slice ao n capa)) ((first | exact HKP.out _ X2 | exact HKP.out _ X1 | exact HKP.out _ (Below.refl _ _).drew))
        (first | (go_at_call 81; have T2 := X1; clear T2; refine (HBX.out v1 (hbW.trans (X1.mono hbW.size)) (at' + k) (by omega)).mono ?_; rintro e v2 ⟨lo, lc, rfl, o2, u2⟩; have X2 : Below W.heap.size W v2 := X1.trans (u2.mono X1.size); have O2 := Lib.hid (HFX.out _ _ _ (ownsRow_mono o2 X1.size)); clear o2 u2) | (go_at_call 27; refine (HL.out _ (hbW.trans ((Below.refl _ _).drew.mono hbW.size))).mono ?_; rintro e v1 ⟨rfl, u1⟩; have X1 : Below W.heap.size W v1 := (Below.refl _ _).drew.trans u1))
      go_wp2_with fail
      go_meet
      exact ⟨_, _, rfl, O2.out, X2⟩
    · go_region_held3 (fun w' => w'.cell? ⟨w.heap.size, 0, none⟩ = some (.bool nx) ∧ w'.cell? ⟨w.heap.size, 1, none⟩ = some (.slice ao n capa)) ((first | exact HKP.out _ X2 | exact HKP.out _ X1 | exact HKP.out _ (Below.refl _ _).drew))
        (first | (go_at_call 81; have T2 := X1; clear T2; rw [if_neg (show ¬ (K : Int) < (at' : Int) + k by omega)]; refine (HBX.out v1 (hbW.trans (X1.mono hbW.size)) K (by omega)).mono ?_; rintro e v2 ⟨lo, lc, rfl, o2, u2⟩; have X2 : Below W.heap.size W v2 := X1.trans (u2.mono X1.size); have O2 := Lib.hid (HFX.out _ _ _ (ownsRow_mono o2 X1.size)); clear o2 u2) | (go_at_call 27; refine (HL.out _ (hbW.trans ((Below.refl _ _).drew.mono hbW.size))).mono ?_; rintro e v1 ⟨rfl, u1⟩; have X1 : Below W.heap.size W v1 := (Below.refl _ _).drew.trans u1))
      go_wp2_with fail
      go_meet
      exact ⟨_, _, rfl, O2.out, X2⟩
  case rest =>
    obtain ⟨lo, lc, rfl, hl, hbl⟩ := hcut
    rename World => wx
    have hsx := hbl.size
    have hbx : Below w.heap.size w wx := hbW.trans (hbl.mono hbW.size)
    obtain ⟨y0, y1, -, -⟩ := blk2 ((hbl.block _ (by omega)).trans R2.out)
    have HROW := Lib.hid hl
    have HGL : Hid (∀ g, lo = some ⟨g, 0, none⟩ → g < wx.heap.size) := Lib.hid (fun g hg => by subst hg; exact (World.ownsRow.lt hl g rfl).2)
    have HBL := Lib.hid hbl
    clear hl hbl HKP HL HBX HK HA hw1
    go_wp2_with fail
    refine (HBY.out wx hbx).mono ?_
    rintro e wp ⟨po, pc, rfl, op, up⟩
    have HPP : Hid (RowB wx.heap.size wp po k pc ((List.range k).map (bitZ p))) := Lib.hid (by
      have e : bitOf (cpl p).toNat ny = bitZ p := by funext i; rw [HNY.out]; exact bitZ_of p i
      rw [e] at op
      exact RowB.of op)
    have HRW := Lib.hid (show RowB W.heap.size wp lo K lc _ from rowKept HROW.out up)
    have hbp : Below W.heap.size W wp := HBL.out.trans (up.mono HBL.out.size)
    have HBP := Lib.hid hbp
    clear op up y0 y1 HROW HBL HBY hbp hbx
    go_wp2_with fail
    go_loopw [12] (fun i wr => ∃ (j : Nat) (bs : List Bool), j ≤ k ∧ i = .int .i64 j ∧ (∀ t, t < K → bs.getD t false = depB x p j at' t) ∧ RowB W.heap.size wr lo K lc bs ∧ RowB wx.heap.size wr po k pc ((List.range k).map (bitZ p)) ∧ Below W.heap.size W wr ∧ (∀ g, lo = some ⟨g, 0, none⟩ → g < wx.heap.size)) (fun i _ => k - (intOf i).toNat)
    case atStart =>
      refine ⟨0, _, Nat.zero_le _, rfl, fun t ht => ?_, HRW.out, HPP.out, HBP.out, ?_⟩
      · rw [range_getD _ _ _ ht]; unfold depB; rw [if_neg (by omega)]
      · exact HGL.out
    case round =>
      obtain ⟨j, bs, hj, rfl, hbs, hrl, hrp, hbel, hglt⟩ := hrel
      have HBS := Lib.hid hbs
      have HRL := Lib.hid hrl
      have HRP := Lib.hid hrp
      have HBE := Lib.hid hbel
      clear hbs hrl hrp hbel HRW HPP HBP
      by_cases hjk : j < k
      · have hjki : (j : Int) < k := by omega
        obtain ⟨g1, rfl, hg1, hg1l, hc1, hf1⟩ := HRL.out.at (j := at' + j) (by omega)
        obtain ⟨g2, rfl, hg2, hg2l, hc2, hf2⟩ := HRP.out.at (j := j) hjk
        rw [range_getD _ _ _ hjk] at hc2
        have hlt9 := hglt g1 rfl
        have hne : g1 ≠ g2 := by omega
        obtain ⟨b, hb⟩ : ∃ b, bitZ p j = b := ⟨_, rfl⟩
        rw [hb] at hc2
        have HBV := Lib.hid hb
        have hj0 : (0 : Int) ≤ j := by omega
        have ha0 : (0 : Int) ≤ (at' : Int) + j := by omega
        have haK : (at' : Int) + j < K := by omega
        have haT : ((at' : Int) + j).toNat = at' + j := by omega
        have HGLT := Lib.hid hglt
        clear hb hglt
        go_wp2_with fail
        go_roundw
        case rel =>
          have hlen := HRL.out.len
          refine ⟨j + 1, bs.set (at' + j) b, by omega, by go_num, fun t ht => ?_, HRL.out.set (at' + j) b, rowSetOther HRP.out _ (by dsimp only; omega), HBE.out.setCell (p := ⟨g1, at' + j, none⟩) hg1 _, HGLT.out⟩
          have hold := HBS.out t ht
          unfold depB at hold ⊢
          by_cases hta : t = at' + j
          · subst hta
            rw [if_pos (by omega), show at' + j - at' = j by omega, HBV.out]
            simp [List.getD, show at' + j < bs.length by omega]
          · have hset : (bs.set (at' + j) b).getD t false = bs.getD t false := by
              simp [List.getD, Ne.symm hta]
            rw [hset, hold]
            by_cases h1 : at' ≤ t ∧ t < at' + j
            · rw [if_pos h1, if_pos (by omega)]
            · rw [if_neg h1, if_neg (by omega)]
        case measure => simp [intOf]; omega
      · obtain rfl : j = k := by omega
        have hjki : ¬ (j : Int) < j := by omega
        have hrow1 := (HBE.out.block _ (by omega)).trans R1.out
        obtain ⟨x0, x1, -, -⟩ := blk2 hrow1
        have hrow3 := (HBE.out.block _ (by omega)).trans R3.out
        have HROW3 := Lib.hid hrow3
        have hszr := HBE.out.size
        obtain ⟨D, hD⟩ : ∃ D, ofSign nx ((bval (fun i => bs.getD i false != nx) K : Nat) : Int) = D := ⟨_, rfl⟩
        have HDB : Hid (∀ i, bitZ D i = depB x p j at' i) := Lib.hid (fun i => by rw [← hD]; exact rdep_bits HNX.out hK1 (by rw [HLL.out]; exact hK2) HBS.out i)
        have hof := rof_pos wr lo K lc (fun i => bs.getD i false) nx HRL.out.slb (by omega)
        rw [hD] at hof
        have HOF := Lib.hid hof
        have hbw : Below w.heap.size w wr := hbW.trans (HBE.out.mono hbW.size)
        clear hrow1 hrow3 hD hof hglt
        go_wp2_with fail
        refine HOF.out.mono ?_
        rintro e w2 ⟨nE, aE, kE, cE, zE, rfl, iE, gE, uE⟩
        have r3 := (uE.block _ (by omega)).trans HROW3.out
        obtain ⟨c0, c1, f0, f1⟩ := blk2 r3
        have IE := Lib.hid (iE.stored r3 (.bool nE) (.slice aE kE cE))
        have hb4 : Below w.heap.size w w2 := hbw.trans (uE.mono hbw.size)
        have hz4 := uE.size
        clear iE r3 uE
        go_wp2_with fail
        refine bodyPost_ret (v := .tuple #[.agg #[.bool nE, .slice aE kE cE], .int .i64 0]) (by simp [results, Try.results59, go_sem, c0, c1]) rfl ?_
        exact ⟨_, _, _, _, _, _, rfl, IE.out, HDB.out, by omega, (hb4.setCell (p := ⟨w.heap.size + 1 + 1, 0, none⟩) (by dsimp only; omega) _).setCell (p := ⟨w.heap.size + 1 + 1, 1, none⟩) (by dsimp only; omega) _⟩
end Go.Proofs.Ytipjbknoeoajnaa
