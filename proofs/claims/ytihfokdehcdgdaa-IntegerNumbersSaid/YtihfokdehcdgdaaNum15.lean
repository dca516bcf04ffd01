/- The reference's Bits. -/
import Derived.Test.YtihfokdehcdgdaaNum14
import Derived.Deep.AppendLies
import Derived.Maps.AppendAt
namespace Go.Proofs.Ytihfokdehcdgdaa
open Go.RowKit
set_option autoImplicit false
set_option linter.unusedVariables false

theorem info_bool : (Try.prog.info? 4).map (fun i => (i.zero, i.size, i.bytes)) = some (some (.bool false), 1, 1) := by kernel_rfl

theorem ownsRow_mono {B B' : Nat} {w : World} {e : TypeId} {s : Nat} {v : Value} {n : Nat} {xs : List Value} (h : w.ownsRow B e s v n xs) (hB : B' ≤ B) : w.ownsRow B' e s v n xs := by
  refine ⟨h.1, ?_⟩
  rcases h.2 with h2 | ⟨g, c, cur, hv, hbg, r⟩
  · exact .inl h2
  · exact .inr ⟨g, c, cur, hv, Nat.le_trans hB hbg, r⟩

/-- Bit i of y, turned round if neg. -/
def bitOf (y : Nat) (neg : Bool) (i : Nat) : Bool := (y / 2 ^ i % 2 == 1) != neg

/-- The bits were returned. -/
def RetBits (w : World) (y : Nat) (neg : Bool) (k : Nat) (e : Ending) (w' : World) : Prop :=
  ∃ ao cap, e = .returned (.slice ao k cap) ∧ w'.ownsRow w.heap.size 4 1 (.slice ao k cap) k ((List.range k).map fun i => .bool (bitOf y neg i)) ∧ Below w.heap.size w w'

set_option maxRecDepth 100000 in
theorem rbits_pos (w : World) (ao : Option Addr) (n cap : Nat) (xs : List Int) (x : Int) (hx : RefAt w false ao n cap xs x) (hn : n ≤ 4294967296) (k : Nat) (hk : k ≤ 1099511627776) :
    Calls Try.prog 81 #[.agg #[.bool false, .slice ao n cap], .int .i64 (k : Int)] w (RetBits w (cpl x).toNat false k) := by
  have HX := Lib.hid hx
  have h0 := dval_nonneg (r := 65536) (by omega) hx.lim
  have hx0 : 0 ≤ x := by rw [hx.val]; simp [sgn]; omega
  have HC : Hid ((cpl x).toNat = x.natAbs) := Lib.hid (by unfold cpl; rw [if_neg (by omega)]; omega)
  obtain ⟨i0, hi, hz0, hz1, hz2⟩ := info_parts info_bool
  clear hx h0
  go_enter Try.func81, Try.ntmps81
  go_wp2_with fail
  obtain ⟨w0, hw00⟩ : ∃ w0, w0 = ((w.alloc (.cells #[.bool false, .slice ao n cap] 31)).alloc (.cells #[.bool false, .slice ao n cap] 31)) := ⟨_, rfl⟩
  rw [← hw00]
  obtain ⟨B, hB⟩ : ∃ B, B = w.heap.size + 1 := ⟨_, rfl⟩
  rw [← hB]
  have q2 := heap_alloc2 w (.cells #[.bool false, .slice ao n cap] 31) (.cells #[.bool false, .slice ao n cap] 31)
  rw [← hw00, ← hB] at q2
  obtain ⟨y0, y1, -, -⟩ := blk2 q2.1
  obtain ⟨x0, -, -, -⟩ := blk2 q2.2
  have HW := Lib.hid (show Below w.heap.size w w0 by rw [hw00]; go_grown)
  have hw0 : w.heap.size ≤ w0.heap.size := HW.out.size
  have HY := Lib.hid (HX.out.below HW.out)
  have hwB : B < w0.heap.size := World.block_lt_of_cell? w0 _ y0
  have hwl : w.heap.size < w0.heap.size := by rw [hw00]; simp; omega
  clear q2 hw00 hB
  obtain ⟨ya, hya⟩ : ∃ a, a = ao := ⟨_, rfl⟩
  obtain ⟨yn, hyn⟩ : ∃ a, a = n := ⟨_, rfl⟩
  obtain ⟨yc, hyc⟩ : ∃ a, a = cap := ⟨_, rfl⟩
  rw [← hya, ← hyn, ← hyc] at y1
  rw [← hya, ← hyn, ← hyc] at HY
  have hynl : yn ≤ 34359738368 := by omega
  clear hya hyn hyc
  go_loopw [6, 7] (fun o i wr => ∃ (j : Nat) (to : Option Addr) (tc : Nat), j ≤ k ∧ i = .int .i64 j ∧ o = .slice to j tc ∧ wr.ownsRow w0.heap.size 4 1 (.slice to j tc) j ((List.range j).map fun i => .bool (bitOf (cpl x).toNat false i)) ∧
      (wr.cell? ⟨w.heap.size, 0, none⟩ = some (.bool false) ∧ wr.cell? ⟨B, 0, none⟩ = some (.bool false) ∧ wr.cell? ⟨B, 1, none⟩ = some (.slice ya yn yc)) ∧ Below w0.heap.size w0 wr) (fun _ i _ => k - (intOf i).toNat)
  case atStart => exact ⟨0, none, 0, by omega, rfl, rfl, World.ownsRow_nil _ _ _ _, ⟨x0, y0, y1⟩, .refl _ _⟩
  case round =>
    obtain ⟨j, to, tc, hj, rfl, rfl, hown, ⟨g0, g1, g2⟩, hbel⟩ := hrel
    have HO := Lib.hid hown
    have HB := Lib.hid hbel
    have hsz := Nat.le_trans hw0 hbel.size
    have hlB : B < wr.heap.size := World.block_lt_of_cell? wr _ g1
    have hl0 : w.heap.size < wr.heap.size := World.block_lt_of_cell? wr _ g0
    have hownb : ∀ g, (Value.slice to j tc).ownBlock = some g → w0.heap.size ≤ g := fun g hg => (World.ownsRow.lt hown g hg).1
    have hszw := hbel.size
    clear hown hbel
    by_cases hjk : j < k
    · have hji : (j : Int) < k := by omega
      obtain ⟨sb, hsb⟩ : ∃ sb, (Int.natAbs x / 2 ^ j % 2 == 1) = sb := ⟨_, rfl⟩
      have HSET : Hid (∀ w', Below w0.heap.size w0 w' → Calls Try.prog 105 #[.agg #[.bool false, .slice ya yn yc], .int .i64 (j : Int)] w' (RetV w' (.bool sb))) := Lib.hid (fun w' hb => by
        have := rset_any w' false ya yn yc xs x (HY.out.below hb) hynl j (by omega)
        rwa [hsb] at this)
      have HV : Hid (bitOf (cpl x).toNat false j = sb) := Lib.hid (by unfold bitOf; rw [HC.out, hsb]; simp)
      have hun := Try.underlying104
      clear hsb
      go_wp2_with fail
      go_region_held3 (fun w' => w'.cell? ⟨w.heap.size, 0, none⟩ = some (.bool false) ∧ w'.cell? ⟨B, 0, none⟩ = some (.bool false) ∧ w'.cell? ⟨B, 1, none⟩ = some (.slice ya yn yc)) (((try dsimp only); (repeat' apply And.intro) <;> (first | (go_keep; done) | (go_split_ands; rw [hb3.cell (by first | (dsimp only; omega) | go_size)]; assumption) | (go_split_ands; rw [hgrow.cell_far _ (by simp; omega) (by intro h; have := hownb _ h.symm; simp at this; omega)]; assumption))))
        (first | (go_at_call 105; refine (HSET.out _ HB.out.drew).mono ?_; rintro e w3 ⟨rfl, hb3⟩; have hbw3 : Below wr.heap.size wr w3 := (Below.refl _ _).drew.trans hb3; have hz3 := hbw3.size; have HO3 := Lib.hid ((ownsRow_kept HO.out hbw3).alloc (.cells #[.bool (sb)] 4))) | (refine step_append_lies _ (by rfl) _ _ 104 (by rfl) w0.heap.size 4 i0 (.bool false) 1 1 hun hi hz0 hz1 hz2 rfl (by omega) (.slice to j tc) j ((List.range j).map fun i => .bool (bitOf (cpl x).toNat false i)) (by rfl) HO3.out ⟨w3.heap.size, 0, none⟩ 1 1 [.bool (sb)] (by rfl) rfl (cell_one_new _ _ _) (by intro u hu; simp at hu; subst hu; rfl) (by omega) (by unfold maxLen; omega) (by omega) (by simp; omega) (w3.heap.size + 1) (by simp) ?_; intro g2 tc2 w4 hown4 hgrow hat hlt))
      have hh : w4.cell? ⟨w.heap.size, 0, none⟩ = some (.bool false) ∧ w4.cell? ⟨B, 0, none⟩ = some (.bool false) ∧ w4.cell? ⟨B, 1, none⟩ = some (.slice ya yn yc) := by assumption
      have hrow : w4.ownsRow w0.heap.size 4 1 (.slice (some ⟨g2, 0, none⟩) (j + 1) tc2) (j + 1) ((List.range (j + 1)).map fun i => .bool (bitOf (cpl x).toNat false i)) := by
        rw [List.range_succ, List.map_append, List.map_singleton, HV.out]
        exact hown4
      have hb5 : Below w0.heap.size w0 w4 := Below.grown ((HB.out.trans (hbw3.mono hszw)).alloc (by omega) _) hgrow (by simp; omega) hownb
      have HH := Lib.hid hh
      have HR := Lib.hid hrow
      have HB5 := Lib.hid hb5
      clear hh hrow hb5 hown4 hgrow hat
      go_wp2_with fail
      go_roundw
      case rel => exact ⟨j + 1, some ⟨g2, 0, none⟩, tc2, by omega, by go_num, rfl, HR.out, HH.out, HB5.out⟩
      case measure => simp [intOf]; omega
    · obtain rfl : j = k := by omega
      have hji : ¬ (j : Int) < j := by omega
      go_wp2_with fail
      go_ret
      exact ⟨to, tc, rfl, ownsRow_mono HO.out hw0, (HW.out.trans (HB.out.mono hw0)).mono (by omega)⟩

set_option maxRecDepth 100000 in
theorem rbits_neg (w : World) (ao : Option Addr) (n cap : Nat) (xs : List Int) (x : Int) (hx : RefAt w true ao n cap xs x) (hn : n ≤ 4294967296) (k : Nat) (hk : k ≤ 1099511627776) :
    Calls Try.prog 81 #[.agg #[.bool true, .slice ao n cap], .int .i64 (k : Int)] w (RetBits w (cpl x).toNat true k) := by
  have HX := Lib.hid hx
  have h0 := dval_pos_of_top (r := 65536) (by omega) hx.lim hx.top (hx.sign rfl)
  have hp := rpow_pos (r := 65536) (by omega) (xs.length - 1)
  have hx0 : x < 0 := by rw [hx.val]; simp [sgn]; omega
  obtain ⟨y, hy⟩ : ∃ y, -1 - x = y := ⟨_, rfl⟩
  have HC : Hid ((cpl x).toNat = y.natAbs) := Lib.hid (by unfold cpl; rw [if_pos hx0]; omega)
  have HYV := Lib.hid hy
  obtain ⟨i0, hi, hz0, hz1, hz2⟩ := info_parts info_bool
  clear hx h0 hp hy
  go_enter Try.func81, Try.ntmps81
  go_wp2_with fail
  go_region_held3 (fun w' => w'.cell? ⟨w.heap.size, 0, none⟩ = some (.bool true) ∧ w'.cell? ⟨w.heap.size, 1, none⟩ = some (.slice ao n cap)) (((try dsimp only); (repeat' apply And.intro) <;> (first | (go_keep; done) | (go_split_ands; rw [World.cell?_setCell_far _ _ _ _ (by dsimp only; omega), World.cell?_setCell_far _ _ _ _ (by dsimp only; omega)]; assumption) | (go_split_ands; rw [hb1.cell (by go_size)]; assumption) | (go_split_ands; rw [hb3.cell (by first | (dsimp only; omega) | go_size)]; assumption))))
    (first | (go_at_call 18; refine (rnew_any _ (-1) (by omega) (by omega)).mono ?_; rintro e w1 ⟨n1, a1, k1, cc1, z1, rfl, hint1, hk1, hb1⟩; have hr1 := (hb1.block (w.heap.size + 1) (by simp [World.drew])).trans (heap_alloc2 _ _ _).1; have hz1 : w.heap.size + 1 + 1 ≤ w1.heap.size := Nat.le_trans (by go_size) hb1.size; have hb2 : Below w.heap.size w w1 := Below.trans (by go_grown) (hb1.mono (by go_size)); have HI1 := Lib.hid hint1; clear hint1) | (go_at_call 41; refine (rsub_any _ n1 true a1 ao k1 n cc1 cap z1 xs (-1) x HI1.out (HX.out.below hb2) (by omega) hn).mono ?_; rintro e w2 ⟨yneg, ya, yn, yc, ys, rfl, hint, hn', hb3⟩; have hr2 := (hb3.block _ (by omega)).trans hr1; obtain ⟨c0, c1, f0, f1⟩ := blk2 hr2; have hz3 := hb3.size; have HI := Lib.hid (hint.stored hr2 (.bool yneg) (.slice ya yn yc)); clear hint hr1))
  have hh : ((w2.setCell ⟨w.heap.size + 1, 0, none⟩ (.bool yneg)).setCell ⟨w.heap.size + 1, 1, none⟩ (.slice ya yn yc)).cell? ⟨w.heap.size, 0, none⟩ = some (.bool true) ∧ ((w2.setCell ⟨w.heap.size + 1, 0, none⟩ (.bool yneg)).setCell ⟨w.heap.size + 1, 1, none⟩ (.slice ya yn yc)).cell? ⟨w.heap.size, 1, none⟩ = some (.slice ao n cap) := by assumption
  obtain ⟨x0, -⟩ := hh
  have y0 : ((w2.setCell ⟨w.heap.size + 1, 0, none⟩ (.bool yneg)).setCell ⟨w.heap.size + 1, 1, none⟩ (.slice ya yn yc)).cell? ⟨w.heap.size + 1, 0, none⟩ = some (.bool yneg) := by rw [World.cell?_setCell_other _ _ _ _ (by simp)]; exact World.cell?_setCell_same _ _ _ c0
  have y1 : ((w2.setCell ⟨w.heap.size + 1, 0, none⟩ (.bool yneg)).setCell ⟨w.heap.size + 1, 1, none⟩ (.slice ya yn yc)).cell? ⟨w.heap.size + 1, 1, none⟩ = some (.slice ya yn yc) := World.cell?_setCell_same _ _ _ ((World.cell?_setCell_other _ _ _ _ (by simp)).trans c1)
  obtain ⟨w0, hw00⟩ : ∃ w0, w0 = ((w2.setCell ⟨w.heap.size + 1, 0, none⟩ (.bool yneg)).setCell ⟨w.heap.size + 1, 1, none⟩ (.slice ya yn yc)) := ⟨_, rfl⟩
  have hbw : Below w.heap.size w ((w2.setCell ⟨w.heap.size + 1, 0, none⟩ (.bool yneg)).setCell ⟨w.heap.size + 1, 1, none⟩ (.slice ya yn yc)) := ((hb2.trans (hb3.mono hb2.size)).setCell (by dsimp only; omega) _).setCell (by dsimp only; omega) _
  have hwl : w.heap.size + 1 < w0.heap.size := by rw [hw00]; simp; omega
  rw [← hw00] at x0 y0 y1 HI hbw ⊢
  obtain ⟨B, hB⟩ : ∃ B, B = w.heap.size + 1 := ⟨_, rfl⟩
  rw [← hB] at y0 y1 hwl ⊢
  have HW := Lib.hid hbw
  have hw0 : w.heap.size ≤ w0.heap.size := hbw.size
  rw [HYV.out] at HI
  have HY := HI
  have hwB : B < w0.heap.size := hwl
  have hwl : w.heap.size < w0.heap.size := by omega
  have hynl : yn ≤ 34359738368 := by omega
  clear hbw hB hw00 hr2 c0 c1 f0 f1 hz1 hz3 hb1 hb2 hb3 HI1 HI hn' hk1 hx0
  go_wp2_with fail
  go_loopw [6, 7] (fun o i wr => ∃ (j : Nat) (to : Option Addr) (tc : Nat), j ≤ k ∧ i = .int .i64 j ∧ o = .slice to j tc ∧ wr.ownsRow w0.heap.size 4 1 (.slice to j tc) j ((List.range j).map fun i => .bool (bitOf (cpl x).toNat true i)) ∧
      (wr.cell? ⟨w.heap.size, 0, none⟩ = some (.bool true) ∧ wr.cell? ⟨B, 0, none⟩ = some (.bool yneg) ∧ wr.cell? ⟨B, 1, none⟩ = some (.slice ya yn yc)) ∧ Below w0.heap.size w0 wr) (fun _ i _ => k - (intOf i).toNat)
  case atStart => exact ⟨0, none, 0, by omega, rfl, rfl, World.ownsRow_nil _ _ _ _, ⟨x0, y0, y1⟩, .refl _ _⟩
  case round =>
    obtain ⟨j, to, tc, hj, rfl, rfl, hown, ⟨g0, g1, g2⟩, hbel⟩ := hrel
    have HO := Lib.hid hown
    have HB := Lib.hid hbel
    have hsz := Nat.le_trans hw0 hbel.size
    have hlB : B < wr.heap.size := World.block_lt_of_cell? wr _ g1
    have hl0 : w.heap.size < wr.heap.size := World.block_lt_of_cell? wr _ g0
    have hownb : ∀ g, (Value.slice to j tc).ownBlock = some g → w0.heap.size ≤ g := fun g hg => (World.ownsRow.lt hown g hg).1
    have hszw := hbel.size
    clear hown hbel
    by_cases hjk : j < k
    · have hji : (j : Int) < k := by omega
      obtain ⟨sb, hsb⟩ : ∃ sb, (Int.natAbs y / 2 ^ j % 2 == 1) = sb := ⟨_, rfl⟩
      have HSET : Hid (∀ w', Below w0.heap.size w0 w' → Calls Try.prog 105 #[.agg #[.bool yneg, .slice ya yn yc], .int .i64 (j : Int)] w' (RetV w' (.bool sb))) := Lib.hid (fun w' hb => by
        have := rset_any w' yneg ya yn yc ys y (HY.out.below hb) hynl j (by omega)
        rwa [hsb] at this)
      have HV : Hid (bitOf (cpl x).toNat true j = !sb) := Lib.hid (by unfold bitOf; rw [HC.out, hsb]; simp)
      have hun := Try.underlying104
      clear hsb
      go_wp2_with fail
      go_region_held3 (fun w' => w'.cell? ⟨w.heap.size, 0, none⟩ = some (.bool true) ∧ w'.cell? ⟨B, 0, none⟩ = some (.bool yneg) ∧ w'.cell? ⟨B, 1, none⟩ = some (.slice ya yn yc)) (((try dsimp only); (repeat' apply And.intro) <;> (first | (go_keep; done) | (go_split_ands; rw [hb3.cell (by first | (dsimp only; omega) | go_size)]; assumption) | (go_split_ands; rw [hgrow.cell_far _ (by simp; omega) (by intro h; have := hownb _ h.symm; simp at this; omega)]; assumption))))
        (first | (go_at_call 105; refine (HSET.out _ HB.out.drew).mono ?_; rintro e w3 ⟨rfl, hb3⟩; have hbw3 : Below wr.heap.size wr w3 := (Below.refl _ _).drew.trans hb3; have hz3 := hbw3.size; have HO3 := Lib.hid ((ownsRow_kept HO.out hbw3).alloc (.cells #[.bool (!sb)] 4))) | (refine step_append_lies _ (by rfl) _ _ 104 (by rfl) w0.heap.size 4 i0 (.bool false) 1 1 hun hi hz0 hz1 hz2 rfl (by omega) (.slice to j tc) j ((List.range j).map fun i => .bool (bitOf (cpl x).toNat true i)) (by rfl) HO3.out ⟨w3.heap.size, 0, none⟩ 1 1 [.bool (!sb)] (by rfl) rfl (cell_one_new _ _ _) (by intro u hu; simp at hu; subst hu; rfl) (by omega) (by unfold maxLen; omega) (by omega) (by simp; omega) (w3.heap.size + 1) (by simp) ?_; intro g2 tc2 w4 hown4 hgrow hat hlt))
      have hh : w4.cell? ⟨w.heap.size, 0, none⟩ = some (.bool true) ∧ w4.cell? ⟨B, 0, none⟩ = some (.bool yneg) ∧ w4.cell? ⟨B, 1, none⟩ = some (.slice ya yn yc) := by assumption
      have hrow : w4.ownsRow w0.heap.size 4 1 (.slice (some ⟨g2, 0, none⟩) (j + 1) tc2) (j + 1) ((List.range (j + 1)).map fun i => .bool (bitOf (cpl x).toNat true i)) := by
        rw [List.range_succ, List.map_append, List.map_singleton, HV.out]
        exact hown4
      have hb5 : Below w0.heap.size w0 w4 := Below.grown ((HB.out.trans (hbw3.mono hszw)).alloc (by omega) _) hgrow (by simp; omega) hownb
      have HH := Lib.hid hh
      have HR := Lib.hid hrow
      have HB5 := Lib.hid hb5
      clear hh hrow hb5 hown4 hgrow hat
      go_wp2_with fail
      go_roundw
      case rel => exact ⟨j + 1, some ⟨g2, 0, none⟩, tc2, by omega, by go_num, rfl, HR.out, HH.out, HB5.out⟩
      case measure => simp [intOf]; omega
    · obtain rfl : j = k := by omega
      have hji : ¬ (j : Int) < j := by omega
      go_wp2_with fail
      go_ret
      exact ⟨to, tc, rfl, ownsRow_mono HO.out hw0, (HW.out.trans (HB.out.mono hw0)).mono (by omega)⟩
end Go.Proofs.Ytihfokdehcdgdaa
