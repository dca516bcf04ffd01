/- Contract of Boole, word by word. -/
import Derived.Test.YtpakfknacmcohaaBits2
import Derived.StillTailTactics
namespace Go.Proofs.Ytpakfknacmcohaa
open Go.RowKit
set_option autoImplicit false
set_option linter.unusedVariables false

theorem bits_range (o : BinOp) (x y : Int) : 0 ≤ bits o .u32 x y ∧ bits o .u32 x y ≤ 4294967295 := by
  unfold bits
  simp only [IntKind.wrap_u32]
  omega
theorem comb_range (op a b : Int) : 0 ≤ comb op a b ∧ comb op a b ≤ 4294967295 := by
  have h : ∀ p, 0 ≤ combTo op a b p ∧ combTo op a b p ≤ 4294967295 := by
    intro p
    induction p with
    | zero => simp [combTo]
    | succ p ih =>
      unfold combTo
      split
      · exact bits_range _ _ _
      · exact ih
  exact h 4

theorem combiner_any (w : World) (op : Int) : Calls Try.prog 100 #[.int .i64 op] w fun e w' => e = .returned (.func (Fn.func 126) #[] #[.pointer (some ⟨w.heap.size, 0, none⟩)]) ∧ w' = w.alloc (.cells #[.int .i64 op] 3) := by
  go_enter Try.func100, Try.ntmps100
  go_wp2
  go_ret
  exact ⟨rfl, rfl⟩

/-- Four new blocks. -/
def FourO (N : Nat) (w : World) (a b c d : Obj) : Prop := w.heap[N]? = some a ∧ w.heap[N + 1]? = some b ∧ w.heap[N + 1 + 1]? = some c ∧ w.heap[N + 1 + 1 + 1]? = some d
theorem FourO.below {N : Nat} {w w' : World} {a b c d : Obj} (h : FourO N w a b c d) (hb : Below w.heap.size w w') (hN : N + 1 + 1 + 1 + 1 ≤ w.heap.size) : FourO N w' a b c d := by
  obtain ⟨h1, h2, h3, h4⟩ := h
  exact ⟨by rw [hb.block _ (by omega)]; exact h1, by rw [hb.block _ (by omega)]; exact h2, by rw [hb.block _ (by omega)]; exact h3, by rw [hb.block _ (by omega)]; exact h4⟩
theorem FourO.made (w : World) (a b c d : Obj) : FourO w.heap.size ((((w.alloc a).alloc b).alloc c).alloc d).drew a b c d := by
  refine ⟨?_, ?_, ?_, ?_⟩
  · show ((((w.alloc a).alloc b).alloc c).alloc d).heap[w.heap.size]? = _
    rw [heap_alloc_old _ _ (by simp; omega), heap_alloc_old _ _ (by simp; omega), heap_alloc_old _ _ (by simp), heap_alloc_new]
  · show ((((w.alloc a).alloc b).alloc c).alloc d).heap[w.heap.size + 1]? = _
    rw [heap_alloc_old _ _ (by simp), heap_alloc_old _ _ (by simp)]; have := heap_alloc_new (w.alloc a) b; simpa using this
  · show ((((w.alloc a).alloc b).alloc c).alloc d).heap[w.heap.size + 1 + 1]? = _
    rw [heap_alloc_old _ _ (by simp)]; exact heap_alloc3 w _ _ _
  · exact heap_alloc4 w _ _ _ _
theorem ent4D (w : World) (a b c d : Obj) : Below w.heap.size w ((((w.alloc a).alloc b).alloc c).alloc d).drew := ((ent3 w a b c).alloc (by simp; omega) _).drew
theorem size4D (w : World) (a b c d : Obj) : w.heap.size + 1 + 1 + 1 + 1 ≤ ((((w.alloc a).alloc b).alloc c).alloc d).drew.heap.size := by
  show _ ≤ ((((w.alloc a).alloc b).alloc c).alloc d).heap.size
  simp
theorem FourO.store {N : Nat} {w : World} {a b c d : Obj} (h : FourO N w a b c d) {g j : Nat} {u : Value} (hg : N + 1 + 1 + 1 + 1 ≤ g) : FourO N (w.setCell ⟨g, j, none⟩ u) a b c d := by
  obtain ⟨h1, h2, h3, h4⟩ := h
  exact ⟨by rw [Below.heap_setCell _ _ _ _ (by dsimp only; omega)]; exact h1, by rw [Below.heap_setCell _ _ _ _ (by dsimp only; omega)]; exact h2, by rw [Below.heap_setCell _ _ _ _ (by dsimp only; omega)]; exact h3, by rw [Below.heap_setCell _ _ _ _ (by dsimp only; omega)]; exact h4⟩
theorem cell_of_one' {w : World} {B : Nat} {v : Value} {t : TypeId} (h : w.heap[B]? = some (.cells #[v] t (0, 0))) : w.cell? ⟨B, 0, none⟩ = some v := by rw [cell_of_row w B 0 _ t (0, 0) h]; rfl

/-- The integer that the words of both make, combined word by word. -/
def RetBoole (w : World) (x y op : Int) (k : Nat) (e : Ending) (w' : World) : Prop :=
  ∃ neg ao n cap zs As Bs, e = .returned (.tuple #[.agg #[.bool neg, .slice ao n cap], .int .i64 0]) ∧ As.length = k ∧ Lim As ∧ val As = x % 4294967296 ^ k ∧ Bs.length = k ∧ Lim Bs ∧ val Bs = y % 4294967296 ^ k ∧
    IntAt w' neg ao n cap zs (sval k (val (List.zipWith (comb op) As Bs))) ∧ n ≤ k ∧ Below w.heap.size w w'

set_option maxRecDepth 100000 in
theorem boole_ge (w : World) (nx ny : Bool) (ao bo : Option Addr) (n m capa capb : Nat) (xs ys : List Int) (x y op : Int) (hx : IntAt w nx ao n capa xs x) (hy : IntAt w ny bo m capb ys y) (ho0 : 0 ≤ op) (ho1 : op ≤ 15) (hlt : ¬ n < m) (hn : n ≤ 4294967296) (hm : m ≤ 4294967296) :
    Calls Try.prog 51 #[.agg #[.bool nx, .slice ao n capa], .int .i64 op, .agg #[.bool ny, .slice bo m capb]] w (RetBoole w x y op (n + 1)) := by
  have HWX : Hid (∀ w1, Below w.heap.size w w1 → Calls Try.prog 101 #[.agg #[.bool nx, .slice ao n capa], .int .i64 ((n + 1 : Nat) : Int)] w1 (RetWords w1 x (n + 1))) :=
    fun w1 hb => words_any w1 nx ao n capa xs x (n + 1) (hx.below hb) (by omega)
  have HWY : Hid (∀ w1, Below w.heap.size w w1 → Calls Try.prog 101 #[.agg #[.bool ny, .slice bo m capb], .int .i64 ((n + 1 : Nat) : Int)] w1 (RetWords w1 y (n + 1))) :=
    fun w1 hb => words_any w1 ny bo m capb ys y (n + 1) (hy.below hb) (by omega)
  have hmx : n ≤ 4294967296 ∧ m ≤ 4294967296 := ⟨hn, hm⟩
  go_enter Try.func51, Try.ntmps51
  go_wp2_with fail
  refine (combiner_any _ op).mono ?_
  rintro e w1 ⟨rfl, rfl⟩
  go_wp2_with fail
  go_region_held3 (fun w' => w'.cell? ⟨w.heap.size, 0, none⟩ = some (.bool nx) ∧ w'.cell? ⟨w.heap.size, 1, none⟩ = some (.slice ao n capa) ∧ w'.cell? ⟨w.heap.size + 1, 0, none⟩ = some (.bool ny) ∧ w'.cell? ⟨w.heap.size + 1, 1, none⟩ = some (.slice bo m capb)) (((try dsimp only); (repeat' apply And.intro) <;> (first | (go_keep; done) | (go_split_ands; rw [hb1.cell (by go_size)]; assumption) | (go_split_ands; rw [hb3.cell (by go_size)]; assumption))))
    (first | (go_at_call_of 101 nx; refine (HWX.out _ ?_).mono ?_; (exact ent4D _ _ _ _ _); rintro e w1 ⟨g1, As, rfl, hm1, hl1, hlim1, hv1, hb1⟩; have hz1 := Nat.le_trans (size4D _ _ _ _ _) hb1.size; have hfo1 := FourO.below (FourO.made _ _ _ _ _) hb1 (size4D _ _ _ _ _); have hbw1 := (ent4D _ _ _ _ _).trans (hb1.mono (Nat.le_trans (by omega) (size4D _ _ _ _ _))); have HF1 := Lib.hid hfo1; have HM1 := Lib.hid hm1; have HL1 := Lib.hid hl1; have HV1 := Lib.hid hv1; clear hfo1 hm1 hl1 hv1) | (go_at_call_of 101 ny; refine (HWY.out _ hbw1).mono ?_; rintro e w2 ⟨g2, Bs, rfl, hm2, hl2, hlim2, hv2, hb3⟩; have HF2 := Lib.hid (FourO.below HF1.out hb3 hz1); have HM2 := Lib.hid hm2; have HL2 := Lib.hid hl2; have HV2 := Lib.hid hv2; clear hm2 hl2 hv2))
  go_wp2_with fail
  have hg1 : w.heap.size + 1 + 1 + 1 + 1 ≤ g1 := Nat.le_trans (size4D _ _ _ _ _) HM1.out.ge
  have hg1' : g1 < w1.heap.size := World.block_lt_of_cell? w1 _ (HM1.out.cell 0 (by rw [HL1.out]; omega)).1
  have hg2 : w1.heap.size ≤ g2 := HM2.out.ge
  have hm1 : Mine w.heap.size w2 g1 As := by
    have := HM1.out.kept hb3
    exact Own.mono this (Nat.le_trans (by omega) (size4D _ _ _ _ _))
  have hm2 : Mine w.heap.size w2 g2 Bs := Own.mono HM2.out (by omega)
  have hbw2 : Below w.heap.size w w2 := hbw1.trans (hb3.mono (Nat.le_trans (by omega) hz1))
  have HM1' := Lib.hid hm1
  have HM2' := Lib.hid hm2
  clear hm1 hm2 hb1 hb3 HF1 HWX HWY
  obtain ⟨cs0, hcs0⟩ : ∃ cs0, cs0 = As := ⟨_, rfl⟩
  go_loopw [38] (fun i wr => ∃ (j : Nat) (cs : List Int), j ≤ n + 1 ∧ i = .int .i64 j ∧ cs.length = n + 1 ∧ Lim cs ∧ (∀ t, cs.getD t 0 = if t < j then comb op (As.getD t 0) (Bs.getD t 0) else As.getD t 0) ∧
      Mine w.heap.size wr g1 cs ∧ Mine w.heap.size wr g2 Bs ∧ FourO w.heap.size wr (.cells #[.bool nx, .slice ao n capa] 28) (.cells #[.bool ny, .slice bo m capb] 28) (.cells #[.bool false, .slice none 0 0] 28) (.cells #[.int .i64 op] 3) ∧ Below w.heap.size w wr)
    (fun i _ => n + 1 - (intOf i).toNat)
  case atStart => exact ⟨0, As, Nat.zero_le _, rfl, HL1.out, hlim1, fun t => by rw [if_neg (by omega)], HM1'.out, HM2'.out, HF2.out, hbw2⟩
  case round =>
    obtain ⟨j, cs, hj, rfl, hcl, hcl2, hall, hmc, hmb, hfo, hbel⟩ := hrel
    have HCL := Lib.hid hcl
    have HALL := Lib.hid hall
    have HMC := Lib.hid hmc
    have HMB := Lib.hid hmb
    have HFO := Lib.hid hfo
    clear hcl hall hmc hmb hfo
    by_cases hjs : j < n + 1
    · obtain ⟨a, ha⟩ : ∃ a, As.getD j 0 = a := ⟨_, rfl⟩
      obtain ⟨b, hb⟩ : ∃ b, Bs.getD j 0 = b := ⟨_, rfl⟩
      have hla := Lim_getD hlim1 j
      have hlb := Lim_getD hlim2 j
      obtain ⟨ca, fa⟩ := HMC.out.cell j (by rw [HCL.out]; exact hjs)
      obtain ⟨cb, _⟩ := HMB.out.cell j (by rw [HL2.out]; exact hjs)
      rw [HALL.out j, if_neg (by omega), ha] at ca
      rw [hb] at cb hlb
      rw [ha] at hla
      have co : wr.cell? ⟨w.heap.size + 1 + 1 + 1, 0, none⟩ = some (.int .i64 op) := cell_of_one' HFO.out.2.2.2
      have HA := Lib.hid ha
      have HB := Lib.hid hb
      clear ha hb
      have hj1 : (j : Int) < n + 1 := by omega
      obtain ⟨ha0, ha1⟩ := hla
      obtain ⟨hb0, hb1⟩ := hlb
      have HC : Hid (Calls Try.prog 126 #[.int .u32 a, .int .u32 b, .pointer (some ⟨w.heap.size + 1 + 1 + 1, 0, none⟩)] { wr with drawn := wr.drawn + 1 } fun e w' => e = .returned (.int .u32 (comb op a b)) ∧ w' = { wr with drawn := wr.drawn + 1 }) :=
        (comb_any { wr with drawn := wr.drawn + 1 } a b op _ co ho0 ho1 ha0 ha1 hb0 hb1).mono fun _ _ h => ⟨h.1, h.2.symm⟩
      go_wp2_with fail
      go_still_tail 12, (by kernel_rfl)
      still_call HC.out
      repeat still_step
      refine wpStill_nil ?_
      change wpList _ _ _ _ _ wr.drew
      have hcr := comb_range op a b
      obtain ⟨cab, hcab⟩ : ∃ cab, comb op a b = cab := ⟨_, rfl⟩
      rw [hcab] at hcr ⊢
      have HCAB := Lib.hid hcab
      clear hcab
      go_wp2_with fail
      go_roundw
      case rel =>
        have hmc2 : Mine w.heap.size (wr.setCell ⟨g1, j, none⟩ (.int .u32 cab)) g1 (cs.set j cab) := HMC.out.set j cab
        have hb2 : (wr.setCell ⟨g1, j, none⟩ (.int .u32 cab)).heap[g2]? = wr.heap[g2]? := Below.heap_setCell _ _ _ _ (by dsimp only; omega)
        have hmb2 : Mine w.heap.size (wr.setCell ⟨g1, j, none⟩ (.int .u32 cab)) g2 Bs := Mine.ofRow (hb2.trans HMB.out.row) (by omega) (by rw [HL2.out]; unfold maxLen; omega)
        have hfo2 := FourO.store HFO.out (g := g1) (j := j) (u := .int .u32 cab) hg1
        have hcl := HCL.out
        refine ⟨j + 1, cs.set j cab, by omega, by go_num, by rw [List.length_set]; exact hcl, Lim_set hcl2 j hcr.1 hcr.2, ?_, hmc2, hmb2, hfo2, (hbel.setCell (p := ⟨g1, j, none⟩) (by dsimp only; omega) _).drew⟩
        intro t
        by_cases ht : t = j
        · subst ht
          rw [getD_set_eq (by omega), if_pos (by omega), HA.out, HB.out, HCAB.out]
        · rw [getD_set_ne (by omega), HALL.out t]
          by_cases h2 : t < j
          · rw [if_pos h2, if_pos (by omega)]
          · rw [if_neg h2, if_neg (by omega)]
      case measure => simp [intOf]; omega
    · obtain rfl : j = n + 1 := by omega
      have hmc3 : Mine (w.heap.size + 1 + 1 + 1 + 1) wr g1 cs := Mine.ofRow HMC.out.row hg1 (by rw [HCL.out]; unfold maxLen; omega)
      have hgw : g1 < wr.heap.size := World.block_lt_of_cell? wr _ (HMC.out.cell 0 (by rw [HCL.out]; omega)).1
      unfold Mine at hmc3
      rw [HCL.out] at hmc3
      have hcs : cs = List.zipWith (comb op) As Bs := by
        have h1 := HCL.out
        have h2 := HL1.out
        have h3 := HL2.out
        apply List.ext_getElem
        · rw [List.length_zipWith]; omega
        · intro t ht1 ht2
          have h4 := HALL.out t
          rw [getD_lt ht1, if_pos (by omega), getD_lt (by omega), getD_lt (by omega)] at h4
          rw [h4, List.getElem_zipWith]
      have HCS := Lib.hid hcs
      have HM3 := Lib.hid hmc3
      clear hcs hmc3
      have hbs := hbel.size
      go_wp2_with fail
      refine (signed_any (w.heap.size + 1 + 1 + 1 + 1) wr _ _ _ cs HM3.out hcl2 (by omega)).mono ?_
      rintro e w5 ⟨neg', ao', n', cap', zs', rfl, hint, hn', hb5⟩
      have hr5 : w5.heap[w.heap.size + 1 + 1]? = some (.cells #[.bool false, .slice none 0 0] 28 (0, 0)) := (hb5.block _ (by omega)).trans HFO.out.2.2.1
      obtain ⟨c0, c1, f0, f1⟩ := blk2 hr5
      have HI := Lib.hid (hint.stored hr5 (.bool neg') (.slice ao' n' cap'))
      have hb6 : Below w.heap.size w w5 := hbel.trans (hb5.mono (by omega))
      clear hint hr5
      go_wp2
      refine bodyPost_ret (v := .tuple #[.agg #[.bool neg', .slice ao' n' cap'], .int .i64 0]) (by simp [results, Try.results51, go_sem, c0, c1]) rfl ?_
      exact ⟨neg', ao', n', cap', zs', As, Bs, rfl, HL1.out, hlim1, HV1.out, HL2.out, hlim2, HV2.out, HCS.out ▸ HI.out, hn', (hb6.setCell (p := ⟨w.heap.size + 1 + 1, 0, none⟩) (by dsimp only; omega) _).setCell (p := ⟨w.heap.size + 1 + 1, 1, none⟩) (by dsimp only; omega) _⟩
set_option maxRecDepth 100000 in
theorem boole_lt (w : World) (nx ny : Bool) (ao bo : Option Addr) (n m capa capb : Nat) (xs ys : List Int) (x y op : Int) (hx : IntAt w nx ao n capa xs x) (hy : IntAt w ny bo m capb ys y) (ho0 : 0 ≤ op) (ho1 : op ≤ 15) (hlt : n < m) (hn : n ≤ 4294967296) (hm : m ≤ 4294967296) :
    Calls Try.prog 51 #[.agg #[.bool nx, .slice ao n capa], .int .i64 op, .agg #[.bool ny, .slice bo m capb]] w (RetBoole w x y op (m + 1)) := by
  have HWX : Hid (∀ w1, Below w.heap.size w w1 → Calls Try.prog 101 #[.agg #[.bool nx, .slice ao n capa], .int .i64 ((m + 1 : Nat) : Int)] w1 (RetWords w1 x (m + 1))) :=
    fun w1 hb => words_any w1 nx ao n capa xs x (m + 1) (hx.below hb) (by omega)
  have HWY : Hid (∀ w1, Below w.heap.size w w1 → Calls Try.prog 101 #[.agg #[.bool ny, .slice bo m capb], .int .i64 ((m + 1 : Nat) : Int)] w1 (RetWords w1 y (m + 1))) :=
    fun w1 hb => words_any w1 ny bo m capb ys y (m + 1) (hy.below hb) (by omega)
  have hmx : n ≤ 4294967296 ∧ m ≤ 4294967296 := ⟨hn, hm⟩
  go_enter Try.func51, Try.ntmps51
  go_wp2_with fail
  refine (combiner_any _ op).mono ?_
  rintro e w1 ⟨rfl, rfl⟩
  go_wp2_with fail
  go_region_held3 (fun w' => w'.cell? ⟨w.heap.size, 0, none⟩ = some (.bool nx) ∧ w'.cell? ⟨w.heap.size, 1, none⟩ = some (.slice ao n capa) ∧ w'.cell? ⟨w.heap.size + 1, 0, none⟩ = some (.bool ny) ∧ w'.cell? ⟨w.heap.size + 1, 1, none⟩ = some (.slice bo m capb)) (((try dsimp only); (repeat' apply And.intro) <;> (first | (go_keep; done) | (go_split_ands; rw [hb1.cell (by go_size)]; assumption) | (go_split_ands; rw [hb3.cell (by go_size)]; assumption))))
    (first | (go_at_call_of 101 nx; refine (HWX.out _ ?_).mono ?_; (exact ent4D _ _ _ _ _); rintro e w1 ⟨g1, As, rfl, hm1, hl1, hlim1, hv1, hb1⟩; have hz1 := Nat.le_trans (size4D _ _ _ _ _) hb1.size; have hfo1 := FourO.below (FourO.made _ _ _ _ _) hb1 (size4D _ _ _ _ _); have hbw1 := (ent4D _ _ _ _ _).trans (hb1.mono (Nat.le_trans (by omega) (size4D _ _ _ _ _))); have HF1 := Lib.hid hfo1; have HM1 := Lib.hid hm1; have HL1 := Lib.hid hl1; have HV1 := Lib.hid hv1; clear hfo1 hm1 hl1 hv1) | (go_at_call_of 101 ny; refine (HWY.out _ hbw1).mono ?_; rintro e w2 ⟨g2, Bs, rfl, hm2, hl2, hlim2, hv2, hb3⟩; have HF2 := Lib.hid (FourO.below HF1.out hb3 hz1); have HM2 := Lib.hid hm2; have HL2 := Lib.hid hl2; have HV2 := Lib.hid hv2; clear hm2 hl2 hv2))
  go_wp2_with fail
  have hg1 : w.heap.size + 1 + 1 + 1 + 1 ≤ g1 := Nat.le_trans (size4D _ _ _ _ _) HM1.out.ge
  have hg1' : g1 < w1.heap.size := World.block_lt_of_cell? w1 _ (HM1.out.cell 0 (by rw [HL1.out]; omega)).1
  have hg2 : w1.heap.size ≤ g2 := HM2.out.ge
  have hm1 : Mine w.heap.size w2 g1 As := by
    have := HM1.out.kept hb3
    exact Own.mono this (Nat.le_trans (by omega) (size4D _ _ _ _ _))
  have hm2 : Mine w.heap.size w2 g2 Bs := Own.mono HM2.out (by omega)
  have hbw2 : Below w.heap.size w w2 := hbw1.trans (hb3.mono (Nat.le_trans (by omega) hz1))
  have HM1' := Lib.hid hm1
  have HM2' := Lib.hid hm2
  clear hm1 hm2 hb1 hb3 HF1 HWX HWY
  obtain ⟨cs0, hcs0⟩ : ∃ cs0, cs0 = As := ⟨_, rfl⟩
  go_loopw [38] (fun i wr => ∃ (j : Nat) (cs : List Int), j ≤ m + 1 ∧ i = .int .i64 j ∧ cs.length = m + 1 ∧ Lim cs ∧ (∀ t, cs.getD t 0 = if t < j then comb op (As.getD t 0) (Bs.getD t 0) else As.getD t 0) ∧
      Mine w.heap.size wr g1 cs ∧ Mine w.heap.size wr g2 Bs ∧ FourO w.heap.size wr (.cells #[.bool nx, .slice ao n capa] 28) (.cells #[.bool ny, .slice bo m capb] 28) (.cells #[.bool false, .slice none 0 0] 28) (.cells #[.int .i64 op] 3) ∧ Below w.heap.size w wr)
    (fun i _ => m + 1 - (intOf i).toNat)
  case atStart => exact ⟨0, As, Nat.zero_le _, rfl, HL1.out, hlim1, fun t => by rw [if_neg (by omega)], HM1'.out, HM2'.out, HF2.out, hbw2⟩
  case round =>
    obtain ⟨j, cs, hj, rfl, hcl, hcl2, hall, hmc, hmb, hfo, hbel⟩ := hrel
    have HCL := Lib.hid hcl
    have HALL := Lib.hid hall
    have HMC := Lib.hid hmc
    have HMB := Lib.hid hmb
    have HFO := Lib.hid hfo
    clear hcl hall hmc hmb hfo
    by_cases hjs : j < m + 1
    · obtain ⟨a, ha⟩ : ∃ a, As.getD j 0 = a := ⟨_, rfl⟩
      obtain ⟨b, hb⟩ : ∃ b, Bs.getD j 0 = b := ⟨_, rfl⟩
      have hla := Lim_getD hlim1 j
      have hlb := Lim_getD hlim2 j
      obtain ⟨ca, fa⟩ := HMC.out.cell j (by rw [HCL.out]; exact hjs)
      obtain ⟨cb, _⟩ := HMB.out.cell j (by rw [HL2.out]; exact hjs)
      rw [HALL.out j, if_neg (by omega), ha] at ca
      rw [hb] at cb hlb
      rw [ha] at hla
      have co : wr.cell? ⟨w.heap.size + 1 + 1 + 1, 0, none⟩ = some (.int .i64 op) := cell_of_one' HFO.out.2.2.2
      have HA := Lib.hid ha
      have HB := Lib.hid hb
      clear ha hb
      have hj1 : (j : Int) < m + 1 := by omega
      obtain ⟨ha0, ha1⟩ := hla
      obtain ⟨hb0, hb1⟩ := hlb
      have HC : Hid (Calls Try.prog 126 #[.int .u32 a, .int .u32 b, .pointer (some ⟨w.heap.size + 1 + 1 + 1, 0, none⟩)] { wr with drawn := wr.drawn + 1 } fun e w' => e = .returned (.int .u32 (comb op a b)) ∧ w' = { wr with drawn := wr.drawn + 1 }) :=
        (comb_any { wr with drawn := wr.drawn + 1 } a b op _ co ho0 ho1 ha0 ha1 hb0 hb1).mono fun _ _ h => ⟨h.1, h.2.symm⟩
      go_wp2_with fail
      go_still_tail 12, (by kernel_rfl)
      still_call HC.out
      repeat still_step
      refine wpStill_nil ?_
      change wpList _ _ _ _ _ wr.drew
      have hcr := comb_range op a b
      obtain ⟨cab, hcab⟩ : ∃ cab, comb op a b = cab := ⟨_, rfl⟩
      rw [hcab] at hcr ⊢
      have HCAB := Lib.hid hcab
      clear hcab
      go_wp2_with fail
      go_roundw
      case rel =>
        have hmc2 : Mine w.heap.size (wr.setCell ⟨g1, j, none⟩ (.int .u32 cab)) g1 (cs.set j cab) := HMC.out.set j cab
        have hb2 : (wr.setCell ⟨g1, j, none⟩ (.int .u32 cab)).heap[g2]? = wr.heap[g2]? := Below.heap_setCell _ _ _ _ (by dsimp only; omega)
        have hmb2 : Mine w.heap.size (wr.setCell ⟨g1, j, none⟩ (.int .u32 cab)) g2 Bs := Mine.ofRow (hb2.trans HMB.out.row) (by omega) (by rw [HL2.out]; unfold maxLen; omega)
        have hfo2 := FourO.store HFO.out (g := g1) (j := j) (u := .int .u32 cab) hg1
        have hcl := HCL.out
        refine ⟨j + 1, cs.set j cab, by omega, by go_num, by rw [List.length_set]; exact hcl, Lim_set hcl2 j hcr.1 hcr.2, ?_, hmc2, hmb2, hfo2, (hbel.setCell (p := ⟨g1, j, none⟩) (by dsimp only; omega) _).drew⟩
        intro t
        by_cases ht : t = j
        · subst ht
          rw [getD_set_eq (by omega), if_pos (by omega), HA.out, HB.out, HCAB.out]
        · rw [getD_set_ne (by omega), HALL.out t]
          by_cases h2 : t < j
          · rw [if_pos h2, if_pos (by omega)]
          · rw [if_neg h2, if_neg (by omega)]
      case measure => simp [intOf]; omega
    · obtain rfl : j = m + 1 := by omega
      have hmc3 : Mine (w.heap.size + 1 + 1 + 1 + 1) wr g1 cs := Mine.ofRow HMC.out.row hg1 (by rw [HCL.out]; unfold maxLen; omega)
      have hgw : g1 < wr.heap.size := World.block_lt_of_cell? wr _ (HMC.out.cell 0 (by rw [HCL.out]; omega)).1
      unfold Mine at hmc3
      rw [HCL.out] at hmc3
      have hcs : cs = List.zipWith (comb op) As Bs := by
        have h1 := HCL.out
        have h2 := HL1.out
        have h3 := HL2.out
        apply List.ext_getElem
        · rw [List.length_zipWith]; omega
        · intro t ht1 ht2
          have h4 := HALL.out t
          rw [getD_lt ht1, if_pos (by omega), getD_lt (by omega), getD_lt (by omega)] at h4
          rw [h4, List.getElem_zipWith]
      have HCS := Lib.hid hcs
      have HM3 := Lib.hid hmc3
      clear hcs hmc3
      have hbs := hbel.size
      go_wp2_with fail
      refine (signed_any (w.heap.size + 1 + 1 + 1 + 1) wr _ _ _ cs HM3.out hcl2 (by omega)).mono ?_
      rintro e w5 ⟨neg', ao', n', cap', zs', rfl, hint, hn', hb5⟩
      have hr5 : w5.heap[w.heap.size + 1 + 1]? = some (.cells #[.bool false, .slice none 0 0] 28 (0, 0)) := (hb5.block _ (by omega)).trans HFO.out.2.2.1
      obtain ⟨c0, c1, f0, f1⟩ := blk2 hr5
      have HI := Lib.hid (hint.stored hr5 (.bool neg') (.slice ao' n' cap'))
      have hb6 : Below w.heap.size w w5 := hbel.trans (hb5.mono (by omega))
      clear hint hr5
      go_wp2
      refine bodyPost_ret (v := .tuple #[.agg #[.bool neg', .slice ao' n' cap'], .int .i64 0]) (by simp [results, Try.results51, go_sem, c0, c1]) rfl ?_
      exact ⟨neg', ao', n', cap', zs', As, Bs, rfl, HL1.out, hlim1, HV1.out, HL2.out, hlim2, HV2.out, HCS.out ▸ HI.out, hn', (hb6.setCell (p := ⟨w.heap.size + 1 + 1, 0, none⟩) (by dsimp only; omega) _).setCell (p := ⟨w.heap.size + 1 + 1, 1, none⟩) (by dsimp only; omega) _⟩

theorem boole_any (w : World) (nx ny : Bool) (ao bo : Option Addr) (n m capa capb : Nat) (xs ys : List Int) (x y op : Int) (hx : IntAt w nx ao n capa xs x) (hy : IntAt w ny bo m capb ys y) (ho0 : 0 ≤ op) (ho1 : op ≤ 15) (hn : n ≤ 4294967296) (hm : m ≤ 4294967296) :
    Calls Try.prog 51 #[.agg #[.bool nx, .slice ao n capa], .int .i64 op, .agg #[.bool ny, .slice bo m capb]] w (RetBoole w x y op (max n m + 1)) := by
  by_cases h : n < m
  · rw [Nat.max_eq_right (by omega)]
    exact boole_lt w nx ny ao bo n m capa capb xs ys x y op hx hy ho0 ho1 h hn hm
  · rw [Nat.max_eq_left (by omega)]
    exact boole_ge w nx ny ao bo n m capa capb xs ys x y op hx hy ho0 ho1 h hn hm
end Go.Proofs.Ytpakfknacmcohaa
