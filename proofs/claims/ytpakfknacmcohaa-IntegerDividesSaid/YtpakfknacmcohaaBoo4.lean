/- The reference's Boole. -/
import Derived.Test.YtpakfknacmcohaaBooA
import Derived.Test.YtpakfknacmcohaaOf
import Derived.Deep.DeepCutAuto
namespace Go.Proofs.Ytpakfknacmcohaa
open Go.RowKit
set_option autoImplicit false
set_option linter.unusedVariables false

theorem row_slb {B : Nat} {w : World} {ao : Option Addr} {cap k : Nat} {f : Nat → Bool} (h : w.ownsRow B 4 1 (.slice ao k cap) k ((List.range k).map fun i => .bool (f i))) : SlB w ao k cap f := by
  have hc := row_cap h
  unfold maxLen at hc
  refine ⟨hc.1, by omega, fun j hj => ?_⟩
  obtain ⟨g, h1, h2⟩ := row_cell h hj
  exact ⟨g, 0, h1, by simpa using h2⟩

def RetZeroR (w : World) (c : Int) (e : Ending) (w' : World) : Prop :=
  e = .returned (.tuple #[.agg #[.bool false, .slice none 0 0], .int .i64 c]) ∧ Below w.heap.size w w'

/-- The reference's number and the code 0. -/
def RetRE (w : World) (x : Int) (L : Nat) (e : Ending) (w' : World) : Prop :=
  ∃ neg ao n cap zs, e = .returned (.tuple #[.agg #[.bool neg, .slice ao n cap], .int .i64 0]) ∧ RefAt w' neg ao n cap zs x ∧ n ≤ L ∧ Below w.heap.size w w'

theorem rboole_bad (w : World) (op : Int) (nx ny : Bool) (ao bo : Option Addr) (n m capa capb : Nat) (h : op < 0 ∨ 15 < op) :
    Calls Try.prog 52 #[.int .i64 op, .agg #[.bool nx, .slice ao n capa], .agg #[.bool ny, .slice bo m capb]] w (RetZeroR w 1) := by
  rcases h with h | h
  · go_enter Try.func52, Try.ntmps52
    go_wp2_with fail
    have hr2 := heap_alloc3 w (.cells #[.bool nx, .slice ao n capa] 31) (.cells #[.bool ny, .slice bo m capb] 31) (.cells #[.bool false, .slice none 0 0] 31)
    obtain ⟨c0, c1, f0, f1⟩ := blk2 hr2
    refine bodyPost_ret (v := .tuple #[.agg #[.bool false, .slice none 0 0], .int .i64 1]) (by simp [results, Try.results52, go_sem, c0, c1]) rfl ?_
    exact ⟨rfl, by go_grown⟩
  · have h0 : ¬ op < 0 := by omega
    go_enter Try.func52, Try.ntmps52
    go_wp2_with fail
    have hr2 := heap_alloc3 w (.cells #[.bool nx, .slice ao n capa] 31) (.cells #[.bool ny, .slice bo m capb] 31) (.cells #[.bool false, .slice none 0 0] 31)
    obtain ⟨c0, c1, f0, f1⟩ := blk2 hr2
    refine bodyPost_ret (v := .tuple #[.agg #[.bool false, .slice none 0 0], .int .i64 1]) (by simp [results, Try.results52, go_sem, c0, c1]) rfl ?_
    exact ⟨rfl, by go_grown⟩

/-- What the reference's Boole returns, by its bits. -/
def boolR (op : Nat) (nx ny : Bool) (x y : Int) (k : Nat) : Int :=
  ofSign (tb op nx ny) (bval (fun i => tb op (bitOf (cpl x).toNat nx i) (bitOf (cpl y).toNat ny i) != tb op nx ny) k)

set_option maxRecDepth 100000 in
set_option maxHeartbeats 1000000 in
theorem rboole_any (w : World) (op : Nat) (nx ny : Bool) (ao bo : Option Addr) (n m capa capb : Nat) (xs ys : List Int) (x y : Int) (hx : RefAt w nx ao n capa xs x) (hy : RefAt w ny bo m capb ys y) (hn : n ≤ 1048576) (hm : m ≤ 1048576) (ho : op ≤ 15) :
    Calls Try.prog 52 #[.int .i64 (op : Int), .agg #[.bool nx, .slice ao n capa], .agg #[.bool ny, .slice bo m capb]] w (RetRE w (boolR op nx ny x y (max (blen (cpl x).toNat) (blen (cpl y).toNat))) 33554432) := by
  have HX := Lib.hid hx
  have HY := Lib.hid hy
  have rlen_le : ∀ {w : World} {nx : Bool} {ao : Option Addr} {n cap : Nat} {xs : List Int} {x : Int}, RefAt w nx ao n cap xs x → blen (cpl x).toNat ≤ 16 * n := by
    intro w nx ao n cap xs x hx
    have h1 := dval_nonneg (r := 65536) (by omega) hx.lim
    have h2 := dval_lt (r := 65536) (by omega) hx.lim
    rw [pow16, hx.sl.len] at h2
    rw [show ∀ a b, (blen a ≤ b ↔ a < 2 ^ b) from fun a b => ⟨fun h => Nat.lt_of_lt_of_le (blen_lt a) (Nat.pow_le_pow_right (by omega) h), fun h => by unfold blen; split; omega; have := (Nat.log2_lt (n := a) (k := b) (by assumption)).2 h; omega⟩]
    obtain ⟨P, hP⟩ : ∃ P : Nat, 2 ^ (16 * n) = P := ⟨_, rfl⟩
    obtain ⟨d, hd⟩ : ∃ d : Int, dval 65536 xs = d := ⟨_, rfl⟩
    unfold cpl
    rw [hx.val]
    rw [hP] at h2 ⊢
    rw [hd] at h1 h2 ⊢
    cases nx <;> simp only [sgn] <;> split <;> (try simp) <;> omega
  have hbx := rlen_le hx
  have hby := rlen_le hy
  obtain ⟨Lx, hLx⟩ : ∃ L, blen (cpl x).toNat = L := ⟨_, rfl⟩
  obtain ⟨Ly, hLy⟩ : ∃ L, blen (cpl y).toNat = L := ⟨_, rfl⟩
  rw [hLx] at hbx ⊢
  rw [hLy] at hby ⊢
  have HLX : Hid (∀ w', Below w.heap.size w w' → Calls Try.prog 27 #[.agg #[.bool nx, .slice ao n capa]] w' (RetV w' (.int .i64 (Lx : Int)))) := Lib.hid (fun w' hb => by
    have := rlength_any w' nx ao n capa xs x (hx.below hb) (by omega)
    rwa [hLx] at this)
  have HLY : Hid (∀ w', Below w.heap.size w w' → Calls Try.prog 27 #[.agg #[.bool ny, .slice bo m capb]] w' (RetV w' (.int .i64 (Ly : Int)))) := Lib.hid (fun w' hb => by
    have := rlength_any w' ny bo m capb ys y (hy.below hb) (by omega)
    rwa [hLy] at this)
  obtain ⟨L, hL⟩ : ∃ L, max Lx Ly = L := ⟨_, rfl⟩
  have hLb : L ≤ 16777216 := by omega
  have hmax : max (Lx : Int) (Ly : Int) = (L : Int) := by omega
  rw [hL]
  have hLb' : (L : Int) ≤ 16777216 := by omega
  have HLM := Lib.hid (And.intro hL hmax)
  have h0 : ¬ (op : Int) < 0 := by omega
  have h15 : ¬ (15 : Int) < (op : Int) := by omega
  clear hx hy hLx hLy hmax rlen_le
  --WALK
  go_enter Try.func52, Try.ntmps52
  go_upto_region 3 with fail
  obtain ⟨w3, hw3⟩ : ∃ w3, w3 = (((w.alloc (.cells #[.bool nx, .slice ao n capa] 31)).alloc (.cells #[.bool ny, .slice bo m capb] 31)).alloc (.cells #[.bool false, .slice none 0 0] 31)) := ⟨_, rfl⟩
  rw [← hw3]
  have r6 : w3.heap[w.heap.size + 1 + 1]? = some (.cells #[.bool false, .slice none 0 0] 31 (0, 0)) := by rw [hw3]; exact heap_alloc3 w _ _ _
  have r5 : w3.heap[w.heap.size + 1]? = some (.cells #[.bool ny, .slice bo m capb] 31 (0, 0)) := by rw [hw3]; exact heap_mid w _ _ _
  have r4 : w3.heap[w.heap.size]? = some (.cells #[.bool nx, .slice ao n capa] 31 (0, 0)) := by
    rw [hw3]
    exact ((show Below (w.heap.size + 1) (w.alloc (.cells #[.bool nx, .slice ao n capa] 31)) (((w.alloc (.cells #[.bool nx, .slice ao n capa] 31)).alloc (.cells #[.bool ny, .slice bo m capb] 31)).alloc (.cells #[.bool false, .slice none 0 0] 31)) from ((Below.refl _ _).alloc (by simp) _).alloc (by simp) _).block _ (by omega)).trans (heap_alloc_new w _)
  have hb3 : Below w.heap.size w w3 := by rw [hw3]; go_grown
  obtain ⟨p4, hp4⟩ : ∃ p, p = w.heap.size := ⟨_, rfl⟩
  obtain ⟨p5, hp5⟩ : ∃ p, p = w.heap.size + 1 := ⟨_, rfl⟩
  obtain ⟨p6, hp6⟩ : ∃ p, p = w.heap.size + 1 + 1 := ⟨_, rfl⟩
  rw [← hp6] at r6 ⊢
  rw [← hp5] at r5 ⊢
  rw [← hp4] at r4 ⊢
  have hge6 : w.heap.size ≤ p6 := by omega
  have hl4 : p4 < w3.heap.size := (Array.getElem?_eq_some_iff.1 r4).1
  have hl5 : p5 < w3.heap.size := (Array.getElem?_eq_some_iff.1 r5).1
  have hl6 : p6 < w3.heap.size := (Array.getElem?_eq_some_iff.1 r6).1
  have h46 : p6 ≠ p4 := by omega
  have h56 : p6 ≠ p5 := by omega
  obtain ⟨x0, x1, -, -⟩ := blk2 r4
  obtain ⟨y0, y1, -, -⟩ := blk2 r5
  have HKP : Hid (∀ w', Below w3.heap.size w3 w' → w'.cell? ⟨p4, 0, none⟩ = some (.bool nx) ∧ w'.cell? ⟨p4, 1, none⟩ = some (.slice ao n capa) ∧ w'.cell? ⟨p5, 0, none⟩ = some (.bool ny) ∧ w'.cell? ⟨p5, 1, none⟩ = some (.slice bo m capb)) := Lib.hid (fun w' hb => ⟨(hb.cell (p := ⟨p4, 0, none⟩) hl4).trans x0, (hb.cell (p := ⟨p4, 1, none⟩) hl4).trans x1, (hb.cell (p := ⟨p5, 0, none⟩) hl5).trans y0, (hb.cell (p := ⟨p5, 1, none⟩) hl5).trans y1⟩)
  have HB3 := Lib.hid hb3
  have HR6 := Lib.hid r6
  clear hw3 hp4 hp5 hp6 r4 r5 r6 x0 x1 y0 y1 hb3
  go_cut [8] (fun c wx => c = .int .i64 (L : Int) ∧ Below w3.heap.size w3 wx)
  case first =>
    rcases (show (Lx < Ly ∧ Ly = L) ∨ (¬ Lx < Ly ∧ Lx = L) by omega) with ⟨hlt, hlm⟩ | ⟨hlt, hlm⟩
    all_goals
      subst hlm
      go_region_held3 (fun w' => w'.cell? ⟨p4, 0, none⟩ = some (.bool nx) ∧ w'.cell? ⟨p4, 1, none⟩ = some (.slice ao n capa) ∧ w'.cell? ⟨p5, 0, none⟩ = some (.bool ny) ∧ w'.cell? ⟨p5, 1, none⟩ = some (.slice bo m capb)) ((first | exact HKP.out _ X2 | exact HKP.out _ X1 | exact HKP.out _ (Below.refl _ _).drew))
        (first | (go_at_call 27; have T2 := X1; clear T2; refine (HLY.out _ (HB3.out.trans (X1.mono HB3.out.size))).mono ?_; rintro e v2 ⟨rfl, u2⟩; have X2 : Below w3.heap.size w3 v2 := X1.trans (u2.mono X1.size)) | (go_at_call 27; refine (HLX.out _ (HB3.out.trans ((Below.refl _ _).drew.mono HB3.out.size))).mono ?_; rintro e v1 ⟨rfl, u1⟩; have X1 : Below w3.heap.size w3 v1 := (Below.refl _ _).drew.trans u1))
      go_wp2
      go_meet
      refine ⟨?_, X2⟩
      first | rfl | (rw [← HLM.out.2]; rfl)
  case rest =>
    obtain ⟨rfl, hbx3⟩ := hcut
    rename World => wa
    go_upto_region 4 with fail
    have HBX := Lib.hid hbx3
    have HKA : Hid (∀ w', Below wa.heap.size wa w' → w'.cell? ⟨p4, 0, none⟩ = some (.bool nx) ∧ w'.cell? ⟨p4, 1, none⟩ = some (.slice ao n capa) ∧ w'.cell? ⟨p5, 0, none⟩ = some (.bool ny) ∧ w'.cell? ⟨p5, 1, none⟩ = some (.slice bo m capb)) := Lib.hid (fun w' hb => HKP.out w' (HBX.out.trans (hb.mono HBX.out.size)))
    have HXA := Lib.hid (HX.out.below (HB3.out.trans (hbx3.mono HB3.out.size)))
    have HYA := Lib.hid (HY.out.below (HB3.out.trans (hbx3.mono HB3.out.size)))
    clear hbx3
    go_region_held3 (fun w' => w'.cell? ⟨p4, 0, none⟩ = some (.bool nx) ∧ w'.cell? ⟨p4, 1, none⟩ = some (.slice ao n capa) ∧ w'.cell? ⟨p5, 0, none⟩ = some (.bool ny) ∧ w'.cell? ⟨p5, 1, none⟩ = some (.slice bo m capb)) ((first | exact HKA.out _ X2 | exact HKA.out _ X1 | exact HKA.out _ (Below.refl _ _).drew))
      (first | (go_at_call 81; have T2 := X1; clear T2; refine (rbits_any _ ny bo m capb ys y (HYA.out.below X1) (by omega) L (by omega)).mono ?_; rintro e v2 ⟨ab, cb, rfl, hrowb, u2⟩; have X2 : Below wa.heap.size wa v2 := X1.trans (u2.mono X1.size); have HRB := Lib.hid (row_slb hrowb); have HRA2 := Lib.hid (HRA.out.below u2); clear hrowb HRA) | (go_at_call 81; refine (rbits_any _ nx ao n capa xs x (HXA.out.below (Below.refl _ _).drew) (by omega) L (by omega)).mono ?_; rintro e v1 ⟨aa, ca, rfl, hrowa, u1⟩; have X1 : Below wa.heap.size wa v1 := (Below.refl _ _).drew.trans u1; have HRA := Lib.hid (row_slb hrowa); clear hrowa))
    have HXW := Lib.hid (HBX.out.trans (X2.mono HBX.out.size))
    have hca := HRA2.out.le
    have hca2 := HRA2.out.most
    have hcb := HRB.out.le
    have hcb2 := HRB.out.most
    obtain ⟨i0, hi, hz0, hz1, hz2⟩ := info_parts info_bool
    clear X1 X2 u1 u2
    go_wp2_with fail
    obtain ⟨BX, hBX⟩ : ∃ f : Nat → Bool, bitOf (cpl x).toNat nx = f := ⟨_, rfl⟩
    obtain ⟨BY, hBY⟩ : ∃ f : Nat → Bool, bitOf (cpl y).toNat ny = f := ⟨_, rfl⟩
    have HBXY := Lib.hid (And.intro hBX hBY)
    rw [hBX] at HRA2
    rw [hBY] at HRB
    clear hBX hBY
    go_loopw [11, 12] (fun o i wr => ∃ (j : Nat) (tq : Option Addr) (tc : Nat), j ≤ L ∧ i = .int .i64 j ∧ o = .slice tq j tc ∧ wr.ownsRow v2.heap.size 4 1 (.slice tq j tc) j ((List.range j).map fun i => .bool (tb op (BX i) (BY i))) ∧ Below v2.heap.size v2 wr)
      (fun _ i _ => L - (intOf i).toNat)
    case atStart => exact ⟨0, none, 0, by omega, rfl, rfl, World.ownsRow_nil _ _ _ _, .refl _ _⟩
    case round =>
      obtain ⟨j, tq, tc, hj, rfl, rfl, hown, hbel⟩ := hrel
      have HO := Lib.hid hown
      have HB := Lib.hid hbel
      have hsz := hbel.size
      have hownb : ∀ g, (Value.slice tq j tc).ownBlock = some g → v2.heap.size ≤ g := fun g hg => (World.ownsRow.lt hown g hg).1
      clear hown hbel
      by_cases hjk : j < L
      · have hji : (j : Int) < L := by omega
        have hj0 : (0 : Int) ≤ j := by omega
        obtain ⟨ba, oa, rfl, hca0⟩ := HRA2.out.cells j hjk
        obtain ⟨bb, ob, rfl, hcb0⟩ := HRB.out.cells j hjk
        have hla : ba < v2.heap.size := World.block_lt_of_cell? _ _ hca0
        have hlb : bb < v2.heap.size := World.block_lt_of_cell? _ _ hcb0
        have hcx := (HB.out.cell (p := ⟨ba, oa + j, none⟩) hla).trans hca0
        have hcy := (HB.out.cell (p := ⟨bb, ob + j, none⟩) hlb).trans hcb0
        obtain ⟨p, hp⟩ : ∃ p, BX j = p := ⟨_, rfl⟩
        obtain ⟨r, hr⟩ : ∃ r, BY j = r := ⟨_, rfl⟩
        rw [hp] at hcx
        rw [hr] at hcy
        obtain ⟨v, hv⟩ : ∃ v, tb op p r = v := ⟨_, rfl⟩
        have HV : Hid (tb op (BX j) (BY j) = v) := Lib.hid (by rw [hp, hr, hv])
        have HCH : Hid (∀ w', Calls Try.prog 103 #[.int .i64 (op : Int), .bool p, .bool r] w' fun e w'' => e = .returned (.bool v) ∧ w' = w'') := Lib.hid (fun w' => by rw [← hv]; exact chosen_any w' op p r ho)
        have hna := World.new_ne wr _ hcx
        have hnb := World.new_ne wr _ hcy
        have hun := Try.underlying104
        have HOA : Hid (((wr.alloc (.cells #[.bool v] 4)).drew).ownsRow v2.heap.size 4 1 (.slice tq j tc) j ((List.range j).map fun i => .bool (tb op (BX i) (BY i)))) := Lib.hid (HO.out.alloc _)
        have HNW : Hid (∀ k u, [Value.bool v][k]? = some u → ((wr.alloc (.cells #[.bool v] 4)).drew).cell? ((⟨wr.heap.size, 0, none⟩ : Addr).add k) = some u) := Lib.hid (World.news_of_block (w := (wr.alloc (.cells #[.bool v] 4)).drew) (heap_alloc_new wr (.cells #[.bool v] 4)))
        clear hca0 hcb0 hp hr hv
        go_wp2_with fail
        go_region_held3 (fun w' => w'.cell? ⟨ba, oa + j, none⟩ = some (.bool p) ∧ w'.cell? ⟨bb, ob + j, none⟩ = some (.bool r)) (((try dsimp only); (repeat' apply And.intro) <;> (first | (go_keep; done) | (go_split_ands; rw [hgrow.cell_far _ (by simp; omega) (by intro h; have := hownb _ h.symm; simp at this; omega)]; assumption))))
          (first | (go_at_call 103; refine (HCH.out _).mono ?_; rintro e v3 ⟨rfl, rfl⟩) | (refine step_append_lies _ (by rfl) _ _ 104 (by rfl) v2.heap.size 4 i0 (.bool false) 1 1 hun hi hz0 hz1 hz2 rfl (by omega) (.slice tq j tc) j ((List.range j).map fun i => .bool (tb op (BX i) (BY i))) (by rfl) HOA.out ⟨wr.heap.size, 0, none⟩ 1 1 [.bool v] (by rfl) rfl HNW.out (by intro u hu; simp at hu; subst hu; rfl) (by omega) (by unfold maxLen; omega) (by omega) (by simp; omega) (wr.heap.size + 1) (by simp) ?_; intro g2 tc2 w4 hown4 hgrow hat hlt))
        have hrow : w4.ownsRow v2.heap.size 4 1 (.slice (some ⟨g2, 0, none⟩) (j + 1) tc2) (j + 1) ((List.range (j + 1)).map fun i => .bool (tb op (BX i) (BY i))) := by
          rw [List.range_succ, List.map_append, List.map_singleton, HV.out]
          exact hown4
        have hb5 : Below v2.heap.size v2 w4 := Below.grown (HB.out.alloc hsz _).drew hgrow (by simp; omega) hownb
        have HR := Lib.hid hrow
        have HB5 := Lib.hid hb5
        clear hrow hb5 hown4 hgrow hat
        go_wp2_with fail
        go_roundw
        case rel => exact ⟨j + 1, some ⟨g2, 0, none⟩, tc2, by omega, by go_num, rfl, HR.out, HB5.out⟩
        case measure => simp [intOf]; omega
      · obtain rfl : j = L := by omega
        have hji : ¬ (j : Int) < j := by omega
        have HWR := Lib.hid (HXW.out.trans (HB.out.mono HXW.out.size))
        have hcs := HKP.out wr HWR.out
        obtain ⟨x0, x1, y0, y1⟩ := hcs
        have HSO := Lib.hid (row_slb (f := fun i => tb op (BX i) (BY i)) HO.out)
        have hr6 := (HWR.out.block _ hl6).trans HR6.out
        have hlr6 : p6 < wr.heap.size := Nat.lt_of_lt_of_le hl6 HWR.out.size
        clear x1 y1
        go_wp2_with fail
        refine (chosen_any _ op nx ny ho).mono ?_
        rintro e w5 ⟨rfl, rfl⟩
        go_wp2_with fail
        refine (rof_pos _ tq j tc (fun i => tb op (BX i) (BY i)) (tb op nx ny) HSO.out (by omega)).mono ?_
        rintro e w6 ⟨neg', ao', n', cap', zs', rfl, hint, hn', hb6⟩
        have hr7 := (hb6.block _ hlr6).trans hr6
        obtain ⟨c0, c1, f0, f1⟩ := blk2 hr7
        have HIF := Lib.hid (hint.stored hr7 (.bool neg') (.slice ao' n' cap'))
        have hbf := HB3.out.trans ((HWR.out.trans (hb6.mono HWR.out.size)).mono HB3.out.size)
        have HVAL : Hid (ofSign (tb op nx ny) (bval (fun i => tb op (BX i) (BY i) != tb op nx ny) j) = boolR op nx ny x y j) := Lib.hid (by unfold boolR; rw [← HBXY.out.1, ← HBXY.out.2])
        clear hint hr7 hr6 hb6 x0 y0
        go_wp2_with fail
        refine bodyPost_ret (v := .tuple #[.agg #[.bool neg', .slice ao' n' cap'], .int .i64 0]) (by simp [results, Try.results52, go_sem, c0, c1]) rfl ?_
        exact ⟨_, _, _, _, _, rfl, by rw [← HVAL.out]; exact HIF.out, by omega, (hbf.setCell (p := ⟨p6, 0, none⟩) hge6 _).setCell (p := ⟨p6, 1, none⟩) hge6 _⟩
end Go.Proofs.Ytpakfknacmcohaa
