/- Ref4, Ref5, Ref6, Ref7, Ref8, Ref9, Ref10 in one text. -/
import Derived.Test.YtkifebmlojdjnaaRefs
import Derived.Test.YtkifebmlojdjnaaNats
import Derived.Deep.RegionHeld3
import Derived.Deep.AppendLies
namespace Go.Proofs.Ytkifebmlojdjnaa
open Go.RowKit
set_option autoImplicit false
set_option linter.unusedVariables false

set_option maxRecDepth 100000 in
theorem rmake_any (w : World) (neg : Bool) (ao : Option Addr) (n cap : Nat) (zs : List Int) (h : Sl w ao n cap zs) (lz : Lim zs) (hn : n ≤ 4294967296) :
    Calls Try.prog 69 #[.bool neg, .slice ao n cap] w (RetRef w (sgn neg (val zs)) (2 * n)) := by
  obtain ⟨i0, hi, hz0, hz1, hz2⟩ := info_parts info_int
  have HZL := Lib.hid h.len
  have HSL := Lib.hid h
  have hcap := h.le
  have hmx : cap ≤ 9223372036854775807 := by have := h.most; unfold maxLen at this; omega
  clear h
  go_enter Try.func69, Try.ntmps69
  go_wp2_with fail
  go_loopw [5, 6] (fun d i wr => ∃ (j : Nat) (ds : List Int), ∃ to tc, i = .int .i64 j ∧ j ≤ n ∧ d = .slice to (2 * j) tc ∧ OwnI (w.heap.size + 1) wr to (2 * j) tc ds ∧ Dig 65536 ds ∧ dval 65536 ds = val (zs.take j) ∧
      Below (w.heap.size + 1) (w.alloc (.cells #[.bool false, .slice none 0 0] 31)) wr) (fun _ i _ => n - (intOf i).toNat)
  case atStart => exact ⟨0, [], none, 0, rfl, by omega, rfl, World.ownsRow_nil _ _ _ _, Dig_nil _, by simp [dval, val], Below.refl _ _⟩
  case round =>
    obtain ⟨j, ds, to, tc, rfl, hj, rfl, hown, hdig, hval, hbel⟩ := hrel
    have HO := Lib.hid hown
    have HV := Lib.hid hval
    have HDL : Hid (ds.length = 2 * j) := hown.sl.len
    have hsz : w.heap.size + 1 ≤ wr.heap.size := by have := hbel.size; simpa using this
    have HB := Lib.hid hbel
    clear hown hval hbel
    by_cases hjs : j < n
    · have hb0 : Below w.heap.size w wr := ((Below.refl _ _).alloc (Nat.le_refl _) _).trans (HB.out.mono (by omega))
      obtain ⟨b, o, rfl, hc⟩ := (HSL.out.below hb0).cells.at (k := j) (by rw [HZL.out]; exact hjs)
      have hlj := Lim_getD lz j
      obtain ⟨z, hz⟩ : ∃ z, zs.getD j 0 = z := ⟨_, rfl⟩
      rw [hz] at hc hlj
      have HZ := Lib.hid hz
      clear hz hb0
      have hji : (j : Int) < n := by omega
      have hz0' : 0 ≤ z := hlj.1
      have hz1' : z ≤ 4294967295 := hlj.2
      go_wp2_with fail
      have hne := World.new_ne wr _ hc
      have hbw : b < w.heap.size := by
        obtain ⟨b', o', hab, hc'⟩ := HSL.out.cells.at (k := j) (by rw [HZL.out]; exact hjs)
        simp at hab
        obtain ⟨rfl, rfl⟩ := hab
        exact World.block_lt_of_cell? w _ hc'
      have hown0 : ∀ g, (Value.slice to (2 * j) tc).ownBlock = some g → w.heap.size + 1 ≤ g := fun g hg => (World.ownsRow.lt HO.out g hg).1
      obtain ⟨lo, hlo⟩ : ∃ lo, IntKind.i64.wrap (z.tmod 65536) = lo := ⟨_, rfl⟩
      obtain ⟨hi', hhi⟩ : ∃ hi', IntKind.i64.wrap (IntKind.u32.wrap (z.tdiv 65536)) = hi' := ⟨_, rfl⟩
      have HLO : Hid (lo = z % 65536) := Lib.hid (by rw [← hlo, IntKind.wrap_i64, Int.tmod_eq_emod_of_nonneg hz0']; omega)
      have HHI : Hid (hi' = z / 65536) := Lib.hid (by rw [← hhi, IntKind.wrap_u32, IntKind.wrap_i64, Int.tdiv_eq_ediv_of_nonneg hz0']; omega)
      have HOA : Hid (((wr.alloc (.cells #[.int .i64 lo, .int .i64 hi'] 3)).drew).ownsRow (w.heap.size + 1) 3 1 (.slice to (2 * j) tc) (2 * j) (ds.map (Value.int .i64))) := Lib.hid (HO.out.alloc _)
      have HNW : Hid (∀ k u, [Value.int .i64 lo, Value.int .i64 hi'][k]? = some u → ((wr.alloc (.cells #[.int .i64 lo, .int .i64 hi'] 3)).drew).cell? ((⟨wr.heap.size, 0, none⟩ : Addr).add k) = some u) :=
        Lib.hid (World.news_of_block (w := (wr.alloc (.cells #[.int .i64 lo, .int .i64 hi'] 3)).drew) (heap_alloc_new wr (.cells #[.int .i64 lo, .int .i64 hi'] 3)))
      have HON : Hid (∀ u ∈ [Value.int .i64 lo, Value.int .i64 hi'], u.oneCell' = true) := Lib.hid (by intro u hu; simp at hu; rcases hu with rfl | rfl <;> rfl)
      go_region_held3 (fun w' => w'.cell? ⟨b, o + j, none⟩ = some (.int .u32 z)) (first | (go_keep; done) | (go_split_ands; rw [hgrow.cell_far (a := ⟨b, o + j, none⟩) (by simp; omega) (by intro h; have := hown0 _ h.symm; simp at this; omega)]; assumption)) ((refine step_append_lies _ (by rfl) _ _ 29 (by rfl) (w.heap.size + 1) 3 i0 (.int .i64 0) 1 8 Try.underlying29 hi hz0 hz1 hz2 rfl (by omega) (.slice to (2 * j) tc) (2 * j) (ds.map (Value.int .i64)) (by rfl) HOA.out ⟨wr.heap.size, 0, none⟩ 2 2 [.int .i64 lo, .int .i64 hi'] (by rfl) rfl HNW.out HON.out (by omega) (by unfold maxLen; omega) (by omega) (by simp; omega) (wr.heap.size + 1) (by simp) ?_; intro g2 tc2 w2 hown2 hgrow hat hlt))
      have hrow2 : OwnI (w.heap.size + 1) w2 (some ⟨g2, 0, none⟩) (2 * j + 2) tc2 (ds ++ [lo, hi']) := by
        unfold OwnI
        rw [List.map_append]
        exact hown2
      have hb2 : Below (w.heap.size + 1) (w.alloc (.cells #[.bool false, .slice none 0 0] 31)) w2 := Below.grown (HB.out.alloc hsz _).drew hgrow (by simp; omega) hown0
      have HR2 := Lib.hid hrow2
      have HB2 := Lib.hid hb2
      clear hown2 hgrow hrow2 hb2
      go_wp2_with fail
      go_roundw
      case rel =>
        refine ⟨j + 1, ds ++ [lo, hi'], some ⟨g2, 0, none⟩, tc2, by go_num, by omega, rfl, HR2.out, ?_, ?_, HB2.out⟩
        · rw [HLO.out, HHI.out, show [z % 65536, z / 65536] = [z % 65536] ++ [z / 65536] from rfl, ← List.append_assoc]
          exact Dig_snoc (Dig_snoc hdig (by omega) (by omega)) (by omega) (by omega)
        · rw [HLO.out, HHI.out, dval_append, HV.out, HDL.out, val_take_succ, HZ.out, show (4294967296 : Int) ^ j = 65536 ^ (2 * j) by rw [Int.pow_mul]; rfl]
          congr 2
          simp [dval]
          omega
      case measure => simp [intOf]; omega
    · obtain rfl : j = n := by omega
      have hji : ¬ (j : Int) < j := by omega
      go_wp2_with fail
      refine (made_int wr _ _ _ _ ds HO.out.sl hdig rfl).mono ?_
      rintro e w2 ⟨neg', ao', n', cap', zs', rfl, hint, hn', hb3⟩
      have hr2 : w2.heap[w.heap.size]? = some (.cells #[.bool false, .slice none 0 0] 31 (0, 0)) := (hb3.block _ (by omega)).trans ((HB.out.block _ (by omega)).trans (heap_alloc_new w _))
      obtain ⟨c0, c1, f0, f1⟩ := blk2 hr2
      have HI := Lib.hid (hint.stored hr2 (.bool neg') (.slice ao' n' cap'))
      clear hint hr2
      have hb4 : Below w.heap.size w w2 := (((Below.refl _ _).alloc (Nat.le_refl _) _).trans (HB.out.mono (by omega))).trans (hb3.mono (by omega))
      go_wp2
      refine bodyPost_ret (v := .agg #[.bool neg', .slice ao' n' cap']) (by simp [results, Try.results69, go_sem, c0, c1]) rfl ?_
      exact fin_ref (Nat.le_refl _) hb4 HI.out (by rw [HV.out, List.take_of_length_le (by rw [HZL.out]; exact Nat.le_refl _)]) hn'

theorem dval_split (r : Int) (a : List Int) (i : Nat) : dval r a = dval r (a.take i) + r ^ (a.take i).length * dval r (a.drop i) := by
  rw [← dval_append, List.take_append_drop]

theorem dval_lt {r : Int} (hr : 2 ≤ r) {ds : List Int} (h : Dig r ds) : dval r ds < r ^ ds.length := by
  induction ds with
  | nil => simp [dval]
  | cons z zs ih =>
    have h1 := h z (by simp)
    have h2 := ih (fun d hd => h d (by simp [hd]))
    simp only [dval, List.length_cons, Int.pow_succ]
    have h3 : r * (dval r zs + 1) ≤ r * r ^ zs.length := Int.mul_le_mul_of_nonneg_left (by omega) (by omega)
    rw [Int.mul_add] at h3
    rw [Int.mul_comm (r ^ zs.length) r]
    omega

theorem dval_pos_of_top {r : Int} (hr : 2 ≤ r) {ds : List Int} (h : Dig r ds) (ht : Top ds) (hne : ds ≠ []) : r ^ (ds.length - 1) ≤ dval r ds := by
  have hl : 0 < ds.length := by
    rcases ds with _ | ⟨d, ds⟩
    · exact absurd rfl hne
    · simp
  rcases ht with h0 | h0
  · exact absurd h0 hne
  · rw [dval_split r ds (ds.length - 1), drop_getD (by omega)]
    have h1 := Dig_getD (by omega : 0 < r) h (ds.length - 1)
    have h2 := dval_nonneg (by omega) (Dig_take h (ds.length - 1))
    rw [show ds.length - 1 + 1 = ds.length by omega, List.drop_of_length_le (Nat.le_refl _), List.length_take, Nat.min_eq_left (by omega)]
    simp only [dval]
    have h3 : r ^ (ds.length - 1) * 1 ≤ r ^ (ds.length - 1) * (ds.getD (ds.length - 1) 0 + r * 0) := Int.mul_le_mul_of_nonneg_left (by omega) (by have := rpow_pos hr (ds.length - 1); omega)
    omega

theorem rpow_le {r : Int} (hr : 2 ≤ r) {a b : Nat} (h : a ≤ b) : r ^ a ≤ r ^ b := by
  obtain ⟨k, rfl⟩ : ∃ k, b = a + k := ⟨b - a, by omega⟩
  rw [Int.pow_add]
  have h1 := rpow_pos hr a
  have h2 := rpow_pos hr k
  have h3 : r ^ a * 1 ≤ r ^ a * r ^ k := Int.mul_le_mul_of_nonneg_left (by omega) (by omega)
  omega

theorem rtrim_own {B : Nat} (w : World) (ao : Option Addr) (n cap : Nat) (ds : List Int) (h : OwnI B w ao n cap ds) :
    Calls Try.prog 114 #[.slice ao n cap] w fun e w' => e = .returned (.slice ao (tl ds n) cap) ∧ w = w' :=
  rtrim_any w ao n cap ds h.sl.len h.sl.le h.sl.most h.sl.cells

theorem OwnI.trimmed {B : Nat} {w : World} {ao : Option Addr} {n cap : Nat} {zs : List Int} (h : OwnI B w ao n cap zs) (k : Nat) (hk : k ≤ n) : OwnI B w ao k cap (zs.take k) := by
  have hl := h.sl.len
  refine ⟨by rw [List.length_map, List.length_take]; omega, ?_⟩
  rcases h.2 with ⟨hv, h0⟩ | ⟨g, c, cur, hv, hbg, hg, hnc, hcm, hcs, htk⟩
  · left
    simp at hv
    obtain ⟨rfl, rfl, rfl⟩ := hv
    exact ⟨by simp; omega, by omega⟩
  · right
    simp at hv
    obtain ⟨rfl, rfl⟩ := hv
    refine ⟨g, cap, cur, rfl, hbg, hg, by omega, hcm, hcs, ?_⟩
    rw [List.map_take, ← htk, List.take_take]
    congr 1
    omega
end Go.Proofs.Ytkifebmlojdjnaa
