/- Ref4, Ref5, Ref6, Ref7, Ref8, Ref9, Ref10 in one text. -/
import Derived.Test.YtdfepdhflnnjpaaGreatRefs
import Derived.Test.YtdfepdhflnnjpaaGreatNats
import Derived.Deep.RegionHeld3
import Derived.Deep.AppendLies
namespace Go.Proofs.YtdfepdhflnnjpaaGreat
open Go.RowKit
set_option autoImplicit false
set_option maxHeartbeats 1000000
set_option linter.unusedVariables false

set_option maxRecDepth 100000 in
theorem rmake_any (w : World) (neg : Bool) (ao : Option Addr) (n cap : Nat) (zs : List Int) (h : Sl w ao n cap zs) (lz : Lim zs) (hn : n ≤ 4294967296) :
    Calls Tryz.prog 75 #[.bool neg, .slice ao n cap] w (RetRef w (sgn neg (val zs)) (2 * n)) := by
  obtain ⟨i0, hi, hz0, hz1, hz2⟩ := info_parts info_int
  have HZL := Lib.hid h.len
  have HSL := Lib.hid h
  have hcap := h.le
  have hmx : cap ≤ 9223372036854775807 := by have := h.most; unfold maxLen at this; omega
  clear h
  go_enter Tryz.func75, Tryz.ntmps75
  go_wp2_with fail
  go_loopw [5, 6] (fun d i wr => ∃ (j : Nat) (ds : List Int), ∃ to tc, i = .int .i64 j ∧ j ≤ n ∧ d = .slice to (2 * j) tc ∧ OwnI (w.heap.size + 1) wr to (2 * j) tc ds ∧ Dig 65536 ds ∧ dval 65536 ds = val (zs.take j) ∧
      Below (w.heap.size + 1) (w.alloc (.cells #[.bool false, .slice none 0 0] 34)) wr) (fun _ i _ => n - (intOf i).toNat)
  case atStart => exact ⟨0, [], none, 0, rfl, by omega, rfl, World.ownsRow_nil _ _ _ _, Dig_nil _, by simp [dval, val], Below.refl _ _⟩
  case round =>
    obtain ⟨j, ds, to, tc, rfl, hj, rfl, hown, hdig, hval, hbel⟩ := hrel
    have HO := Lib.hid hown
    have HV := Lib.hid hval
    have HDL : Hid (ds.length = 2 * j) := hown.sl.len
    have hsz : w.heap.size + 1 ≤ wr.heap.size := by have := hbel.size; simpa using this
    have HB := Lib.hid hbel
    clear hown hval hbel
    by_cases hjs : j < n
    · have hb0 : Below w.heap.size w wr := ((Below.refl _ _).alloc (Nat.le_refl _) _).trans (HB.out.mono (by omega))
      obtain ⟨b, o, rfl, hc⟩ := (HSL.out.below hb0).cells.at (k := j) (by rw [HZL.out]; exact hjs)
      have hlj := Lim_getD lz j
      obtain ⟨z, hz⟩ : ∃ z, zs.getD j 0 = z := ⟨_, rfl⟩
      rw [hz] at hc hlj
      have HZ := Lib.hid hz
      clear hz hb0
      have hji : (j : Int) < n := by omega
      have hz0' : 0 ≤ z := hlj.1
      have hz1' : z ≤ 4294967295 := hlj.2
      go_wp2_with fail
      have hne := World.new_ne wr _ hc
      have hbw : b < w.heap.size := by
        obtain ⟨b', o', hab, hc'⟩ := HSL.out.cells.at (k := j) (by rw [HZL.out]; exact hjs)
        simp at hab
        obtain ⟨rfl, rfl⟩ := hab
        exact World.block_lt_of_cell? w _ hc'
      have hown0 : ∀ g, (Value.slice to (2 * j) tc).ownBlock = some g → w.heap.size + 1 ≤ g := fun g hg => (World.ownsRow.lt HO.out g hg).1
      obtain ⟨lo, hlo⟩ : ∃ lo, IntKind.i64.wrap (z.tmod 65536) = lo := ⟨_, rfl⟩
      obtain ⟨hi', hhi⟩ : ∃ hi', IntKind.i64.wrap (IntKind.u32.wrap (z.tdiv 65536)) = hi' := ⟨_, rfl⟩
      have HLO : Hid (lo = z % 65536) := Lib.hid (by rw [← hlo, IntKind.wrap_i64, Int.tmod_eq_emod_of_nonneg hz0']; omega)
      have HHI : Hid (hi' = z / 65536) := Lib.hid (by rw [← hhi, IntKind.wrap_u32, IntKind.wrap_i64, Int.tdiv_eq_ediv_of_nonneg hz0']; omega)
      have HOA : Hid (((wr.alloc (.cells #[.int .i64 lo, .int .i64 hi'] 3)).drew).ownsRow (w.heap.size + 1) 3 1 (.slice to (2 * j) tc) (2 * j) (ds.map (Value.int .i64))) := Lib.hid (HO.out.alloc _)
      have HNW : Hid (∀ k u, [Value.int .i64 lo, Value.int .i64 hi'][k]? = some u → ((wr.alloc (.cells #[.int .i64 lo, .int .i64 hi'] 3)).drew).cell? ((⟨wr.heap.size, 0, none⟩ : Addr).add k) = some u) :=
        Lib.hid (World.news_of_block (w := (wr.alloc (.cells #[.int .i64 lo, .int .i64 hi'] 3)).drew) (heap_alloc_new wr (.cells #[.int .i64 lo, .int .i64 hi'] 3)))
      have HON : Hid (∀ u ∈ [Value.int .i64 lo, Value.int .i64 hi'], u.oneCell' = true) := Lib.hid (by intro u hu; simp at hu; rcases hu with rfl | rfl <;> rfl)
      go_region_held3 (fun w' => w'.cell? ⟨b, o + j, none⟩ = some (.int .u32 z)) (first | (go_keep; done) | (go_split_ands; rw [hgrow.cell_far (a := ⟨b, o + j, none⟩) (by simp; omega) (by intro h; have := hown0 _ h.symm; simp at this; omega)]; assumption)) ((refine step_append_lies _ (by rfl) _ _ 32 (by rfl) (w.heap.size + 1) 3 i0 (.int .i64 0) 1 8 Tryz.underlying32 hi hz0 hz1 hz2 rfl (by omega) (.slice to (2 * j) tc) (2 * j) (ds.map (Value.int .i64)) (by rfl) HOA.out ⟨wr.heap.size, 0, none⟩ 2 2 [.int .i64 lo, .int .i64 hi'] (by rfl) rfl HNW.out HON.out (by omega) (by unfold maxLen; omega) (by omega) (by simp; omega) (wr.heap.size + 1) (by simp) ?_; intro g2 tc2 w2 hown2 hgrow hat hlt))
      have hrow2 : OwnI (w.heap.size + 1) w2 (some ⟨g2, 0, none⟩) (2 * j + 2) tc2 (ds ++ [lo, hi']) := by
        unfold OwnI
        rw [List.map_append]
        exact hown2
      have hb2 : Below (w.heap.size + 1) (w.alloc (.cells #[.bool false, .slice none 0 0] 34)) w2 := Below.grown (HB.out.alloc hsz _).drew hgrow (by simp; omega) hown0
      have HR2 := Lib.hid hrow2
      have HB2 := Lib.hid hb2
      clear hown2 hgrow hrow2 hb2
      go_wp2_with fail
      go_roundw
      case rel =>
        refine ⟨j + 1, ds ++ [lo, hi'], some ⟨g2, 0, none⟩, tc2, by go_num, by omega, rfl, HR2.out, ?_, ?_, HB2.out⟩
        · rw [HLO.out, HHI.out, show [z % 65536, z / 65536] = [z % 65536] ++ [z / 65536] from rfl, ← List.append_assoc]
          exact Dig_snoc (Dig_snoc hdig (by omega) (by omega)) (by omega) (by omega)
        · rw [HLO.out, HHI.out, dval_append, HV.out, HDL.out, val_take_succ, HZ.out, show (4294967296 : Int) ^ j = 65536 ^ (2 * j) by rw [Int.pow_mul]; rfl]
          congr 2
          simp [dval]
          omega
      case measure => simp [intOf]; omega
    · obtain rfl : j = n := by omega
      have hji : ¬ (j : Int) < j := by omega
      go_wp2_with fail
      refine (made_int wr _ _ _ _ ds HO.out.sl hdig rfl).mono ?_
      rintro e w2 ⟨neg', ao', n', cap', zs', rfl, hint, hn', hb3⟩
      have hr2 : w2.heap[w.heap.size]? = some (.cells #[.bool false, .slice none 0 0] 34 (0, 0)) := (hb3.block _ (by omega)).trans ((HB.out.block _ (by omega)).trans (heap_alloc_new w _))
      obtain ⟨c0, c1, f0, f1⟩ := blk2 hr2
      have HI := Lib.hid (hint.stored hr2 (.bool neg') (.slice ao' n' cap'))
      clear hint hr2
      have hb4 : Below w.heap.size w w2 := (((Below.refl _ _).alloc (Nat.le_refl _) _).trans (HB.out.mono (by omega))).trans (hb3.mono (by omega))
      go_wp2
      refine bodyPost_ret (v := .agg #[.bool neg', .slice ao' n' cap']) (by simp [results, Tryz.results75, go_sem, c0, c1]) rfl ?_
      exact fin_ref (Nat.le_refl _) hb4 HI.out (by rw [HV.out, List.take_of_length_le (by rw [HZL.out]; exact Nat.le_refl _)]) hn'

theorem dval_split (r : Int) (a : List Int) (i : Nat) : dval r a = dval r (a.take i) + r ^ (a.take i).length * dval r (a.drop i) := by
  rw [← dval_append, List.take_append_drop]

theorem dval_lt {r : Int} (hr : 2 ≤ r) {ds : List Int} (h : Dig r ds) : dval r ds < r ^ ds.length := by
  induction ds with
  | nil => simp [dval]
  | cons z zs ih =>
    have h1 := h z (by simp)
    have h2 := ih (fun d hd => h d (by simp [hd]))
    simp only [dval, List.length_cons, Int.pow_succ]
    have h3 : r * (dval r zs + 1) ≤ r * r ^ zs.length := Int.mul_le_mul_of_nonneg_left (by omega) (by omega)
    rw [Int.mul_add] at h3
    rw [Int.mul_comm (r ^ zs.length) r]
    omega

theorem dval_cmp {r : Int} (hr : 2 ≤ r) {a b : List Int} (la : Dig r a) (lb : Dig r b) (hl : a.length = b.length) {i : Nat} (hi : i < a.length) (hd : dval r (a.drop (i + 1)) = dval r (b.drop (i + 1))) (h : a.getD i 0 < b.getD i 0) : dval r a < dval r b := by
  rw [dval_split r a i, dval_split r b i, drop_getD hi, drop_getD (by omega : i < b.length)]
  simp only [dval, hd, List.length_take, Nat.min_eq_left (by omega : i ≤ a.length), Nat.min_eq_left (by omega : i ≤ b.length)]
  have h1 := dval_lt hr (Dig_take la i)
  have h2 := dval_nonneg (by omega) (Dig_take lb i)
  rw [List.length_take, Nat.min_eq_left (by omega)] at h1
  have h3 : r ^ i * (a.getD i 0 + r * dval r (b.drop (i + 1)) + 1) ≤ r ^ i * (b.getD i 0 + r * dval r (b.drop (i + 1))) :=
    Int.mul_le_mul_of_nonneg_left (by omega) (by have := rpow_pos hr i; omega)
  rw [Int.mul_add _ _ 1] at h3
  omega

theorem dval_pos_of_top {r : Int} (hr : 2 ≤ r) {ds : List Int} (h : Dig r ds) (ht : Top ds) (hne : ds ≠ []) : r ^ (ds.length - 1) ≤ dval r ds := by
  have hl : 0 < ds.length := by
    rcases ds with _ | ⟨d, ds⟩
    · exact absurd rfl hne
    · simp
  rcases ht with h0 | h0
  · exact absurd h0 hne
  · rw [dval_split r ds (ds.length - 1), drop_getD (by omega)]
    have h1 := Dig_getD (by omega : 0 < r) h (ds.length - 1)
    have h2 := dval_nonneg (by omega) (Dig_take h (ds.length - 1))
    rw [show ds.length - 1 + 1 = ds.length by omega, List.drop_of_length_le (Nat.le_refl _), List.length_take, Nat.min_eq_left (by omega)]
    simp only [dval]
    have h3 : r ^ (ds.length - 1) * 1 ≤ r ^ (ds.length - 1) * (ds.getD (ds.length - 1) 0 + r * 0) := Int.mul_le_mul_of_nonneg_left (by omega) (by have := rpow_pos hr (ds.length - 1); omega)
    omega

theorem rpow_le {r : Int} (hr : 2 ≤ r) {a b : Nat} (h : a ≤ b) : r ^ a ≤ r ^ b := by
  obtain ⟨k, rfl⟩ : ∃ k, b = a + k := ⟨b - a, by omega⟩
  rw [Int.pow_add]
  have h1 := rpow_pos hr a
  have h2 := rpow_pos hr k
  have h3 : r ^ a * 1 ≤ r ^ a * r ^ k := Int.mul_le_mul_of_nonneg_left (by omega) (by omega)
  omega

theorem dval_lt_of_len {r : Int} (hr : 2 ≤ r) {a b : List Int} (la : Dig r a) (lb : Dig r b) (tb : Top b) (h : a.length < b.length) : dval r a < dval r b := by
  have h1 := dval_lt hr la
  have h2 := dval_pos_of_top hr lb tb (by intro hb; subst hb; simp at h)
  have h3 := rpow_le hr (show a.length ≤ b.length - 1 by omega)
  omega

set_option maxRecDepth 100000 in
theorem rcompare_any (w : World) (ao bo : Option Addr) (n m capa capb : Nat) (xs ys : List Int) (hx : SlI w ao n capa xs) (hy : SlI w bo m capb ys) (lx : Dig 65536 xs) (ly : Dig 65536 ys) (tx : Top xs) (ty : Top ys) :
    Calls Tryz.prog 125 #[.slice ao n capa, .slice bo m capb] w (RetQ w (.int .i64 (cmpI (dval 65536 xs) (dval 65536 ys)))) := by
  have HEX : Hid (xs.length = n) := hx.len
  have HEY : Hid (ys.length = m) := hy.len
  have HCX := Lib.hid hx.cells
  have HCY := Lib.hid hy.cells
  have hmost := hx.most
  have hle := hx.le
  have HB' : Hid (capb ≤ 9223372036854775807 ∧ m ≤ capb) := ⟨by have := hy.most; unfold maxLen at this; omega, hy.le⟩
  unfold maxLen at hmost
  clear hx hy
  by_cases hnm : n = m
  · subst hnm
    go_enter Tryz.func125, Tryz.ntmps125
    go_wp2
    go_loopw [5] (fun i wr => ∃ p : Int, -1 ≤ p ∧ p < n ∧ i = .int .i64 p ∧ dval 65536 (xs.drop (p + 1).toNat) = dval 65536 (ys.drop (p + 1).toNat) ∧ ∃ q, wr = w.drewN q) (fun i _ => (intOf i + 1).toNat)
    case atStart => exact ⟨(n : Int) - 1, by omega, by omega, rfl, by rw [List.drop_of_length_le (by have := HEX.out; omega), List.drop_of_length_le (by have := HEY.out; omega)], 0, rfl⟩
    case round =>
      obtain ⟨p, hp0, hp1, rfl, hd, q, rfl⟩ := hrel
      have HD := Lib.hid hd
      clear hd
      by_cases hp : p < 0
      · obtain rfl : p = -1 := by omega
        go_wp2
        go_ret
        refine ⟨?_, q, rfl⟩
        have := HD.out
        simp at this
        rw [cmpI_eq this]
        rfl
      · obtain ⟨j, rfl⟩ := Int.eq_ofNat_of_zero_le (show 0 ≤ p by omega)
        obtain ⟨ba, oa, rfl, hca⟩ := HCX.out.at (k := j) (by rw [HEX.out]; omega)
        obtain ⟨bb, ob, rfl, hcb⟩ := HCY.out.at (k := j) (by rw [HEY.out]; omega)
        obtain ⟨a, ha⟩ : ∃ a, xs.getD j 0 = a := ⟨_, rfl⟩
        obtain ⟨b, hb⟩ : ∃ b, ys.getD j 0 = b := ⟨_, rfl⟩
        rw [ha] at hca
        rw [hb] at hcb
        have HA := Lib.hid ha
        have HB := Lib.hid hb
        clear ha hb
        have hj0 : (0 : Int) ≤ j := by omega
        have hjx : j < xs.length := by rw [HEX.out]; omega
        have hjy : j < ys.length := by rw [HEY.out]; omega
        have HJX := Lib.hid hjx
        have HJY := Lib.hid hjy
        clear hjx hjy
        have hd : dval 65536 (xs.drop (j + 1)) = dval 65536 (ys.drop (j + 1)) := by have := HD.out; rwa [show ((j : Int) + 1).toNat = j + 1 by omega] at this
        have HD' := Lib.hid hd
        clear hd
        by_cases hlt : a < b
        · have hlt' : decide (a < b) = true := by simpa using hlt
          go_wp2
          go_quiet (fail)
          go_wp2
          go_ret
          have hc := cmpI_lt (dval_cmp (by omega) lx ly (by rw [HEX.out, HEY.out]) HJX.out HD'.out (by rw [HA.out, HB.out]; exact hlt))
          exact ⟨by rw [hc]; rfl, _, by first | rfl | rw [World.drewN_drewN]⟩
        · have hlt' : decide (a < b) = false := by simpa using hlt
          by_cases hgt : b < a
          · have hgt' : decide (b < a) = true := by simpa using hgt
            go_wp2
            go_quiet (fail)
            go_wp2
            go_quiet (fail)
            go_wp2
            go_ret
            have hc := cmpI_gt (dval_cmp (by omega) ly lx (by rw [HEX.out, HEY.out]) HJY.out HD'.out.symm (by rw [HA.out, HB.out]; omega))
            exact ⟨by rw [hc]; rfl, _, by first | rfl | rw [World.drewN_drewN, World.drewN_drewN]⟩
          · have hgt' : decide (b < a) = false := by simpa using hgt
            obtain rfl : a = b := by omega
            go_wp2
            go_quiet (fail)
            go_wp2
            go_quiet (fail)
            go_wp2
            go_roundw
            case rel =>
              refine ⟨(j : Int) - 1, by omega, by omega, rfl, ?_, _, by first | rfl | rw [World.drewN_drewN, World.drewN_drewN]⟩
              rw [show ((j : Int) - 1 + 1).toNat = j by omega, drop_getD HJX.out, drop_getD HJY.out, HA.out, HB.out]
              simp only [dval, HD'.out]
            case measure => simp [intOf]
  · have hmost' : capb ≤ 9223372036854775807 ∧ m ≤ capb := HB'.out
    have hne : ((n : Int) != (m : Int)) = true := by simp; omega
    by_cases hlt : n < m
    · have hc := cmpI_lt (dval_lt_of_len (r := 65536) (by omega) lx ly ty (by rw [HEX.out, HEY.out]; exact hlt))
      have HC := Lib.hid hc
      clear hc
      go_enter Tryz.func125, Tryz.ntmps125
      go_wp2
      go_ret
      exact ⟨by rw [HC.out]; rfl, 0, rfl⟩
    · have hc := cmpI_gt (dval_lt_of_len (r := 65536) (by omega) ly lx tx (by rw [HEX.out, HEY.out]; omega))
      have HC := Lib.hid hc
      clear hc
      go_enter Tryz.func125, Tryz.ntmps125
      go_wp2
      go_ret
      exact ⟨by rw [HC.out]; rfl, 0, rfl⟩

/-- Digits were returned. -/
def RetDigs (w : World) (x : Int) (L : Nat) (e : Ending) (w' : World) : Prop :=
  ∃ ao n cap ds, e = .returned (.slice ao n cap) ∧ OwnI w.heap.size w' ao n cap ds ∧ Dig 65536 ds ∧ dval 65536 ds = x ∧ n ≤ L ∧ Below w.heap.size w w'

theorem plus_step {ds a b : List Int} {j : Nat} {c : Int} (hl : ds.length = j) (h : dval 65536 ds + 65536 ^ j * c = dval 65536 (a.take j) + dval 65536 (b.take j)) :
    dval 65536 (ds ++ [(a.getD j 0 + b.getD j 0 + c) % 65536]) + 65536 ^ (j + 1) * ((a.getD j 0 + b.getD j 0 + c) / 65536) = dval 65536 (a.take (j + 1)) + dval 65536 (b.take (j + 1)) := by
  rw [dval_snoc, dval_take_succ, dval_take_succ, hl, Int.pow_succ]
  have := Int.emod_add_mul_ediv (a.getD j 0 + b.getD j 0 + c) 65536
  grind

set_option maxRecDepth 100000 in
theorem rplus_any (w : World) (ao bo : Option Addr) (n m capa capb : Nat) (xs ys : List Int) (hx : SlI w ao n capa xs) (hy : SlI w bo m capb ys) (lx : Dig 65536 xs) (ly : Dig 65536 ys) (hn : n ≤ 4294967296) (hm : m ≤ 4294967296) :
    Calls Tryz.prog 124 #[.slice ao n capa, .slice bo m capb] w (RetDigs w (dval 65536 xs + dval 65536 ys) (max n m + 1)) := by
  obtain ⟨i0, hi, hz0, hz1, hz2⟩ := info_parts info_int
  have HEX : Hid (xs.length = n) := hx.len
  have HEY : Hid (ys.length = m) := hy.len
  have HX := Lib.hid hx
  have HY := Lib.hid hy
  have hmosta : n ≤ capa ∧ capa ≤ 9223372036854775807 := ⟨hx.le, by have := hx.most; unfold maxLen at this; omega⟩
  have hmostb : m ≤ capb ∧ capb ≤ 9223372036854775807 := ⟨hy.le, by have := hy.most; unfold maxLen at this; omega⟩
  clear hx hy
  go_enter Tryz.func124, Tryz.ntmps124
  go_wp2_with fail
  go_loopw [5, 6, 7] (fun d cc i wr => ∃ (j : Nat) (c : Int) (ds : List Int), ∃ to tc, i = .int .i64 j ∧ cc = .int .i64 c ∧ 0 ≤ c ∧ c ≤ 1 ∧ j ≤ max n m + 1 ∧ (j = max n m + 1 → c = 0) ∧ d = .slice to j tc ∧ OwnI w.heap.size wr to j tc ds ∧ Dig 65536 ds ∧
      dval 65536 ds + 65536 ^ j * c = dval 65536 (xs.take j) + dval 65536 (ys.take j) ∧ Below w.heap.size w wr) (fun _ _ i _ => max n m + 2 - (intOf i).toNat)
  case atStart => exact ⟨0, 0, [], none, 0, rfl, rfl, by omega, by omega, by omega, by omega, rfl, World.ownsRow_nil _ _ _ _, Dig_nil _, by simp [dval], Below.refl _ _⟩
  case round =>
    obtain ⟨j, c, ds, to, tc, rfl, rfl, hc0, hc1, hj, hjc, rfl, hown, hdig, hval, hbel⟩ := hrel
    have HO := Lib.hid hown
    have HV := Lib.hid hval
    have HB := Lib.hid hbel
    have hsz := hbel.size
    clear hown hval hbel
    have hst := plus_step HO.out.sl.len HV.out
    by_cases hjn : j < n
    · by_cases hjm : j < m
      · have hskip := hj
        obtain ⟨b1, o1, rfl, hca⟩ := (HX.out.below HB.out).cells.at (k := j) (by rw [HEX.out]; exact hjn)
        have hla := Dig_getD (by omega : (0 : Int) < 65536) lx j
        obtain ⟨a, ha⟩ : ∃ a, xs.getD j 0 = a := ⟨_, rfl⟩
        rw [ha] at hca hla hst
        obtain ⟨ha0, ha1⟩ := hla
        have hji : (j : Int) < n := by omega
        obtain ⟨b2, o2, rfl, hcb⟩ := (HY.out.below HB.out).cells.at (k := j) (by rw [HEY.out]; exact hjm)
        have hlb := Dig_getD (by omega : (0 : Int) < 65536) ly j
        obtain ⟨b, hb⟩ : ∃ b, ys.getD j 0 = b := ⟨_, rfl⟩
        rw [hb] at hcb hlb hst
        obtain ⟨hb0, hb1⟩ := hlb
        have hjm' : (j : Int) < m := by omega
        have HST := Lib.hid hst
        have HSUM : Hid (a + b + c = c + a + b) := Lib.hid (by omega)
        clear ha hb hst
        go_wp2_with (at_builtin; refine wpList_app1 rfl _ _ 32 rfl w.heap.size 3 i0 (.int .i64 0) 8 Tryz.underlying32 hi hz0 hz1 hz2 rfl (.slice to j tc) j (ds.map (Value.int .i64)) (.int .i64 ((c + a + b) % 65536)) rfl HO.out rfl rfl (by omega) (by omega) hsz ?_)
        intro to2 tc2 w2 hown2 hgrow
        have hrow2 : OwnI w.heap.size w2 to2 (j + 1) tc2 (ds ++ [(c + a + b) % 65536]) := by
          unfold OwnI
          rw [List.map_append]
          exact hown2
        have hb2 : Below w.heap.size w w2 := Below.grown (HB.out.alloc hsz _) hgrow (by simp; omega) (by intro g hg; exact (World.ownsRow.lt HO.out g hg).1)
        have HR2 := Lib.hid hrow2
        have HB2 := Lib.hid hb2
        clear hown2 hgrow hrow2 hb2
        go_wp2_with fail
        go_roundw
        case rel =>
          refine ⟨j + 1, (c + a + b) / 65536, ds ++ [(c + a + b) % 65536], to2, tc2, by go_num, rfl, by omega, by omega, by omega, by omega, rfl, HR2.out, Dig_snoc hdig (by omega) (by omega), ?_, HB2.out⟩
          have := HST.out
          rwa [HSUM.out] at this
        case measure => simp [intOf]; omega
      · have hskip := hj
        obtain ⟨b1, o1, rfl, hca⟩ := (HX.out.below HB.out).cells.at (k := j) (by rw [HEX.out]; exact hjn)
        have hla := Dig_getD (by omega : (0 : Int) < 65536) lx j
        obtain ⟨a, ha⟩ : ∃ a, xs.getD j 0 = a := ⟨_, rfl⟩
        rw [ha] at hca hla hst
        obtain ⟨ha0, ha1⟩ := hla
        have hji : (j : Int) < n := by omega
        have hb := getD_ge (a := ys) (n := j) (by rw [HEY.out]; omega)
        rw [hb] at hst
        have hjm' : ¬ (j : Int) < m := by omega
        have HST := Lib.hid hst
        have HSUM : Hid (a + 0 + c = c + a) := Lib.hid (by omega)
        clear ha hb hst
        go_wp2_with (at_builtin; refine wpList_app1 rfl _ _ 32 rfl w.heap.size 3 i0 (.int .i64 0) 8 Tryz.underlying32 hi hz0 hz1 hz2 rfl (.slice to j tc) j (ds.map (Value.int .i64)) (.int .i64 ((c + a) % 65536)) rfl HO.out rfl rfl (by omega) (by omega) hsz ?_)
        intro to2 tc2 w2 hown2 hgrow
        have hrow2 : OwnI w.heap.size w2 to2 (j + 1) tc2 (ds ++ [(c + a) % 65536]) := by
          unfold OwnI
          rw [List.map_append]
          exact hown2
        have hb2 : Below w.heap.size w w2 := Below.grown (HB.out.alloc hsz _) hgrow (by simp; omega) (by intro g hg; exact (World.ownsRow.lt HO.out g hg).1)
        have HR2 := Lib.hid hrow2
        have HB2 := Lib.hid hb2
        clear hown2 hgrow hrow2 hb2
        go_wp2_with fail
        go_roundw
        case rel =>
          refine ⟨j + 1, (c + a) / 65536, ds ++ [(c + a) % 65536], to2, tc2, by go_num, rfl, by omega, by omega, by omega, by omega, rfl, HR2.out, Dig_snoc hdig (by omega) (by omega), ?_, HB2.out⟩
          have := HST.out
          rwa [HSUM.out] at this
        case measure => simp [intOf]; omega
    · by_cases hjm : j < m
      · have hskip := hj
        have ha := getD_ge (a := xs) (n := j) (by rw [HEX.out]; omega)
        rw [ha] at hst
        have hji : ¬ (j : Int) < n := by omega
        obtain ⟨b2, o2, rfl, hcb⟩ := (HY.out.below HB.out).cells.at (k := j) (by rw [HEY.out]; exact hjm)
        have hlb := Dig_getD (by omega : (0 : Int) < 65536) ly j
        obtain ⟨b, hb⟩ : ∃ b, ys.getD j 0 = b := ⟨_, rfl⟩
        rw [hb] at hcb hlb hst
        obtain ⟨hb0, hb1⟩ := hlb
        have hjm' : (j : Int) < m := by omega
        have HST := Lib.hid hst
        have HSUM : Hid (0 + b + c = c + b) := Lib.hid (by omega)
        clear ha hb hst
        go_wp2_with (at_builtin; refine wpList_app1 rfl _ _ 32 rfl w.heap.size 3 i0 (.int .i64 0) 8 Tryz.underlying32 hi hz0 hz1 hz2 rfl (.slice to j tc) j (ds.map (Value.int .i64)) (.int .i64 ((c + b) % 65536)) rfl HO.out rfl rfl (by omega) (by omega) hsz ?_)
        intro to2 tc2 w2 hown2 hgrow
        have hrow2 : OwnI w.heap.size w2 to2 (j + 1) tc2 (ds ++ [(c + b) % 65536]) := by
          unfold OwnI
          rw [List.map_append]
          exact hown2
        have hb2 : Below w.heap.size w w2 := Below.grown (HB.out.alloc hsz _) hgrow (by simp; omega) (by intro g hg; exact (World.ownsRow.lt HO.out g hg).1)
        have HR2 := Lib.hid hrow2
        have HB2 := Lib.hid hb2
        clear hown2 hgrow hrow2 hb2
        go_wp2_with fail
        go_roundw
        case rel =>
          refine ⟨j + 1, (c + b) / 65536, ds ++ [(c + b) % 65536], to2, tc2, by go_num, rfl, by omega, by omega, by omega, by omega, rfl, HR2.out, Dig_snoc hdig (by omega) (by omega), ?_, HB2.out⟩
          have := HST.out
          rwa [HSUM.out] at this
        case measure => simp [intOf]; omega
      · by_cases hcp : 0 < c
        · have hskip := hj
          have ha := getD_ge (a := xs) (n := j) (by rw [HEX.out]; omega)
          rw [ha] at hst
          have hji : ¬ (j : Int) < n := by omega
          have hb := getD_ge (a := ys) (n := j) (by rw [HEY.out]; omega)
          rw [hb] at hst
          have hjm' : ¬ (j : Int) < m := by omega
          have HST := Lib.hid hst
          have HSUM : Hid (0 + 0 + c = c) := Lib.hid (by omega)
          clear ha hb hst
          go_wp2_with (at_builtin; refine wpList_app1 rfl _ _ 32 rfl w.heap.size 3 i0 (.int .i64 0) 8 Tryz.underlying32 hi hz0 hz1 hz2 rfl (.slice to j tc) j (ds.map (Value.int .i64)) (.int .i64 ((c) % 65536)) rfl HO.out rfl rfl (by omega) (by omega) hsz ?_)
          intro to2 tc2 w2 hown2 hgrow
          have hrow2 : OwnI w.heap.size w2 to2 (j + 1) tc2 (ds ++ [(c) % 65536]) := by
            unfold OwnI
            rw [List.map_append]
            exact hown2
          have hb2 : Below w.heap.size w w2 := Below.grown (HB.out.alloc hsz _) hgrow (by simp; omega) (by intro g hg; exact (World.ownsRow.lt HO.out g hg).1)
          have HR2 := Lib.hid hrow2
          have HB2 := Lib.hid hb2
          clear hown2 hgrow hrow2 hb2
          go_wp2_with fail
          go_roundw
          case rel =>
            refine ⟨j + 1, (c) / 65536, ds ++ [(c) % 65536], to2, tc2, by go_num, rfl, by omega, by omega, by omega, by omega, rfl, HR2.out, Dig_snoc hdig (by omega) (by omega), ?_, HB2.out⟩
            have := HST.out
            rwa [HSUM.out] at this
          case measure => simp [intOf]; omega
        · obtain rfl : c = 0 := by omega
          have hji : ¬ (j : Int) < n := by omega
          have hjm' : ¬ (j : Int) < m := by omega
          have hv : dval 65536 ds = dval 65536 xs + dval 65536 ys := by
            have := HV.out
            rw [List.take_of_length_le (by rw [HEX.out]; omega), List.take_of_length_le (by rw [HEY.out]; omega)] at this
            omega
          have HVV := Lib.hid hv
          clear hv hst
          go_wp2_with fail
          go_ret
          exact ⟨to, j, tc, ds, rfl, HO.out, hdig, HVV.out, by omega, HB.out⟩

theorem minus_step {ds a b : List Int} {j : Nat} {c s c2 : Int} (hl : ds.length = j) (h : dval 65536 ds - 65536 ^ j * c = dval 65536 (a.take j) - dval 65536 (b.take j)) (hs : s - 65536 * c2 = a.getD j 0 - c - b.getD j 0) :
    dval 65536 (ds ++ [s]) - 65536 ^ (j + 1) * c2 = dval 65536 (a.take (j + 1)) - dval 65536 (b.take (j + 1)) := by
  rw [dval_snoc, dval_take_succ, dval_take_succ, hl, Int.pow_succ]
  have : s = a.getD j 0 - c - b.getD j 0 + 65536 * c2 := by omega
  grind

theorem rtrim_own {B : Nat} (w : World) (ao : Option Addr) (n cap : Nat) (ds : List Int) (h : OwnI B w ao n cap ds) :
    Calls Tryz.prog 147 #[.slice ao n cap] w fun e w' => e = .returned (.slice ao (tl ds n) cap) ∧ w = w' :=
  rtrim_any w ao n cap ds h.sl.len h.sl.le h.sl.most h.sl.cells

theorem OwnI.trimmed {B : Nat} {w : World} {ao : Option Addr} {n cap : Nat} {zs : List Int} (h : OwnI B w ao n cap zs) (k : Nat) (hk : k ≤ n) : OwnI B w ao k cap (zs.take k) := by
  have hl := h.sl.len
  refine ⟨by rw [List.length_map, List.length_take]; omega, ?_⟩
  rcases h.2 with ⟨hv, h0⟩ | ⟨g, c, cur, hv, hbg, hg, hnc, hcm, hcs, htk⟩
  · left
    simp at hv
    obtain ⟨rfl, rfl, rfl⟩ := hv
    exact ⟨by simp; omega, by omega⟩
  · right
    simp at hv
    obtain ⟨rfl, rfl⟩ := hv
    refine ⟨g, cap, cur, rfl, hbg, hg, by omega, hcm, hcs, ?_⟩
    rw [List.map_take, ← htk, List.take_take]
    congr 1
    omega

set_option maxRecDepth 100000 in
theorem rminus_any (w : World) (ao bo : Option Addr) (n m capa capb : Nat) (xs ys : List Int) (hx : SlI w ao n capa xs) (hy : SlI w bo m capb ys) (lx : Dig 65536 xs) (ly : Dig 65536 ys) (hn : n ≤ 4294967296) (hmn : m ≤ n) (hle : dval 65536 ys ≤ dval 65536 xs) :
    Calls Tryz.prog 126 #[.slice ao n capa, .slice bo m capb] w (RetDigs w (dval 65536 xs - dval 65536 ys) n) := by
  obtain ⟨i0, hi, hz0, hz1, hz2⟩ := info_parts info_int
  have HEX : Hid (xs.length = n) := hx.len
  have HEY : Hid (ys.length = m) := hy.len
  have HX := Lib.hid hx
  have HY := Lib.hid hy
  have hmosta : n ≤ capa ∧ capa ≤ 9223372036854775807 := ⟨hx.le, by have := hx.most; unfold maxLen at this; omega⟩
  have hmostb : m ≤ capb ∧ capb ≤ 9223372036854775807 := ⟨hy.le, by have := hy.most; unfold maxLen at this; omega⟩
  clear hx hy
  go_enter Tryz.func126, Tryz.ntmps126
  go_wp2_with fail
  go_loopw [5, 6, 7] (fun d cc i wr => ∃ (j : Nat) (c : Int) (ds : List Int), ∃ to tc, i = .int .i64 j ∧ cc = .int .i64 c ∧ 0 ≤ c ∧ c ≤ 1 ∧ j ≤ n ∧ d = .slice to j tc ∧ OwnI w.heap.size wr to j tc ds ∧ Dig 65536 ds ∧
      dval 65536 ds - 65536 ^ j * c = dval 65536 (xs.take j) - dval 65536 (ys.take j) ∧ Below w.heap.size w wr) (fun _ _ i _ => n - (intOf i).toNat)
  case atStart => exact ⟨0, 0, [], none, 0, rfl, rfl, by omega, by omega, by omega, rfl, World.ownsRow_nil _ _ _ _, Dig_nil _, by simp [dval], Below.refl _ _⟩
  case round =>
    obtain ⟨j, c, ds, to, tc, rfl, rfl, hc0, hc1, hj, rfl, hown, hdig, hval, hbel⟩ := hrel
    have HO := Lib.hid hown
    have HV := Lib.hid hval
    have HB := Lib.hid hbel
    have hsz := hbel.size
    clear hown hval hbel
    by_cases hjn : j < n
    · obtain ⟨b1, o1, rfl, hca⟩ := (HX.out.below HB.out).cells.at (k := j) (by rw [HEX.out]; exact hjn)
      have hla := Dig_getD (by omega : (0 : Int) < 65536) lx j
      have hlb := Dig_getD (by omega : (0 : Int) < 65536) ly j
      obtain ⟨a, ha⟩ : ∃ a, xs.getD j 0 = a := ⟨_, rfl⟩
      obtain ⟨b, hb⟩ : ∃ b, ys.getD j 0 = b := ⟨_, rfl⟩
      rw [ha] at hca hla
      rw [hb] at hlb
      have HA := Lib.hid ha
      obtain ⟨ha0, ha1⟩ := hla
      obtain ⟨hb0, hb1⟩ := hlb
      have hji : (j : Int) < n := by omega
      have HSTEP : Hid (∀ s c2, s - 65536 * c2 = a - c - b → dval 65536 (ds ++ [s]) - 65536 ^ (j + 1) * c2 = dval 65536 (xs.take (j + 1)) - dval 65536 (ys.take (j + 1))) :=
        Lib.hid (fun s c2 h => minus_step HO.out.sl.len HV.out (by rw [ha, hb]; exact h))
      clear ha
      by_cases hjm : j < m
      · have HSK := Lib.hid hb
        obtain ⟨b2, o2, rfl, hcb⟩ := (HY.out.below HB.out).cells.at (k := j) (by rw [HEY.out]; exact hjm)
        rw [hb] at hcb
        clear hb
        have hjm' : (j : Int) < m := by omega
        by_cases hneg : a - c - b < 0
        · have hneg' := hneg
          go_wp2_with (at_builtin; refine wpList_app1 rfl _ _ 32 rfl w.heap.size 3 i0 (.int .i64 0) 8 Tryz.underlying32 hi hz0 hz1 hz2 rfl (.slice to j tc) j (ds.map (Value.int .i64)) (.int .i64 (a - c - b + 65536)) rfl HO.out rfl rfl (by omega) (by omega) hsz ?_)
          intro to2 tc2 w2 hown2 hgrow
          have hrow2 : OwnI w.heap.size w2 to2 (j + 1) tc2 (ds ++ [a - c - b + 65536]) := by
            unfold OwnI
            rw [List.map_append]
            exact hown2
          have hb2 : Below w.heap.size w w2 := Below.grown (HB.out.alloc hsz _) hgrow (by simp; omega) (by intro g hg; exact (World.ownsRow.lt HO.out g hg).1)
          have HR2 := Lib.hid hrow2
          have HB2 := Lib.hid hb2
          clear hown2 hgrow hrow2 hb2
          go_wp2_with fail
          go_roundw
          case rel => exact ⟨j + 1, 1, ds ++ [a - c - b + 65536], to2, tc2, by go_num, rfl, by omega, by omega, by omega, rfl, HR2.out, Dig_snoc hdig (by omega) (by omega), HSTEP.out _ _ (by omega), HB2.out⟩
          case measure => simp [intOf]; omega
        · have hneg' := hneg
          go_wp2_with (at_builtin; refine wpList_app1 rfl _ _ 32 rfl w.heap.size 3 i0 (.int .i64 0) 8 Tryz.underlying32 hi hz0 hz1 hz2 rfl (.slice to j tc) j (ds.map (Value.int .i64)) (.int .i64 (a - c - b)) rfl HO.out rfl rfl (by omega) (by omega) hsz ?_)
          intro to2 tc2 w2 hown2 hgrow
          have hrow2 : OwnI w.heap.size w2 to2 (j + 1) tc2 (ds ++ [a - c - b]) := by
            unfold OwnI
            rw [List.map_append]
            exact hown2
          have hb2 : Below w.heap.size w w2 := Below.grown (HB.out.alloc hsz _) hgrow (by simp; omega) (by intro g hg; exact (World.ownsRow.lt HO.out g hg).1)
          have HR2 := Lib.hid hrow2
          have HB2 := Lib.hid hb2
          clear hown2 hgrow hrow2 hb2
          go_wp2_with fail
          go_roundw
          case rel => exact ⟨j + 1, 0, ds ++ [a - c - b], to2, tc2, by go_num, rfl, by omega, by omega, by omega, rfl, HR2.out, Dig_snoc hdig (by omega) (by omega), HSTEP.out _ _ (by omega), HB2.out⟩
          case measure => simp [intOf]; omega
      · have hb9 := getD_ge (a := ys) (n := j) (by rw [HEY.out]; omega)
        obtain rfl : b = 0 := by rw [← hb]; exact hb9
        clear hb hb9
        have hjm' : ¬ (j : Int) < m := by omega
        have hsk := hj
        by_cases hneg : a - c < 0
        · have hneg' := hneg
          go_wp2_with (at_builtin; refine wpList_app1 rfl _ _ 32 rfl w.heap.size 3 i0 (.int .i64 0) 8 Tryz.underlying32 hi hz0 hz1 hz2 rfl (.slice to j tc) j (ds.map (Value.int .i64)) (.int .i64 (a - c + 65536)) rfl HO.out rfl rfl (by omega) (by omega) hsz ?_)
          intro to2 tc2 w2 hown2 hgrow
          have hrow2 : OwnI w.heap.size w2 to2 (j + 1) tc2 (ds ++ [a - c + 65536]) := by
            unfold OwnI
            rw [List.map_append]
            exact hown2
          have hb2 : Below w.heap.size w w2 := Below.grown (HB.out.alloc hsz _) hgrow (by simp; omega) (by intro g hg; exact (World.ownsRow.lt HO.out g hg).1)
          have HR2 := Lib.hid hrow2
          have HB2 := Lib.hid hb2
          clear hown2 hgrow hrow2 hb2
          go_wp2_with fail
          go_roundw
          case rel => exact ⟨j + 1, 1, ds ++ [a - c + 65536], to2, tc2, by go_num, rfl, by omega, by omega, by omega, rfl, HR2.out, Dig_snoc hdig (by omega) (by omega), HSTEP.out _ _ (by omega), HB2.out⟩
          case measure => simp [intOf]; omega
        · have hneg' := hneg
          go_wp2_with (at_builtin; refine wpList_app1 rfl _ _ 32 rfl w.heap.size 3 i0 (.int .i64 0) 8 Tryz.underlying32 hi hz0 hz1 hz2 rfl (.slice to j tc) j (ds.map (Value.int .i64)) (.int .i64 (a - c)) rfl HO.out rfl rfl (by omega) (by omega) hsz ?_)
          intro to2 tc2 w2 hown2 hgrow
          have hrow2 : OwnI w.heap.size w2 to2 (j + 1) tc2 (ds ++ [a - c]) := by
            unfold OwnI
            rw [List.map_append]
            exact hown2
          have hb2 : Below w.heap.size w w2 := Below.grown (HB.out.alloc hsz _) hgrow (by simp; omega) (by intro g hg; exact (World.ownsRow.lt HO.out g hg).1)
          have HR2 := Lib.hid hrow2
          have HB2 := Lib.hid hb2
          clear hown2 hgrow hrow2 hb2
          go_wp2_with fail
          go_roundw
          case rel => exact ⟨j + 1, 0, ds ++ [a - c], to2, tc2, by go_num, rfl, by omega, by omega, by omega, rfl, HR2.out, Dig_snoc hdig (by omega) (by omega), HSTEP.out _ _ (by omega), HB2.out⟩
          case measure => simp [intOf]; omega
    · obtain rfl : j = n := by omega
      have hji : ¬ (j : Int) < j := by omega
      have hd0 := dval_nonneg (r := 65536) (by omega) hdig
      have hdl := dval_lt (r := 65536) (by omega) hdig
      have hlen := HO.out.sl.len
      have hv := HV.out
      rw [List.take_of_length_le (by rw [HEX.out]; omega), List.take_of_length_le (by rw [HEY.out]; omega)] at hv
      rw [hlen] at hdl
      have hc00 : c = 0 := by
        rcases (show c = 0 ∨ c = 1 by omega) with h | h
        · exact h
        · rw [h] at hv; omega
      rw [hc00] at hv
      have hv2 : dval 65536 ds = dval 65536 xs - dval 65536 ys := by omega
      have HVV := Lib.hid hv2
      clear hv hv2 hdl hd0 hlen
      go_wp2_with fail
      refine (rtrim_own wr to j tc ds HO.out).mono ?_
      rintro e w2 ⟨rfl, rfl⟩
      go_wp2_with fail
      go_ret
      have hle := tl_le ds j
      refine ⟨to, tl ds j, tc, ds.take (tl ds j), rfl, HO.out.trimmed _ hle, Dig_take hdig _, ?_, hle, HB.out⟩
      rw [tl_dval, List.take_of_length_le (by rw [HO.out.sl.len]; omega), HVV.out]

theorem rsign_any (w : World) (nx : Bool) (ao : Option Addr) (n capa : Nat) (xs : List Int) (x : Int) (hx : RefAt w nx ao n capa xs x) :
    Calls Tryz.prog 77 #[.agg #[.bool nx, .slice ao n capa]] w (RetV w (.int .i64 (cmpI x 0))) := by
  have hlen := hx.sl.len
  have h0 := dval_nonneg (r := 65536) (by omega) hx.lim
  by_cases hn : n = 0
  · have hxs : xs = [] := List.eq_nil_of_length_eq_zero (by omega)
    have hx0 : cmpI x 0 = 0 := by rw [hx.val, hxs]; cases nx <;> simp [sgn, dval, cmpI]
    rw [hx0]
    subst hn
    clear hlen h0 hx hxs hx0
    go_enter Tryz.func77, Tryz.ntmps77
    go_wp2
    go_ret
    exact ⟨rfl, by go_grown⟩
  · have hne : xs ≠ [] := by intro h; rw [h] at hlen; simp at hlen; omega
    have hpos := dval_pos_of_top (r := 65536) (by omega) hx.lim hx.top hne
    have hp := rpow_pos (r := 65536) (by omega) (xs.length - 1)
    have hne0 : ((n : Int) == 0) = false := by simp; omega
    cases nx
    · have hx0 : cmpI x 0 = 1 := cmpI_gt (by rw [hx.val]; simp [sgn]; omega)
      rw [hx0]
      clear hlen h0 hx hne hpos hp hx0
      go_enter Tryz.func77, Tryz.ntmps77
      go_wp2
      go_ret
      exact ⟨rfl, by go_grown⟩
    · have hx0 : cmpI x 0 = -1 := cmpI_lt (by rw [hx.val]; simp [sgn]; omega)
      rw [hx0]
      clear hlen h0 hx hne hpos hp hx0
      go_enter Tryz.func77, Tryz.ntmps77
      go_wp2
      go_ret
      exact ⟨rfl, by go_grown⟩

theorem rneg_any (w : World) (neg : Bool) (ao : Option Addr) (n cap : Nat) (zs : List Int) (x : Int) (h : RefAt w neg ao n cap zs x) :
    Calls Tryz.prog 79 #[.agg #[.bool neg, .slice ao n cap]] w (RetRef w (-x) n) := by
  have hx : -x = sgn (!neg) (dval 65536 zs) := by rw [h.val]; cases neg <;> simp [sgn]
  have HC : Hid (∀ w1, Below w.heap.size w w1 → Calls Tryz.prog 118 #[.bool (!neg), .slice ao n cap] w1 (RetRef w1 (-x) n)) :=
    Lib.hid (fun w1 hb => made_int w1 (!neg) ao n cap zs (h.sl.below hb) h.lim hx)
  clear h hx
  go_enter Tryz.func79, Tryz.ntmps79
  go_wp2_with fail
  refine (HC.out _ (by go_grown)).mono ?_
  rintro e w2 ⟨neg', ao', n', cap', zs', rfl, hint, hn', hb1⟩
  have hr2 : w2.heap[w.heap.size + 1]? = some (.cells #[.bool false, .slice none 0 0] 34 (0, 0)) := (hb1.block _ (by simp)).trans (heap_alloc2 _ _ _).1
  obtain ⟨c0, c1, f0, f1⟩ := blk2 hr2
  have HI := Lib.hid (hint.stored hr2 (.bool neg') (.slice ao' n' cap'))
  have hb4 : Below w.heap.size w w2 := Below.trans (by go_grown) (hb1.mono (by go_size))
  clear hint hr2
  go_wp2
  refine bodyPost_ret (v := .agg #[.bool neg', .slice ao' n' cap']) (by simp [results, Tryz.results79, go_sem, c0, c1]) rfl ?_
  exact fin_ref (by omega) hb4 HI.out rfl hn'

theorem rabs_any (w : World) (neg : Bool) (ao : Option Addr) (n cap : Nat) (zs : List Int) (x : Int) (h : RefAt w neg ao n cap zs x) :
    Calls Tryz.prog 29 #[.agg #[.bool neg, .slice ao n cap]] w (RetRef w x.natAbs n) := by
  have h0 := dval_nonneg (r := 65536) (by omega) h.lim
  have hx : (x.natAbs : Int) = dval 65536 zs := by rw [h.val]; cases neg <;> simp [sgn] <;> omega
  have HX := Lib.hid hx
  have HA : Hid (∀ w1, Below w.heap.size w w1 → RefAt w1 false ao n cap zs x.natAbs) := Lib.hid (fun w1 hb => ⟨h.sl.below hb, h.lim, h.top, by intro hh; simp at hh, by rw [HX.out]; simp [sgn]⟩)
  clear hx h0 h
  go_enter Tryz.func29, Tryz.ntmps29
  go_wp2_with fail
  have hr2 := (heap_alloc2 w (.cells #[.bool neg, .slice ao n cap] 34) (.cells #[.bool false, .slice ao n cap] 34)).1
  obtain ⟨c0, c1, f0, f1⟩ := blk2 hr2
  refine bodyPost_ret (v := .agg #[.bool false, .slice ao n cap]) (by simp [results, Tryz.results29, go_sem, c0, c1]) rfl ?_
  exact ⟨_, _, _, _, _, rfl, HA.out _ (by go_grown), Nat.le_refl _, by go_grown⟩

theorem dlen_le {a b : List Int} (la : Dig 65536 a) (lb : Dig 65536 b) (ta : Top a) (h : dval 65536 a ≤ dval 65536 b) : a.length ≤ b.length := by
  rcases Nat.lt_or_ge b.length a.length with h1 | h1
  · have := dval_lt_of_len (by omega) lb la ta h1
    omega
  · exact h1

theorem radd_eq (w : World) (nx ny : Bool) (ao bo : Option Addr) (n m capa capb : Nat) (xs ys : List Int) (x y : Int) (hx : RefAt w nx ao n capa xs x) (hy : RefAt w ny bo m capb ys y) (hn : n ≤ 4294967296) (hm : m ≤ 4294967296) (hxy : nx = ny) :
    Calls Tryz.prog 86 #[.agg #[.bool nx, .slice ao n capa], .agg #[.bool ny, .slice bo m capb]] w (RetRef w (x + y) (max n m + 1)) := by
  have HS : Hid (∀ w1, Below w.heap.size w w1 → Calls Tryz.prog 124 #[.slice ao n capa, .slice bo m capb] w1 (RetDigs w1 (dval 65536 xs + dval 65536 ys) (max n m + 1))) :=
    fun w1 hb => rplus_any w1 ao bo n m capa capb xs ys (hx.sl.below hb) (hy.sl.below hb) hx.lim hy.lim hn hm
  have HX : Hid (sgn nx (dval 65536 xs + dval 65536 ys) = x + y) := by rw [hx.val, hy.val]; exact (sgn_add hxy).symm
  have hxb : (nx == ny) = true := by simp [hxy]
  clear hx hy hxy
  go_enter Tryz.func86, Tryz.ntmps86
  go_wp2_with fail
  go_region_held3 (fun w' => w'.cell? ⟨w.heap.size, 0, none⟩ = some (.bool nx) ∧ w'.cell? ⟨w.heap.size, 1, none⟩ = some (.slice ao n capa) ∧ w'.cell? ⟨w.heap.size + 1, 1, none⟩ = some (.slice bo m capb)) (((try dsimp only); (repeat' apply And.intro) <;> (first | (go_keep; done) | (go_split_ands; rw [World.cell?_setCell_far _ _ _ _ (by dsimp only; omega), World.cell?_setCell_far _ _ _ _ (by dsimp only; omega)]; assumption) | (go_split_ands; rw [hb1.cell (by go_size)]; assumption) | (go_split_ands; rw [hb3.cell (by go_size)]; assumption))))
    (first | (go_at_call 124; refine (HS.out _ ?_).mono ?_; (exact ent3D _ _ _ _); rintro e w1 ⟨ao1, n1, cap1, zs1, rfl, hown, hlim1, hval1, hn1, hb1⟩; have HV1 := Lib.hid hval1; clear hval1; obtain ⟨hz1, hr1, hb2⟩ := left3D hb1) | (go_at_call 118; refine (made_int _ _ _ _ _ _ hown.sl hlim1 rfl).mono ?_; rintro e w2 ⟨neg', ao', n', cap', zs', rfl, hint, hn', hb3⟩; have hr2 := (hb3.block _ (by omega)).trans hr1; obtain ⟨c0, c1, f0, f1⟩ := blk2 hr2; have HI := Lib.hid (hint.stored hr2 (.bool neg') (.slice ao' n' cap')); clear hint hr2 hr1))
  have hb4 : Below w.heap.size w w2 := hb2.trans (hb3.mono (by omega))
  go_wp2
  refine bodyPost_ret (v := .agg #[.bool neg', .slice ao' n' cap']) (by simp [results, Tryz.results86, go_sem, c0, c1]) rfl ?_
  exact fin_ref (by omega) hb4 HI.out (by rw [HV1.out, HX.out]) (Nat.le_trans hn' hn1)

theorem radd_lt (w : World) (nx ny : Bool) (ao bo : Option Addr) (n m capa capb : Nat) (xs ys : List Int) (x y : Int) (hx : RefAt w nx ao n capa xs x) (hy : RefAt w ny bo m capb ys y) (hn : n ≤ 4294967296) (hm : m ≤ 4294967296) (hxy : nx ≠ ny) (hlt : dval 65536 xs < dval 65536 ys) :
    Calls Tryz.prog 86 #[.agg #[.bool nx, .slice ao n capa], .agg #[.bool ny, .slice bo m capb]] w (RetRef w (x + y) m) := by
  have hle : n ≤ m := by have := dlen_le hx.lim hy.lim hx.top (by omega); rw [hx.sl.len, hy.sl.len] at this; exact this
  have HS : Hid (∀ w1, Below w.heap.size w w1 → Calls Tryz.prog 126 #[.slice bo m capb, .slice ao n capa] w1 (RetDigs w1 (dval 65536 ys - dval 65536 xs) m)) :=
    fun w1 hb => rminus_any w1 bo ao m n capb capa ys xs (hy.sl.below hb) (hx.sl.below hb) hy.lim hx.lim hm hle (by omega)
  obtain ⟨c, hc⟩ : ∃ c, cmpI (dval 65536 xs) (dval 65536 ys) = c := ⟨_, rfl⟩
  have hcd : decide (0 ≤ c) = false := by rw [← hc, cmpI_lt hlt]; rfl
  have hcn : ¬ 0 ≤ c := by simpa using hcd
  have HX : Hid (sgn ny (dval 65536 ys - dval 65536 xs) = x + y) := by rw [hx.val, hy.val]; exact (sgn_add_ne hxy).1.symm
  have HC : Hid (∀ w1, Below w.heap.size w w1 → Calls Tryz.prog 125 #[.slice ao n capa, .slice bo m capb] w1 (RetQ w1 (.int .i64 c))) :=
    fun w1 hb => by have := rcompare_any w1 ao bo n m capa capb xs ys (hx.sl.below hb) (hy.sl.below hb) hx.lim hy.lim hx.top hy.top; rwa [hc] at this
  have hxb : (nx == ny) = false := by simp [hxy]
  clear hx hy hxy hc
  go_enter Tryz.func86, Tryz.ntmps86
  go_wp2_with fail
  refine (HC.out _ (ent3 _ _ _ _)).mono ?_
  rintro e w0 ⟨rfl, q, rfl⟩
  go_wp2_with fail
  go_region_held3 (fun w' => w'.cell? ⟨w.heap.size + 1, 0, none⟩ = some (.bool ny) ∧ w'.cell? ⟨w.heap.size, 1, none⟩ = some (.slice ao n capa) ∧ w'.cell? ⟨w.heap.size + 1, 1, none⟩ = some (.slice bo m capb)) (((try dsimp only); (repeat' apply And.intro) <;> (first | (go_keep; done) | (go_split_ands; rw [World.cell?_setCell_far _ _ _ _ (by dsimp only; omega), World.cell?_setCell_far _ _ _ _ (by dsimp only; omega)]; assumption) | (go_split_ands; rw [hb1.cell (by go_size)]; assumption) | (go_split_ands; rw [hb3.cell (by go_size)]; assumption))))
    (first | (go_at_call 126; refine (HS.out _ ?_).mono ?_; (exact ent3N _ _ _ _ _); rintro e w1 ⟨ao1, n1, cap1, zs1, rfl, hown, hlim1, hval1, hn1, hb1⟩; have HV1 := Lib.hid hval1; clear hval1; obtain ⟨hz1, hr1, hb2⟩ := left3N hb1) | (go_at_call 118; refine (made_int _ _ _ _ _ _ hown.sl hlim1 rfl).mono ?_; rintro e w2 ⟨neg', ao', n', cap', zs', rfl, hint, hn', hb3⟩; have hr2 := (hb3.block _ (by omega)).trans hr1; obtain ⟨c0, c1, f0, f1⟩ := blk2 hr2; have HI := Lib.hid (hint.stored hr2 (.bool neg') (.slice ao' n' cap')); clear hint hr2 hr1))
  have hb4 : Below w.heap.size w w2 := hb2.trans (hb3.mono (by omega))
  go_wp2
  refine bodyPost_ret (v := .agg #[.bool neg', .slice ao' n' cap']) (by simp [results, Tryz.results86, go_sem, c0, c1]) rfl ?_
  exact fin_ref (by omega) hb4 HI.out (by rw [HV1.out, HX.out]) (Nat.le_trans hn' hn1)

theorem radd_ge (w : World) (nx ny : Bool) (ao bo : Option Addr) (n m capa capb : Nat) (xs ys : List Int) (x y : Int) (hx : RefAt w nx ao n capa xs x) (hy : RefAt w ny bo m capb ys y) (hn : n ≤ 4294967296) (hm : m ≤ 4294967296) (hxy : nx ≠ ny) (hge : dval 65536 ys ≤ dval 65536 xs) :
    Calls Tryz.prog 86 #[.agg #[.bool nx, .slice ao n capa], .agg #[.bool ny, .slice bo m capb]] w (RetRef w (x + y) n) := by
  have hle : m ≤ n := by have := dlen_le hy.lim hx.lim hy.top (by omega); rw [hx.sl.len, hy.sl.len] at this; exact this
  have HS : Hid (∀ w1, Below w.heap.size w w1 → Calls Tryz.prog 126 #[.slice ao n capa, .slice bo m capb] w1 (RetDigs w1 (dval 65536 xs - dval 65536 ys) n)) :=
    fun w1 hb => rminus_any w1 ao bo n m capa capb xs ys (hx.sl.below hb) (hy.sl.below hb) hx.lim hy.lim hn hle (by omega)
  obtain ⟨c, hc⟩ : ∃ c, cmpI (dval 65536 xs) (dval 65536 ys) = c := ⟨_, rfl⟩
  have hcn : 0 ≤ c := by rw [← hc]; unfold cmpI; split; omega; split <;> omega
  have hcd : decide (0 ≤ c) = true := decide_eq_true hcn
  have HX : Hid (sgn nx (dval 65536 xs - dval 65536 ys) = x + y) := by rw [hx.val, hy.val]; exact (sgn_add_ne hxy).2.symm
  have HC : Hid (∀ w1, Below w.heap.size w w1 → Calls Tryz.prog 125 #[.slice ao n capa, .slice bo m capb] w1 (RetQ w1 (.int .i64 c))) :=
    fun w1 hb => by have := rcompare_any w1 ao bo n m capa capb xs ys (hx.sl.below hb) (hy.sl.below hb) hx.lim hy.lim hx.top hy.top; rwa [hc] at this
  have hxb : (nx == ny) = false := by simp [hxy]
  clear hx hy hxy hc
  go_enter Tryz.func86, Tryz.ntmps86
  go_wp2_with fail
  refine (HC.out _ (ent3 _ _ _ _)).mono ?_
  rintro e w0 ⟨rfl, q, rfl⟩
  go_wp2_with fail
  go_region_held3 (fun w' => w'.cell? ⟨w.heap.size, 0, none⟩ = some (.bool nx) ∧ w'.cell? ⟨w.heap.size, 1, none⟩ = some (.slice ao n capa) ∧ w'.cell? ⟨w.heap.size + 1, 1, none⟩ = some (.slice bo m capb)) (((try dsimp only); (repeat' apply And.intro) <;> (first | (go_keep; done) | (go_split_ands; rw [World.cell?_setCell_far _ _ _ _ (by dsimp only; omega), World.cell?_setCell_far _ _ _ _ (by dsimp only; omega)]; assumption) | (go_split_ands; rw [hb1.cell (by go_size)]; assumption) | (go_split_ands; rw [hb3.cell (by go_size)]; assumption))))
    (first | (go_at_call 126; refine (HS.out _ ?_).mono ?_; (exact ent3N _ _ _ _ _); rintro e w1 ⟨ao1, n1, cap1, zs1, rfl, hown, hlim1, hval1, hn1, hb1⟩; have HV1 := Lib.hid hval1; clear hval1; obtain ⟨hz1, hr1, hb2⟩ := left3N hb1) | (go_at_call 118; refine (made_int _ _ _ _ _ _ hown.sl hlim1 rfl).mono ?_; rintro e w2 ⟨neg', ao', n', cap', zs', rfl, hint, hn', hb3⟩; have hr2 := (hb3.block _ (by omega)).trans hr1; obtain ⟨c0, c1, f0, f1⟩ := blk2 hr2; have HI := Lib.hid (hint.stored hr2 (.bool neg') (.slice ao' n' cap')); clear hint hr2 hr1))
  have hb4 : Below w.heap.size w w2 := hb2.trans (hb3.mono (by omega))
  go_wp2
  refine bodyPost_ret (v := .agg #[.bool neg', .slice ao' n' cap']) (by simp [results, Tryz.results86, go_sem, c0, c1]) rfl ?_
  exact fin_ref (by omega) hb4 HI.out (by rw [HV1.out, HX.out]) (Nat.le_trans hn' hn1)

theorem radd_any (w : World) (nx ny : Bool) (ao bo : Option Addr) (n m capa capb : Nat) (xs ys : List Int) (x y : Int) (hx : RefAt w nx ao n capa xs x) (hy : RefAt w ny bo m capb ys y) (hn : n ≤ 4294967296) (hm : m ≤ 4294967296) :
    Calls Tryz.prog 86 #[.agg #[.bool nx, .slice ao n capa], .agg #[.bool ny, .slice bo m capb]] w (RetRef w (x + y) (max n m + 1)) := by
  by_cases hxy : nx = ny
  · exact radd_eq w nx ny ao bo n m capa capb xs ys x y hx hy hn hm hxy
  · by_cases hlt : dval 65536 xs < dval 65536 ys
    · refine (radd_lt w nx ny ao bo n m capa capb xs ys x y hx hy hn hm hxy hlt).mono ?_
      rintro e w' ⟨neg, a, k, c, zs, h1, h2, h3, h4⟩
      exact ⟨neg, a, k, c, zs, h1, h2, by omega, h4⟩
    · refine (radd_ge w nx ny ao bo n m capa capb xs ys x y hx hy hn hm hxy (by omega)).mono ?_
      rintro e w' ⟨neg, a, k, c, zs, h1, h2, h3, h4⟩
      exact ⟨neg, a, k, c, zs, h1, h2, by omega, h4⟩

theorem rsub_any (w : World) (nx ny : Bool) (ao bo : Option Addr) (n m capa capb : Nat) (xs ys : List Int) (x y : Int) (hx : RefAt w nx ao n capa xs x) (hy : RefAt w ny bo m capb ys y) (hn : n ≤ 4294967296) (hm : m ≤ 4294967296) :
    Calls Tryz.prog 122 #[.agg #[.bool nx, .slice ao n capa], .agg #[.bool ny, .slice bo m capb]] w (RetRef w (x - y) (max n m + 1)) := by
  have HX := Lib.hid hx
  have HY := Lib.hid hy
  clear hx hy
  go_enter Tryz.func122, Tryz.ntmps122
  go_wp2_with fail
  go_region_held3 (fun w' => w'.cell? ⟨w.heap.size, 0, none⟩ = some (.bool nx) ∧ w'.cell? ⟨w.heap.size, 1, none⟩ = some (.slice ao n capa) ∧ w'.cell? ⟨w.heap.size + 1, 0, none⟩ = some (.bool ny) ∧ w'.cell? ⟨w.heap.size + 1, 1, none⟩ = some (.slice bo m capb)) (((try dsimp only); (repeat' apply And.intro) <;> (first | (go_keep; done) | (go_split_ands; rw [World.cell?_setCell_far _ _ _ _ (by dsimp only; omega), World.cell?_setCell_far _ _ _ _ (by dsimp only; omega)]; assumption) | (go_split_ands; rw [hb1.cell (by go_size)]; assumption) | (go_split_ands; rw [hb3.cell (by go_size)]; assumption))))
    (first | (go_at_call 79; refine (rneg_any _ ny bo m capb ys y ?_).mono ?_; (exact HY.out.below (ent3D _ _ _ _)); rintro e w1 ⟨n1, a1, k1, cc1, z1, rfl, hint1, hk1, hb1⟩; obtain ⟨hz1, hr1, hb2⟩ := left3D hb1; have HI1 := Lib.hid hint1; clear hint1) | (go_at_call 86; refine (radd_any _ nx n1 ao a1 n k1 capa cc1 xs z1 x (-y) (HX.out.below hb2) HI1.out hn (by omega)).mono ?_; rintro e w2 ⟨neg', ao', n', cap', zs', rfl, hint, hn', hb3⟩; have hr2 := (hb3.block _ (by omega)).trans hr1; obtain ⟨c0, c1, f0, f1⟩ := blk2 hr2; have HI := Lib.hid (hint.stored hr2 (.bool neg') (.slice ao' n' cap')); clear hint hr2 hr1))
  have hb4 : Below w.heap.size w w2 := hb2.trans (hb3.mono (by omega))
  go_wp2
  refine bodyPost_ret (v := .agg #[.bool neg', .slice ao' n' cap']) (by simp [results, Tryz.results122, go_sem, c0, c1]) rfl ?_
  exact fin_ref (by omega) hb4 HI.out (by omega) (by omega)

theorem rcmp_any (w : World) (nx ny : Bool) (ao bo : Option Addr) (n m capa capb : Nat) (xs ys : List Int) (x y : Int) (hx : RefAt w nx ao n capa xs x) (hy : RefAt w ny bo m capb ys y) (hn : n ≤ 4294967296) (hm : m ≤ 4294967296) :
    Calls Tryz.prog 83 #[.agg #[.bool nx, .slice ao n capa], .agg #[.bool ny, .slice bo m capb]] w (RetV w (.int .i64 (cmpI x y))) := by
  have HX := Lib.hid hx
  have HY := Lib.hid hy
  have hc : cmpI (x - y) 0 = cmpI x y := by
    unfold cmpI
    by_cases h1 : x < y
    · rw [if_pos h1, if_pos (by omega)]
    · rw [if_neg h1, if_neg (by omega)]
      by_cases h2 : y < x
      · rw [if_pos h2, if_pos (by omega)]
      · rw [if_neg h2, if_neg (by omega)]
  have HC := Lib.hid hc
  clear hx hy hc
  go_enter Tryz.func83, Tryz.ntmps83
  go_wp2_with fail
  refine (rsub_any _ nx ny ao bo n m capa capb xs ys x y (HX.out.below (by go_grown)) (HY.out.below (by go_grown)) hn hm).mono ?_
  rintro e w1 ⟨n1, a1, k1, cc1, z1, rfl, hint1, hk1, hb1⟩
  have HI1 := Lib.hid hint1
  have hb2 : Below w.heap.size w w1 := Below.trans (by go_grown) (hb1.mono (by go_size))
  clear hint1
  go_wp2_with fail
  refine (rsign_any _ n1 a1 k1 cc1 z1 (x - y) HI1.out).mono ?_
  rintro e w2 ⟨rfl, hb3⟩
  go_wp2_with fail
  go_ret
  refine ⟨?_, hb2.trans (hb3.mono hb2.size)⟩
  rw [← HC.out]
  rfl
end Go.Proofs.YtdfepdhflnnjpaaGreat
