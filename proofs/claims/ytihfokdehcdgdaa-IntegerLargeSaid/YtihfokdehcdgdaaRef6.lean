/- The reference's plus. -/
import Derived.Test.YtihfokdehcdgdaaRef5
namespace Go.Proofs.Ytihfokdehcdgdaa
open Go.RowKit
set_option autoImplicit false
set_option linter.unusedVariables false

/-- Digits were returned. -/
def RetDigs (w : World) (x : Int) (L : Nat) (e : Ending) (w' : World) : Prop :=
  ∃ ao n cap ds, e = .returned (.slice ao n cap) ∧ OwnI w.heap.size w' ao n cap ds ∧ Dig 65536 ds ∧ dval 65536 ds = x ∧ n ≤ L ∧ Below w.heap.size w w'

theorem plus_step {ds a b : List Int} {j : Nat} {c : Int} (hl : ds.length = j) (h : dval 65536 ds + 65536 ^ j * c = dval 65536 (a.take j) + dval 65536 (b.take j)) :
    dval 65536 (ds ++ [(a.getD j 0 + b.getD j 0 + c) % 65536]) + 65536 ^ (j + 1) * ((a.getD j 0 + b.getD j 0 + c) / 65536) = dval 65536 (a.take (j + 1)) + dval 65536 (b.take (j + 1)) := by
  rw [dval_snoc, dval_take_succ, dval_take_succ, hl, Int.pow_succ]
  have := Int.emod_add_mul_ediv (a.getD j 0 + b.getD j 0 + c) 65536
  grind

set_option maxRecDepth 100000 in
theorem rplus_any (w : World) (ao bo : Option Addr) (n m capa capb : Nat) (xs ys : List Int) (hx : SlI w ao n capa xs) (hy : SlI w bo m capb ys) (lx : Dig 65536 xs) (ly : Dig 65536 ys) (hn : n ≤ 4294967296) (hm : m ≤ 4294967296) :
    Calls Try.prog 88 #[.slice ao n capa, .slice bo m capb] w (RetDigs w (dval 65536 xs + dval 65536 ys) (max n m + 1)) := by
  obtain ⟨i0, hi, hz0, hz1, hz2⟩ := info_parts info_int
  have HEX : Hid (xs.length = n) := hx.len
  have HEY : Hid (ys.length = m) := hy.len
  have HX := Lib.hid hx
  have HY := Lib.hid hy
  have hmosta : n ≤ capa ∧ capa ≤ 9223372036854775807 := ⟨hx.le, by have := hx.most; unfold maxLen at this; omega⟩
  have hmostb : m ≤ capb ∧ capb ≤ 9223372036854775807 := ⟨hy.le, by have := hy.most; unfold maxLen at this; omega⟩
  clear hx hy
  go_enter Try.func88, Try.ntmps88
  go_wp2_with fail
  go_loopw [5, 6, 7] (fun d cc i wr => ∃ (j : Nat) (c : Int) (ds : List Int), ∃ to tc, i = .int .i64 j ∧ cc = .int .i64 c ∧ 0 ≤ c ∧ c ≤ 1 ∧ j ≤ max n m + 1 ∧ (j = max n m + 1 → c = 0) ∧ d = .slice to j tc ∧ OwnI w.heap.size wr to j tc ds ∧ Dig 65536 ds ∧
      dval 65536 ds + 65536 ^ j * c = dval 65536 (xs.take j) + dval 65536 (ys.take j) ∧ Below w.heap.size w wr) (fun _ _ i _ => max n m + 2 - (intOf i).toNat)
  case atStart => exact ⟨0, 0, [], none, 0, rfl, rfl, by omega, by omega, by omega, by omega, rfl, World.ownsRow_nil _ _ _ _, Dig_nil _, by simp [dval], Below.refl _ _⟩
  case round =>
    obtain ⟨j, c, ds, to, tc, rfl, rfl, hc0, hc1, hj, hjc, rfl, hown, hdig, hval, hbel⟩ := hrel
    have HO := Lib.hid hown
    have HV := Lib.hid hval
    have HB := Lib.hid hbel
    have hsz := hbel.size
    clear hown hval hbel
    have hst := plus_step HO.out.sl.len HV.out
    by_cases hjn : j < n
    · by_cases hjm : j < m
      · have hskip := hj
        obtain ⟨b1, o1, rfl, hca⟩ := (HX.out.below HB.out).cells.at (k := j) (by rw [HEX.out]; exact hjn)
        have hla := Dig_getD (by omega : (0 : Int) < 65536) lx j
        obtain ⟨a, ha⟩ : ∃ a, xs.getD j 0 = a := ⟨_, rfl⟩
        rw [ha] at hca hla hst
        obtain ⟨ha0, ha1⟩ := hla
        have hji : (j : Int) < n := by omega
        obtain ⟨b2, o2, rfl, hcb⟩ := (HY.out.below HB.out).cells.at (k := j) (by rw [HEY.out]; exact hjm)
        have hlb := Dig_getD (by omega : (0 : Int) < 65536) ly j
        obtain ⟨b, hb⟩ : ∃ b, ys.getD j 0 = b := ⟨_, rfl⟩
        rw [hb] at hcb hlb hst
        obtain ⟨hb0, hb1⟩ := hlb
        have hjm' : (j : Int) < m := by omega
        have HST := Lib.hid hst
        have HSUM : Hid (a + b + c = c + a + b) := Lib.hid (by omega)
        clear ha hb hst
        go_wp2_with (at_builtin; refine wpList_app1 rfl _ _ 29 rfl w.heap.size 3 i0 (.int .i64 0) 8 Try.underlying29 hi hz0 hz1 hz2 rfl (.slice to j tc) j (ds.map (Value.int .i64)) (.int .i64 ((c + a + b) % 65536)) rfl HO.out rfl rfl (by omega) (by omega) hsz ?_)
        intro to2 tc2 w2 hown2 hgrow
        have hrow2 : OwnI w.heap.size w2 to2 (j + 1) tc2 (ds ++ [(c + a + b) % 65536]) := by
          unfold OwnI
          rw [List.map_append]
          exact hown2
        have hb2 : Below w.heap.size w w2 := Below.grown (HB.out.alloc hsz _) hgrow (by simp; omega) (by intro g hg; exact (World.ownsRow.lt HO.out g hg).1)
        have HR2 := Lib.hid hrow2
        have HB2 := Lib.hid hb2
        clear hown2 hgrow hrow2 hb2
        go_wp2_with fail
        go_roundw
        case rel =>
          refine ⟨j + 1, (c + a + b) / 65536, ds ++ [(c + a + b) % 65536], to2, tc2, by go_num, rfl, by omega, by omega, by omega, by omega, rfl, HR2.out, Dig_snoc hdig (by omega) (by omega), ?_, HB2.out⟩
          have := HST.out
          rwa [HSUM.out] at this
        case measure => simp [intOf]; omega
      · have hskip := hj
        obtain ⟨b1, o1, rfl, hca⟩ := (HX.out.below HB.out).cells.at (k := j) (by rw [HEX.out]; exact hjn)
        have hla := Dig_getD (by omega : (0 : Int) < 65536) lx j
        obtain ⟨a, ha⟩ : ∃ a, xs.getD j 0 = a := ⟨_, rfl⟩
        rw [ha] at hca hla hst
        obtain ⟨ha0, ha1⟩ := hla
        have hji : (j : Int) < n := by omega
        have hb := getD_ge (a := ys) (n := j) (by rw [HEY.out]; omega)
        rw [hb] at hst
        have hjm' : ¬ (j : Int) < m := by omega
        have HST := Lib.hid hst
        have HSUM : Hid (a + 0 + c = c + a) := Lib.hid (by omega)
        clear ha hb hst
        go_wp2_with (at_builtin; refine wpList_app1 rfl _ _ 29 rfl w.heap.size 3 i0 (.int .i64 0) 8 Try.underlying29 hi hz0 hz1 hz2 rfl (.slice to j tc) j (ds.map (Value.int .i64)) (.int .i64 ((c + a) % 65536)) rfl HO.out rfl rfl (by omega) (by omega) hsz ?_)
        intro to2 tc2 w2 hown2 hgrow
        have hrow2 : OwnI w.heap.size w2 to2 (j + 1) tc2 (ds ++ [(c + a) % 65536]) := by
          unfold OwnI
          rw [List.map_append]
          exact hown2
        have hb2 : Below w.heap.size w w2 := Below.grown (HB.out.alloc hsz _) hgrow (by simp; omega) (by intro g hg; exact (World.ownsRow.lt HO.out g hg).1)
        have HR2 := Lib.hid hrow2
        have HB2 := Lib.hid hb2
        clear hown2 hgrow hrow2 hb2
        go_wp2_with fail
        go_roundw
        case rel =>
          refine ⟨j + 1, (c + a) / 65536, ds ++ [(c + a) % 65536], to2, tc2, by go_num, rfl, by omega, by omega, by omega, by omega, rfl, HR2.out, Dig_snoc hdig (by omega) (by omega), ?_, HB2.out⟩
          have := HST.out
          rwa [HSUM.out] at this
        case measure => simp [intOf]; omega
    · by_cases hjm : j < m
      · have hskip := hj
        have ha := getD_ge (a := xs) (n := j) (by rw [HEX.out]; omega)
        rw [ha] at hst
        have hji : ¬ (j : Int) < n := by omega
        obtain ⟨b2, o2, rfl, hcb⟩ := (HY.out.below HB.out).cells.at (k := j) (by rw [HEY.out]; exact hjm)
        have hlb := Dig_getD (by omega : (0 : Int) < 65536) ly j
        obtain ⟨b, hb⟩ : ∃ b, ys.getD j 0 = b := ⟨_, rfl⟩
        rw [hb] at hcb hlb hst
        obtain ⟨hb0, hb1⟩ := hlb
        have hjm' : (j : Int) < m := by omega
        have HST := Lib.hid hst
        have HSUM : Hid (0 + b + c = c + b) := Lib.hid (by omega)
        clear ha hb hst
        go_wp2_with (at_builtin; refine wpList_app1 rfl _ _ 29 rfl w.heap.size 3 i0 (.int .i64 0) 8 Try.underlying29 hi hz0 hz1 hz2 rfl (.slice to j tc) j (ds.map (Value.int .i64)) (.int .i64 ((c + b) % 65536)) rfl HO.out rfl rfl (by omega) (by omega) hsz ?_)
        intro to2 tc2 w2 hown2 hgrow
        have hrow2 : OwnI w.heap.size w2 to2 (j + 1) tc2 (ds ++ [(c + b) % 65536]) := by
          unfold OwnI
          rw [List.map_append]
          exact hown2
        have hb2 : Below w.heap.size w w2 := Below.grown (HB.out.alloc hsz _) hgrow (by simp; omega) (by intro g hg; exact (World.ownsRow.lt HO.out g hg).1)
        have HR2 := Lib.hid hrow2
        have HB2 := Lib.hid hb2
        clear hown2 hgrow hrow2 hb2
        go_wp2_with fail
        go_roundw
        case rel =>
          refine ⟨j + 1, (c + b) / 65536, ds ++ [(c + b) % 65536], to2, tc2, by go_num, rfl, by omega, by omega, by omega, by omega, rfl, HR2.out, Dig_snoc hdig (by omega) (by omega), ?_, HB2.out⟩
          have := HST.out
          rwa [HSUM.out] at this
        case measure => simp [intOf]; omega
      · by_cases hcp : 0 < c
        · have hskip := hj
          have ha := getD_ge (a := xs) (n := j) (by rw [HEX.out]; omega)
          rw [ha] at hst
          have hji : ¬ (j : Int) < n := by omega
          have hb := getD_ge (a := ys) (n := j) (by rw [HEY.out]; omega)
          rw [hb] at hst
          have hjm' : ¬ (j : Int) < m := by omega
          have HST := Lib.hid hst
          have HSUM : Hid (0 + 0 + c = c) := Lib.hid (by omega)
          clear ha hb hst
          go_wp2_with (at_builtin; refine wpList_app1 rfl _ _ 29 rfl w.heap.size 3 i0 (.int .i64 0) 8 Try.underlying29 hi hz0 hz1 hz2 rfl (.slice to j tc) j (ds.map (Value.int .i64)) (.int .i64 ((c) % 65536)) rfl HO.out rfl rfl (by omega) (by omega) hsz ?_)
          intro to2 tc2 w2 hown2 hgrow
          have hrow2 : OwnI w.heap.size w2 to2 (j + 1) tc2 (ds ++ [(c) % 65536]) := by
            unfold OwnI
            rw [List.map_append]
            exact hown2
          have hb2 : Below w.heap.size w w2 := Below.grown (HB.out.alloc hsz _) hgrow (by simp; omega) (by intro g hg; exact (World.ownsRow.lt HO.out g hg).1)
          have HR2 := Lib.hid hrow2
          have HB2 := Lib.hid hb2
          clear hown2 hgrow hrow2 hb2
          go_wp2_with fail
          go_roundw
          case rel =>
            refine ⟨j + 1, (c) / 65536, ds ++ [(c) % 65536], to2, tc2, by go_num, rfl, by omega, by omega, by omega, by omega, rfl, HR2.out, Dig_snoc hdig (by omega) (by omega), ?_, HB2.out⟩
            have := HST.out
            rwa [HSUM.out] at this
          case measure => simp [intOf]; omega
        · obtain rfl : c = 0 := by omega
          have hji : ¬ (j : Int) < n := by omega
          have hjm' : ¬ (j : Int) < m := by omega
          have hv : dval 65536 ds = dval 65536 xs + dval 65536 ys := by
            have := HV.out
            rw [List.take_of_length_le (by rw [HEX.out]; omega), List.take_of_length_le (by rw [HEY.out]; omega)] at this
            omega
          have HVV := Lib.hid hv
          clear hv hst
          go_wp2_with fail
          go_ret
          exact ⟨to, j, tc, ds, rfl, HO.out, hdig, HVV.out, by omega, HB.out⟩
end Go.Proofs.Ytihfokdehcdgdaa
