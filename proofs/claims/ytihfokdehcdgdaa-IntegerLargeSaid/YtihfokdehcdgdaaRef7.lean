/- The reference's minus. -/
import Derived.Test.YtihfokdehcdgdaaRef6
namespace Go.Proofs.Ytihfokdehcdgdaa
open Go.RowKit
set_option autoImplicit false
set_option linter.unusedVariables false

theorem minus_step {ds a b : List Int} {j : Nat} {c s c2 : Int} (hl : ds.length = j) (h : dval 65536 ds - 65536 ^ j * c = dval 65536 (a.take j) - dval 65536 (b.take j)) (hs : s - 65536 * c2 = a.getD j 0 - c - b.getD j 0) :
    dval 65536 (ds ++ [s]) - 65536 ^ (j + 1) * c2 = dval 65536 (a.take (j + 1)) - dval 65536 (b.take (j + 1)) := by
  rw [dval_snoc, dval_take_succ, dval_take_succ, hl, Int.pow_succ]
  have : s = a.getD j 0 - c - b.getD j 0 + 65536 * c2 := by omega
  grind

theorem rtrim_own {B : Nat} (w : World) (ao : Option Addr) (n cap : Nat) (ds : List Int) (h : OwnI B w ao n cap ds) :
    Calls Try.prog 114 #[.slice ao n cap] w fun e w' => e = .returned (.slice ao (tl ds n) cap) ∧ w = w' :=
  rtrim_any w ao n cap ds h.sl.len h.sl.le h.sl.most h.sl.cells

theorem OwnI.trimmed {B : Nat} {w : World} {ao : Option Addr} {n cap : Nat} {zs : List Int} (h : OwnI B w ao n cap zs) (k : Nat) (hk : k ≤ n) : OwnI B w ao k cap (zs.take k) := by
  have hl := h.sl.len
  refine ⟨by rw [List.length_map, List.length_take]; omega, ?_⟩
  rcases h.2 with ⟨hv, h0⟩ | ⟨g, c, cur, hv, hbg, hg, hnc, hcm, hcs, htk⟩
  · left
    simp at hv
    obtain ⟨rfl, rfl, rfl⟩ := hv
    exact ⟨by simp; omega, by omega⟩
  · right
    simp at hv
    obtain ⟨rfl, rfl⟩ := hv
    refine ⟨g, cap, cur, rfl, hbg, hg, by omega, hcm, hcs, ?_⟩
    rw [List.map_take, ← htk, List.take_take]
    congr 1
    omega

set_option maxRecDepth 100000 in
theorem rminus_any (w : World) (ao bo : Option Addr) (n m capa capb : Nat) (xs ys : List Int) (hx : SlI w ao n capa xs) (hy : SlI w bo m capb ys) (lx : Dig 65536 xs) (ly : Dig 65536 ys) (hn : n ≤ 4294967296) (hmn : m ≤ n) (hle : dval 65536 ys ≤ dval 65536 xs) :
    Calls Try.prog 90 #[.slice ao n capa, .slice bo m capb] w (RetDigs w (dval 65536 xs - dval 65536 ys) n) := by
  obtain ⟨i0, hi, hz0, hz1, hz2⟩ := info_parts info_int
  have HEX : Hid (xs.length = n) := hx.len
  have HEY : Hid (ys.length = m) := hy.len
  have HX := Lib.hid hx
  have HY := Lib.hid hy
  have hmosta : n ≤ capa ∧ capa ≤ 9223372036854775807 := ⟨hx.le, by have := hx.most; unfold maxLen at this; omega⟩
  have hmostb : m ≤ capb ∧ capb ≤ 9223372036854775807 := ⟨hy.le, by have := hy.most; unfold maxLen at this; omega⟩
  clear hx hy
  go_enter Try.func90, Try.ntmps90
  go_wp2_with fail
  go_loopw [5, 6, 7] (fun d cc i wr => ∃ (j : Nat) (c : Int) (ds : List Int), ∃ to tc, i = .int .i64 j ∧ cc = .int .i64 c ∧ 0 ≤ c ∧ c ≤ 1 ∧ j ≤ n ∧ d = .slice to j tc ∧ OwnI w.heap.size wr to j tc ds ∧ Dig 65536 ds ∧
      dval 65536 ds - 65536 ^ j * c = dval 65536 (xs.take j) - dval 65536 (ys.take j) ∧ Below w.heap.size w wr) (fun _ _ i _ => n - (intOf i).toNat)
  case atStart => exact ⟨0, 0, [], none, 0, rfl, rfl, by omega, by omega, by omega, rfl, World.ownsRow_nil _ _ _ _, Dig_nil _, by simp [dval], Below.refl _ _⟩
  case round =>
    obtain ⟨j, c, ds, to, tc, rfl, rfl, hc0, hc1, hj, rfl, hown, hdig, hval, hbel⟩ := hrel
    have HO := Lib.hid hown
    have HV := Lib.hid hval
    have HB := Lib.hid hbel
    have hsz := hbel.size
    clear hown hval hbel
    by_cases hjn : j < n
    · obtain ⟨b1, o1, rfl, hca⟩ := (HX.out.below HB.out).cells.at (k := j) (by rw [HEX.out]; exact hjn)
      have hla := Dig_getD (by omega : (0 : Int) < 65536) lx j
      have hlb := Dig_getD (by omega : (0 : Int) < 65536) ly j
      obtain ⟨a, ha⟩ : ∃ a, xs.getD j 0 = a := ⟨_, rfl⟩
      obtain ⟨b, hb⟩ : ∃ b, ys.getD j 0 = b := ⟨_, rfl⟩
      rw [ha] at hca hla
      rw [hb] at hlb
      have HA := Lib.hid ha
      obtain ⟨ha0, ha1⟩ := hla
      obtain ⟨hb0, hb1⟩ := hlb
      have hji : (j : Int) < n := by omega
      have HSTEP : Hid (∀ s c2, s - 65536 * c2 = a - c - b → dval 65536 (ds ++ [s]) - 65536 ^ (j + 1) * c2 = dval 65536 (xs.take (j + 1)) - dval 65536 (ys.take (j + 1))) :=
        Lib.hid (fun s c2 h => minus_step HO.out.sl.len HV.out (by rw [ha, hb]; exact h))
      clear ha
      by_cases hjm : j < m
      · have HSK := Lib.hid hb
        obtain ⟨b2, o2, rfl, hcb⟩ := (HY.out.below HB.out).cells.at (k := j) (by rw [HEY.out]; exact hjm)
        rw [hb] at hcb
        clear hb
        have hjm' : (j : Int) < m := by omega
        by_cases hneg : a - c - b < 0
        · have hneg' := hneg
          go_wp2_with (at_builtin; refine wpList_app1 rfl _ _ 29 rfl w.heap.size 3 i0 (.int .i64 0) 8 Try.underlying29 hi hz0 hz1 hz2 rfl (.slice to j tc) j (ds.map (Value.int .i64)) (.int .i64 (a - c - b + 65536)) rfl HO.out rfl rfl (by omega) (by omega) hsz ?_)
          intro to2 tc2 w2 hown2 hgrow
          have hrow2 : OwnI w.heap.size w2 to2 (j + 1) tc2 (ds ++ [a - c - b + 65536]) := by
            unfold OwnI
            rw [List.map_append]
            exact hown2
          have hb2 : Below w.heap.size w w2 := Below.grown (HB.out.alloc hsz _) hgrow (by simp; omega) (by intro g hg; exact (World.ownsRow.lt HO.out g hg).1)
          have HR2 := Lib.hid hrow2
          have HB2 := Lib.hid hb2
          clear hown2 hgrow hrow2 hb2
          go_wp2_with fail
          go_roundw
          case rel => exact ⟨j + 1, 1, ds ++ [a - c - b + 65536], to2, tc2, by go_num, rfl, by omega, by omega, by omega, rfl, HR2.out, Dig_snoc hdig (by omega) (by omega), HSTEP.out _ _ (by omega), HB2.out⟩
          case measure => simp [intOf]; omega
        · have hneg' := hneg
          go_wp2_with (at_builtin; refine wpList_app1 rfl _ _ 29 rfl w.heap.size 3 i0 (.int .i64 0) 8 Try.underlying29 hi hz0 hz1 hz2 rfl (.slice to j tc) j (ds.map (Value.int .i64)) (.int .i64 (a - c - b)) rfl HO.out rfl rfl (by omega) (by omega) hsz ?_)
          intro to2 tc2 w2 hown2 hgrow
          have hrow2 : OwnI w.heap.size w2 to2 (j + 1) tc2 (ds ++ [a - c - b]) := by
            unfold OwnI
            rw [List.map_append]
            exact hown2
          have hb2 : Below w.heap.size w w2 := Below.grown (HB.out.alloc hsz _) hgrow (by simp; omega) (by intro g hg; exact (World.ownsRow.lt HO.out g hg).1)
          have HR2 := Lib.hid hrow2
          have HB2 := Lib.hid hb2
          clear hown2 hgrow hrow2 hb2
          go_wp2_with fail
          go_roundw
          case rel => exact ⟨j + 1, 0, ds ++ [a - c - b], to2, tc2, by go_num, rfl, by omega, by omega, by omega, rfl, HR2.out, Dig_snoc hdig (by omega) (by omega), HSTEP.out _ _ (by omega), HB2.out⟩
          case measure => simp [intOf]; omega
      · have hb9 := getD_ge (a := ys) (n := j) (by rw [HEY.out]; omega)
        obtain rfl : b = 0 := by rw [← hb]; exact hb9
        clear hb hb9
        have hjm' : ¬ (j : Int) < m := by omega
        have hsk := hj
        by_cases hneg : a - c < 0
        · have hneg' := hneg
          go_wp2_with (at_builtin; refine wpList_app1 rfl _ _ 29 rfl w.heap.size 3 i0 (.int .i64 0) 8 Try.underlying29 hi hz0 hz1 hz2 rfl (.slice to j tc) j (ds.map (Value.int .i64)) (.int .i64 (a - c + 65536)) rfl HO.out rfl rfl (by omega) (by omega) hsz ?_)
          intro to2 tc2 w2 hown2 hgrow
          have hrow2 : OwnI w.heap.size w2 to2 (j + 1) tc2 (ds ++ [a - c + 65536]) := by
            unfold OwnI
            rw [List.map_append]
            exact hown2
          have hb2 : Below w.heap.size w w2 := Below.grown (HB.out.alloc hsz _) hgrow (by simp; omega) (by intro g hg; exact (World.ownsRow.lt HO.out g hg).1)
          have HR2 := Lib.hid hrow2
          have HB2 := Lib.hid hb2
          clear hown2 hgrow hrow2 hb2
          go_wp2_with fail
          go_roundw
          case rel => exact ⟨j + 1, 1, ds ++ [a - c + 65536], to2, tc2, by go_num, rfl, by omega, by omega, by omega, rfl, HR2.out, Dig_snoc hdig (by omega) (by omega), HSTEP.out _ _ (by omega), HB2.out⟩
          case measure => simp [intOf]; omega
        · have hneg' := hneg
          go_wp2_with (at_builtin; refine wpList_app1 rfl _ _ 29 rfl w.heap.size 3 i0 (.int .i64 0) 8 Try.underlying29 hi hz0 hz1 hz2 rfl (.slice to j tc) j (ds.map (Value.int .i64)) (.int .i64 (a - c)) rfl HO.out rfl rfl (by omega) (by omega) hsz ?_)
          intro to2 tc2 w2 hown2 hgrow
          have hrow2 : OwnI w.heap.size w2 to2 (j + 1) tc2 (ds ++ [a - c]) := by
            unfold OwnI
            rw [List.map_append]
            exact hown2
          have hb2 : Below w.heap.size w w2 := Below.grown (HB.out.alloc hsz _) hgrow (by simp; omega) (by intro g hg; exact (World.ownsRow.lt HO.out g hg).1)
          have HR2 := Lib.hid hrow2
          have HB2 := Lib.hid hb2
          clear hown2 hgrow hrow2 hb2
          go_wp2_with fail
          go_roundw
          case rel => exact ⟨j + 1, 0, ds ++ [a - c], to2, tc2, by go_num, rfl, by omega, by omega, by omega, rfl, HR2.out, Dig_snoc hdig (by omega) (by omega), HSTEP.out _ _ (by omega), HB2.out⟩
          case measure => simp [intOf]; omega
    · obtain rfl : j = n := by omega
      have hji : ¬ (j : Int) < j := by omega
      have hd0 := dval_nonneg (r := 65536) (by omega) hdig
      have hdl := dval_lt (r := 65536) (by omega) hdig
      have hlen := HO.out.sl.len
      have hv := HV.out
      rw [List.take_of_length_le (by rw [HEX.out]; omega), List.take_of_length_le (by rw [HEY.out]; omega)] at hv
      rw [hlen] at hdl
      have hc00 : c = 0 := by
        rcases (show c = 0 ∨ c = 1 by omega) with h | h
        · exact h
        · rw [h] at hv; omega
      rw [hc00] at hv
      have hv2 : dval 65536 ds = dval 65536 xs - dval 65536 ys := by omega
      have HVV := Lib.hid hv2
      clear hv hv2 hdl hd0 hlen
      go_wp2_with fail
      refine (rtrim_own wr to j tc ds HO.out).mono ?_
      rintro e w2 ⟨rfl, rfl⟩
      go_wp2_with fail
      go_ret
      have hle := tl_le ds j
      refine ⟨to, tl ds j, tc, ds.take (tl ds j), rfl, HO.out.trimmed _ hle, Dig_take hdig _, ?_, hle, HB.out⟩
      rw [tl_dval, List.take_of_length_le (by rw [HO.out.sl.len]; omega), HVV.out]
end Go.Proofs.Ytihfokdehcdgdaa
