/- RationalPowers: the walk. -/
import Derived.Test.YtdfepdhflnnjpaaGreatQR4
import Derived.Test.YtdfepdhflnnjpaaGreatQ18
import Derived.Test.YtdfepdhflnnjpaaGreatOpenQ
namespace Go.Proofs.YtdfepdhflnnjpaaGreat
open Go.RowKit
set_option autoImplicit false
set_option linter.unusedVariables false

theorem max_three (ts : Array TypeId) (t : TypeId) (w : World) : Sem.run Tryz.prog (Builtin.max_ ts t #[.int .i64 0, .int .i64 0, .int .i64 0]) w = .ok (.int .i64 0) w := by
  simp [Builtin.max_, Builtin.max2]

theorem cmp_zero {x : Int} (h : cmpI x 0 = 0) : x = 0 := by
  unfold cmpI at h
  by_cases h1 : x < 0
  · rw [if_pos h1] at h; omega
  · rw [if_neg h1] at h
    by_cases h2 : 0 < x
    · rw [if_pos h2] at h; omega
    · omega

theorem rem_six (m : Int) (h1 : -128 ≤ m) (h2 : m ≤ 127) : -5 ≤ wrap64 (m.tmod 6) ∧ wrap64 (m.tmod 6) ≤ 5 := by
  have h : -5 ≤ m.tmod 6 ∧ m.tmod 6 ≤ 5 := by
    by_cases h0 : 0 ≤ m
    · rw [Int.tmod_eq_emod_of_nonneg h0]; omega
    · obtain ⟨k, rfl⟩ : ∃ k, m = -k := ⟨-m, by omega⟩
      rw [Int.neg_tmod, Int.tmod_eq_emod_of_nonneg (by omega)]; omega
  unfold wrap64
  omega

set_option maxRecDepth 100000 in
set_option maxHeartbeats 4000000 in
theorem rpowers_long (w : World) (n0 : Bool) (na : Option Addr) (nl nc : Nat) (nz : List Int) (d0 : Bool) (da : Option Addr) (dl dc : Nat) (dz : List Int) (m n : Int) (hl : ¬ (nl ≤ 3 ∧ dl ≤ 3)) :
    Calls Tryz.prog 10 #[.agg #[.bool n0, .slice na nl nc, .bool d0, .slice da dl dc], .int .i8 m, .int .i8 n] w (RetV w (.bool true)) := by
  have HS1 : Hid (decide (nl ≤ 3 ∧ dl ≤ 3) = false) := Lib.hid (decide_eq_false hl)
  clear hl
  go_enter Tryz.func10, Tryz.ntmps10
  go_upto_region 1 with (fail)
  obtain ⟨w1, hw1⟩ : ∃ x, x = w.alloc (.cells #[.bool n0, .slice na nl nc, .bool d0, .slice da dl dc] 26) := ⟨_, rfl⟩
  have hbw : Below w.heap.size w w1 := by rw [hw1]; go_grown
  have r0 : w1.heap[w.heap.size]? = some (.cells #[.bool n0, .slice na nl nc, .bool d0, .slice da dl dc] 26 (0, 0)) := by rw [hw1]; exact heap_alloc_new w _
  rw [← hw1]
  clear hw1
  obtain ⟨P, hP⟩ : ∃ P, P = w.heap.size := ⟨_, rfl⟩
  rw [← hP] at r0 ⊢
  have R0 := Lib.hid r0
  have HW := Lib.hid hbw
  clear r0 hbw hP
  obtain ⟨x0, x1, x2, x3⟩ := blk4 R0.out
  go_wp2_with fail
  refine (qshort_one _ w1.heap.size ⟨n0, na, nl, nc⟩ ⟨d0, da, dl, dc⟩ 3 (heap_alloc_new _ _)).mono ?_
  rintro e w2 ⟨rfl, b⟩
  rw [show decide (Num.n ⟨n0, na, nl, nc⟩ ≤ 3 ∧ Num.n ⟨d0, da, dl, dc⟩ ≤ 3) = false from HS1.out]
  have ub : Below w1.heap.size w1 w2 := Below.trans (by go_grown) (b.mono (by go_size))
  replace R0 := Lib.hid ((ub.block _ (Array.getElem?_eq_some_iff.1 R0.out).1).trans R0.out)
  replace HW := Lib.hid (HW.out.trans (ub.mono HW.out.size))
  clear b ub x0 x1 x2 x3 HS1
  go_wp2_with fail
  refine (awake_q _).mono ?_
  rintro e w99 ⟨rfl, u⟩
  replace HW := Lib.hid (HW.out.trans (u.mono HW.out.size))
  clear u
  go_wp2_with fail
  go_ret
  exact ⟨rfl, HW.out⟩



set_option maxRecDepth 100000 in
set_option maxHeartbeats 4000000 in
theorem rpowers_short (w : World) (n0 : Bool) (na : Option Addr) (nl nc : Nat) (nz : List Int) (d0 : Bool) (da : Option Addr) (dl dc : Nat) (dz : List Int) (m n : Int) (hx : Sl w na nl nc nz) (lx : Lim nz) (hy : Sl w da dl dc dz) (ly : Lim dz) (h1 : nl ≤ 3) (h2 : dl ≤ 3) (hm1 : -128 ≤ m) (hm2 : m ≤ 127) (hn1 : -128 ≤ n) (hn2 : n ≤ 127) :
    Calls Tryz.prog 10 #[.agg #[.bool n0, .slice na nl nc, .bool d0, .slice da dl dc], .int .i8 m, .int .i8 n] w (RetV w (.bool true)) := by
  have HS1 : Hid (decide (nl ≤ 3 ∧ dl ≤ 3) = true) := Lib.hid (decide_eq_true ⟨h1, h2⟩)
  have SN : Hid (∀ w1, Below w.heap.size w w1 → Sl w1 na nl nc nz) := Lib.hid (fun w1 hb => hx.below hb)
  have SD : Hid (∀ w1, Below w.heap.size w w1 → Sl w1 da dl dc dz) := Lib.hid (fun w1 hb => hy.below hb)
  have LN := Lib.hid lx
  have LD := Lib.hid ly
  clear hx lx hy ly
  go_enter Tryz.func10, Tryz.ntmps10
  go_upto_region 1 with (fail)
  obtain ⟨w1, hw1⟩ : ∃ x, x = w.alloc (.cells #[.bool n0, .slice na nl nc, .bool d0, .slice da dl dc] 26) := ⟨_, rfl⟩
  have hbw : Below w.heap.size w w1 := by rw [hw1]; go_grown
  have r0 : w1.heap[w.heap.size]? = some (.cells #[.bool n0, .slice na nl nc, .bool d0, .slice da dl dc] 26 (0, 0)) := by rw [hw1]; exact heap_alloc_new w _
  rw [← hw1]
  clear hw1
  obtain ⟨P, hP⟩ : ∃ P, P = w.heap.size := ⟨_, rfl⟩
  rw [← hP] at r0 ⊢
  have R0 := Lib.hid r0
  have HW := Lib.hid hbw
  clear r0 hbw hP
  obtain ⟨x0, x1, x2, x3⟩ := blk4 R0.out
  go_wp2_with fail
  refine (qshort_one _ w1.heap.size ⟨n0, na, nl, nc⟩ ⟨d0, da, dl, dc⟩ 3 (heap_alloc_new _ _)).mono ?_
  rintro e w2 ⟨rfl, b⟩
  rw [show decide (Num.n ⟨n0, na, nl, nc⟩ ≤ 3 ∧ Num.n ⟨d0, da, dl, dc⟩ ≤ 3) = true from HS1.out]
  have ub : Below w1.heap.size w1 w2 := Below.trans (by go_grown) (b.mono (by go_size))
  replace R0 := Lib.hid ((ub.block _ (Array.getElem?_eq_some_iff.1 R0.out).1).trans R0.out)
  replace HW := Lib.hid (HW.out.trans (ub.mono HW.out.size))
  clear b ub x0 x1 x2 x3 HS1
  obtain ⟨x0, x1, x2, x3⟩ := blk4 R0.out
  go_wp2_with fail
  refine (of_one _ w2.heap.size n0 na nl nc nz d0 da dl dc dz (heap_alloc_new _ _) (SN.out _ (HW.out.trans (Below.mono (by go_grown) HW.out.size))) (SD.out _ (HW.out.trans (Below.mono (by go_grown) HW.out.size))) LN.out LD.out 3 h1 h2 (by omega)).mono ?_
  rintro e w3 ⟨g, cap, tn, ta, t, tc, zt, bn, ba, b, bc, zb, N, x, D, rfl, c0, c1, c2, c3, hg, hr, ht, hbb, b9⟩
  have ub : Below w2.heap.size w2 w3 := Below.trans (by go_grown) (b9.mono (by go_size))
  have HX := Lib.hid hr
  replace HW := Lib.hid (HW.out.trans (ub.mono HW.out.size))
  clear b9 ub x0 x1 x2 x3 hr R0 SN SD LN LD
  go_upto_region 4 with (fail)
  clear c0 c1 c2 c3 hg
  obtain ⟨w4, hv⟩ : ∃ x, x = w3.alloc (.cells #[.bool tn, .slice ta t tc, .bool bn, .slice ba b bc] 38) := ⟨_, rfl⟩
  have ub : Below w3.heap.size w3 w4 := by rw [hv]; go_grown
  have r : w4.heap[w3.heap.size]? = some (.cells #[.bool tn, .slice ta t tc, .bool bn, .slice ba b bc] 38 (0, 0)) := by rw [hv]; exact heap_alloc_new w3 _
  rw [← hv]
  clear hv
  replace HX := Lib.hid (HX.out.below ub)
  replace HW := Lib.hid (HW.out.trans (ub.mono HW.out.size))
  obtain ⟨X, hB⟩ : ∃ x, x = w3.heap.size := ⟨_, rfl⟩
  rw [← hB] at r ⊢
  have RX := Lib.hid r
  clear ub r hB
  have HD0 : Hid (0 < D) := Lib.hid HX.out.low.1
  have HE1 : Hid (qn (N * N) (D * D) = N * N) := Lib.hid (qn_low (low_sq HX.out.low))
  have HE2 : Hid (qd (N * N) (D * D) = D * D) := Lib.hid (qd_low (low_sq HX.out.low))
  obtain ⟨x0, x1, x2, x3⟩ := blk4 RX.out
  go_wp2_with fail
  refine (mulq_any w4 _ _ _ _ _ _ _ _ _ _ N x D _ _ _ _ _ _ _ _ _ _ N x D HX.out HX.out 10 (by omega) (by omega) (by omega) (by omega) (by omega)).mono ?_
  rintro e w5 ⟨stn, sta, st, stc, szt, sbn, sba, sb, sbc, szb, s, rfl, iq, gst, gsb, ub⟩
  rw [HE1.out, HE2.out] at iq
  have IS := Lib.hid iq
  replace HX := Lib.hid (HX.out.below ub)
  replace RX := Lib.hid ((ub.block _ (Array.getElem?_eq_some_iff.1 RX.out).1).trans RX.out)
  replace HW := Lib.hid (HW.out.trans (ub.mono HW.out.size))
  clear ub iq x0 x1 x2 x3 HE1 HE2
  go_wp2_with fail
  refine (root_sqq w5 _ _ _ _ _ _ _ _ _ _ N s D IS.out HD0.out (by omega) (by omega)).mono ?_
  rintro e w6 ⟨ytn, yta, yt, ytc, yzt, ybn, yba, yb, ybc, yzb, y, rfl, iy, gyt, gyb, ub⟩
  have HY := Lib.hid iy
  replace HX := Lib.hid (HX.out.below ub)
  replace RX := Lib.hid ((ub.block _ (Array.getElem?_eq_some_iff.1 RX.out).1).trans RX.out)
  replace HW := Lib.hid (HW.out.trans (ub.mono HW.out.size))
  clear ub iy IS
  go_upto_region 5 with (fail)
  obtain ⟨w7, hv⟩ : ∃ x, x = w6.alloc (.cells #[.bool ytn, .slice yta yt ytc, .bool ybn, .slice yba yb ybc] 38) := ⟨_, rfl⟩
  have ub : Below w6.heap.size w6 w7 := by rw [hv]; go_grown
  have r : w7.heap[w6.heap.size]? = some (.cells #[.bool ytn, .slice yta yt ytc, .bool ybn, .slice yba yb ybc] 38 (0, 0)) := by rw [hv]; exact heap_alloc_new w6 _
  rw [← hv]
  clear hv
  replace HX := Lib.hid (HX.out.below ub)
  replace HY := Lib.hid (HY.out.below ub)
  replace RX := Lib.hid ((ub.block _ (Array.getElem?_eq_some_iff.1 RX.out).1).trans RX.out)
  replace HW := Lib.hid (HW.out.trans (ub.mono HW.out.size))
  obtain ⟨Y, hB⟩ : ∃ x, x = w6.heap.size := ⟨_, rfl⟩
  rw [← hB] at r ⊢
  have RY := Lib.hid r
  clear ub r hB
  have HKA : Hid (∀ w', Below w7.heap.size w7 w' → w'.cell? ⟨X, 0, none⟩ = some (.bool tn) ∧ w'.cell? ⟨X, 1, none⟩ = some (.slice ta t tc) ∧ w'.cell? ⟨X, 2, none⟩ = some (.bool bn) ∧ w'.cell? ⟨X, 3, none⟩ = some (.slice ba b bc) ∧ w'.cell? ⟨Y, 0, none⟩ = some (.bool ytn) ∧ w'.cell? ⟨Y, 1, none⟩ = some (.slice yta yt ytc) ∧ w'.cell? ⟨Y, 2, none⟩ = some (.bool ybn) ∧ w'.cell? ⟨Y, 3, none⟩ = some (.slice yba yb ybc)) := Lib.hid (fun w' hb => by
    obtain ⟨c00, c01, c02, c03⟩ := blk4 RX.out
    have l0 := (Array.getElem?_eq_some_iff.1 RX.out).1
    obtain ⟨c10, c11, c12, c13⟩ := blk4 RY.out
    have l1 := (Array.getElem?_eq_some_iff.1 RY.out).1
    exact ⟨(hb.cell (p := ⟨X, 0, none⟩) l0).trans c00, (hb.cell (p := ⟨X, 1, none⟩) l0).trans c01, (hb.cell (p := ⟨X, 2, none⟩) l0).trans c02, (hb.cell (p := ⟨X, 3, none⟩) l0).trans c03, (hb.cell (p := ⟨Y, 0, none⟩) l1).trans c10, (hb.cell (p := ⟨Y, 1, none⟩) l1).trans c11, (hb.cell (p := ⟨Y, 2, none⟩) l1).trans c12, (hb.cell (p := ⟨Y, 3, none⟩) l1).trans c13⟩)
  go_wp2_with fail
  go_region_held3 (fun w' => w'.cell? ⟨X, 0, none⟩ = some (.bool tn) ∧ w'.cell? ⟨X, 1, none⟩ = some (.slice ta t tc) ∧ w'.cell? ⟨X, 2, none⟩ = some (.bool bn) ∧ w'.cell? ⟨X, 3, none⟩ = some (.slice ba b bc) ∧ w'.cell? ⟨Y, 0, none⟩ = some (.bool ytn) ∧ w'.cell? ⟨Y, 1, none⟩ = some (.slice yta yt ytc) ∧ w'.cell? ⟨Y, 2, none⟩ = some (.bool ybn) ∧ w'.cell? ⟨Y, 3, none⟩ = some (.slice yba yb ybc)) ((first | exact HKA.out _ Xa2 | exact HKA.out _ Xa1 | exact HKA.out _ Xa2.drew | exact HKA.out _ Xa1.drew | exact HKA.out _ (Below.refl _ _).drew))
    (first | (go_at_call 61; have Ta2 := Xa1; clear Ta2; refine (same_q _ _ _ _ _ _ _ _ _ _ _ (N.natAbs : Int) y D _ _ _ _ _ _ _ _ _ _ (N.natAbs : Int) rx D (HY.out.below Xa1) IQ.out (by omega) (by omega) (by omega) (by omega) rfl).mono ?_; rintro e va2 ⟨rfl, ua2⟩; have Xa2 : Below w7.heap.size w7 va2 := Xa1.trans (ua2.mono Xa1.size)) | (go_at_call 38; refine (absq_any _ _ _ _ _ _ _ _ _ _ _ N x D (HX.out.below (Below.refl _ _).drew) (by omega)).mono ?_; rintro e va1 ⟨rtn, rta, rt, rtc, rzt, rbn, rba, rb, rbc, rzb, rx, rfl, iq, grt, grb, ua1⟩; have Xa1 : Below w7.heap.size w7 va1 := (Below.refl _ _).drew.trans ua1; have IQ := Lib.hid iq; clear iq))
  replace HX := Lib.hid (HX.out.below Xa2)
  replace RX := Lib.hid ((Xa2.block _ (Array.getElem?_eq_some_iff.1 RX.out).1).trans RX.out)
  replace HW := Lib.hid (HW.out.trans (Xa2.mono HW.out.size))
  clear HKA IQ HY RY Xa1
  clear Xa2
  obtain ⟨x0, x1, x2, x3⟩ := blk4 RX.out
  obtain ⟨sg, hsg⟩ : ∃ v, cmpI N 0 = v := ⟨_, rfl⟩
  have HSG := Lib.hid hsg
  clear hsg
  go_wp2_with fail
  refine (signq_any _ _ _ _ _ _ _ _ _ _ _ N x D HX.out).mono ?_
  rintro e w8 ⟨rfl, ub⟩
  rw [HSG.out]
  replace HX := Lib.hid (HX.out.below ub)
  replace RX := Lib.hid ((ub.block _ (Array.getElem?_eq_some_iff.1 RX.out).1).trans RX.out)
  replace HW := Lib.hid (HW.out.trans (ub.mono HW.out.size))
  clear ub x0 x1 x2 x3
  by_cases hN0 : N = 0
  · have hs0 : sg = 0 := by rw [← HSG.out]; exact cmpI_eq hN0
    subst hs0
    clear hN0 HD0
    go_wp2_with fail
    refine (awake_q _).mono ?_
    rintro e w99 ⟨rfl, u⟩
    replace HW := Lib.hid (HW.out.trans (u.mono HW.out.size))
    clear u
    go_wp2_with fail
    go_ret
    exact ⟨rfl, HW.out⟩
  · have hs0 : ¬ sg = 0 := by rw [← HSG.out]; intro h; exact hN0 (cmp_zero h)
    have HN0 := Lib.hid hN0
    clear hN0 HSG
    obtain ⟨x0, x1, x2, x3⟩ := blk4 RX.out
    go_upto_region 10 with (fail)
    obtain ⟨hi1, hi2⟩ := rem_six m hm1 hm2
    obtain ⟨hk1, hk2⟩ := rem_six n hn1 hn2
    obtain ⟨i, hi⟩ : ∃ i, wrap64 (m.tmod 6) = i := ⟨_, rfl⟩
    obtain ⟨k, hk⟩ : ∃ k, wrap64 (n.tmod 6) = k := ⟨_, rfl⟩
    rw [hi] at hi1 hi2 ⊢
    rw [hk] at hk1 hk2 ⊢
    clear hi hk hs0
    go_wp2_with fail
    refine (powq_int w8 _ _ _ _ _ _ _ _ _ _ N x D HX.out HN0.out i (by omega) (by omega) (by omega) (by omega)).mono ?_
    rintro e w9 ⟨ptn, pta, pt, ptc, pzt, pbn, pba, pb, pbc, pzb, px, rfl, iq, gpt, gpb, ub⟩
    have HP1 := Lib.hid iq
    replace HX := Lib.hid (HX.out.below ub)
    replace RX := Lib.hid ((ub.block _ (Array.getElem?_eq_some_iff.1 RX.out).1).trans RX.out)
    replace HW := Lib.hid (HW.out.trans (ub.mono HW.out.size))
    clear ub iq x0 x1 x2 x3
    go_upto_region 11 with (fail)
    obtain ⟨w10, hv⟩ : ∃ x, x = w9.alloc (.cells #[.bool ptn, .slice pta pt ptc, .bool pbn, .slice pba pb pbc] 38) := ⟨_, rfl⟩
    have ub : Below w9.heap.size w9 w10 := by rw [hv]; go_grown
    have r : w10.heap[w9.heap.size]? = some (.cells #[.bool ptn, .slice pta pt ptc, .bool pbn, .slice pba pb pbc] 38 (0, 0)) := by rw [hv]; exact heap_alloc_new w9 _
    rw [← hv]
    clear hv
    replace HX := Lib.hid (HX.out.below ub)
    replace HP1 := Lib.hid (HP1.out.below ub)
    replace RX := Lib.hid ((ub.block _ (Array.getElem?_eq_some_iff.1 RX.out).1).trans RX.out)
    replace HW := Lib.hid (HW.out.trans (ub.mono HW.out.size))
    obtain ⟨A, hB⟩ : ∃ x, x = w9.heap.size := ⟨_, rfl⟩
    rw [← hB] at r ⊢
    have RP1 := Lib.hid r
    clear ub r hB
    obtain ⟨x0, x1, x2, x3⟩ := blk4 RX.out
    go_wp2_with fail
    refine (powq_int w10 _ _ _ _ _ _ _ _ _ _ N x D HX.out HN0.out k (by omega) (by omega) (by omega) (by omega)).mono ?_
    rintro e w11 ⟨qtn, qta, qt, qtc, qzt, qbn, qba, qb, qbc, qzb, qx, rfl, iq, gqt, gqb, ub⟩
    have HQ1 := Lib.hid iq
    replace HX := Lib.hid (HX.out.below ub)
    replace HP1 := Lib.hid (HP1.out.below ub)
    replace RX := Lib.hid ((ub.block _ (Array.getElem?_eq_some_iff.1 RX.out).1).trans RX.out)
    replace RP1 := Lib.hid ((ub.block _ (Array.getElem?_eq_some_iff.1 RP1.out).1).trans RP1.out)
    replace HW := Lib.hid (HW.out.trans (ub.mono HW.out.size))
    clear ub iq x0 x1 x2 x3
    go_upto_region 12 with (fail)
    obtain ⟨w12, hv⟩ : ∃ x, x = w11.alloc (.cells #[.bool qtn, .slice qta qt qtc, .bool qbn, .slice qba qb qbc] 38) := ⟨_, rfl⟩
    have ub : Below w11.heap.size w11 w12 := by rw [hv]; go_grown
    have r : w12.heap[w11.heap.size]? = some (.cells #[.bool qtn, .slice qta qt qtc, .bool qbn, .slice qba qb qbc] 38 (0, 0)) := by rw [hv]; exact heap_alloc_new w11 _
    rw [← hv]
    clear hv
    replace HX := Lib.hid (HX.out.below ub)
    replace HP1 := Lib.hid (HP1.out.below ub)
    replace HQ1 := Lib.hid (HQ1.out.below ub)
    replace RX := Lib.hid ((ub.block _ (Array.getElem?_eq_some_iff.1 RX.out).1).trans RX.out)
    replace RP1 := Lib.hid ((ub.block _ (Array.getElem?_eq_some_iff.1 RP1.out).1).trans RP1.out)
    replace HW := Lib.hid (HW.out.trans (ub.mono HW.out.size))
    obtain ⟨B, hB⟩ : ∃ x, x = w11.heap.size := ⟨_, rfl⟩
    rw [← hB] at r ⊢
    have RQ1 := Lib.hid r
    clear ub r hB
    obtain ⟨x0, x1, x2, x3⟩ := blk4 RX.out
    go_wp2_with fail
    refine (powq_int w12 _ _ _ _ _ _ _ _ _ _ N x D HX.out HN0.out (i + k) (by omega) (by omega) (by omega) (by omega)).mono ?_
    rintro e w13 ⟨rtn, rta, rt, rtc, rzt, rbn, rba, rb, rbc, rzb, rx, rfl, iq, grt, grb, ub⟩
    have HR1 := Lib.hid iq
    replace HX := Lib.hid (HX.out.below ub)
    replace HP1 := Lib.hid (HP1.out.below ub)
    replace HQ1 := Lib.hid (HQ1.out.below ub)
    replace RX := Lib.hid ((ub.block _ (Array.getElem?_eq_some_iff.1 RX.out).1).trans RX.out)
    replace RP1 := Lib.hid ((ub.block _ (Array.getElem?_eq_some_iff.1 RP1.out).1).trans RP1.out)
    replace RQ1 := Lib.hid ((ub.block _ (Array.getElem?_eq_some_iff.1 RQ1.out).1).trans RQ1.out)
    replace HW := Lib.hid (HW.out.trans (ub.mono HW.out.size))
    clear ub iq x0 x1 x2 x3
    go_upto_region 13 with (fail)
    obtain ⟨w14, hv⟩ : ∃ x, x = w13.alloc (.cells #[.bool rtn, .slice rta rt rtc, .bool rbn, .slice rba rb rbc] 38) := ⟨_, rfl⟩
    have ub : Below w13.heap.size w13 w14 := by rw [hv]; go_grown
    have r : w14.heap[w13.heap.size]? = some (.cells #[.bool rtn, .slice rta rt rtc, .bool rbn, .slice rba rb rbc] 38 (0, 0)) := by rw [hv]; exact heap_alloc_new w13 _
    rw [← hv]
    clear hv
    replace HX := Lib.hid (HX.out.below ub)
    replace HP1 := Lib.hid (HP1.out.below ub)
    replace HQ1 := Lib.hid (HQ1.out.below ub)
    replace HR1 := Lib.hid (HR1.out.below ub)
    replace RX := Lib.hid ((ub.block _ (Array.getElem?_eq_some_iff.1 RX.out).1).trans RX.out)
    replace RP1 := Lib.hid ((ub.block _ (Array.getElem?_eq_some_iff.1 RP1.out).1).trans RP1.out)
    replace RQ1 := Lib.hid ((ub.block _ (Array.getElem?_eq_some_iff.1 RQ1.out).1).trans RQ1.out)
    replace HW := Lib.hid (HW.out.trans (ub.mono HW.out.size))
    obtain ⟨C, hB⟩ : ∃ x, x = w13.heap.size := ⟨_, rfl⟩
    rw [← hB] at r ⊢
    have RR1 := Lib.hid r
    clear ub r hB
    have HEQ : Hid (qn (PN N D i * PN N D k) (PD N D i * PD N D k) * PD N D (i + k) = PN N D (i + k) * qd (PN N D i * PN N D k) (PD N D i * PD N D k)) := Lib.hid (cross_q (by have h1 := PD_pos HN0.out HD0.out i; have h2 := PD_pos HN0.out HD0.out k; have := Int.mul_pos h1 h2; omega) (pow_sum HN0.out HD0.out i k hi1 hi2 hk1 hk2))
    have HKB : Hid (∀ w', Below w14.heap.size w14 w' → w'.cell? ⟨A, 0, none⟩ = some (.bool ptn) ∧ w'.cell? ⟨A, 1, none⟩ = some (.slice pta pt ptc) ∧ w'.cell? ⟨A, 2, none⟩ = some (.bool pbn) ∧ w'.cell? ⟨A, 3, none⟩ = some (.slice pba pb pbc) ∧ w'.cell? ⟨B, 0, none⟩ = some (.bool qtn) ∧ w'.cell? ⟨B, 1, none⟩ = some (.slice qta qt qtc) ∧ w'.cell? ⟨B, 2, none⟩ = some (.bool qbn) ∧ w'.cell? ⟨B, 3, none⟩ = some (.slice qba qb qbc) ∧ w'.cell? ⟨C, 0, none⟩ = some (.bool rtn) ∧ w'.cell? ⟨C, 1, none⟩ = some (.slice rta rt rtc) ∧ w'.cell? ⟨C, 2, none⟩ = some (.bool rbn) ∧ w'.cell? ⟨C, 3, none⟩ = some (.slice rba rb rbc)) := Lib.hid (fun w' hb => by
      obtain ⟨c00, c01, c02, c03⟩ := blk4 RP1.out
      have l0 := (Array.getElem?_eq_some_iff.1 RP1.out).1
      obtain ⟨c10, c11, c12, c13⟩ := blk4 RQ1.out
      have l1 := (Array.getElem?_eq_some_iff.1 RQ1.out).1
      obtain ⟨c20, c21, c22, c23⟩ := blk4 RR1.out
      have l2 := (Array.getElem?_eq_some_iff.1 RR1.out).1
      exact ⟨(hb.cell (p := ⟨A, 0, none⟩) l0).trans c00, (hb.cell (p := ⟨A, 1, none⟩) l0).trans c01, (hb.cell (p := ⟨A, 2, none⟩) l0).trans c02, (hb.cell (p := ⟨A, 3, none⟩) l0).trans c03, (hb.cell (p := ⟨B, 0, none⟩) l1).trans c10, (hb.cell (p := ⟨B, 1, none⟩) l1).trans c11, (hb.cell (p := ⟨B, 2, none⟩) l1).trans c12, (hb.cell (p := ⟨B, 3, none⟩) l1).trans c13, (hb.cell (p := ⟨C, 0, none⟩) l2).trans c20, (hb.cell (p := ⟨C, 1, none⟩) l2).trans c21, (hb.cell (p := ⟨C, 2, none⟩) l2).trans c22, (hb.cell (p := ⟨C, 3, none⟩) l2).trans c23⟩)
    have hmax := max_three
    clear hi1 hi2 hk1 hk2 HX RX HN0 HD0 RP1 RQ1 RR1
    go_wp2_with fail
    go_region_held3 (fun w' => w'.cell? ⟨A, 0, none⟩ = some (.bool ptn) ∧ w'.cell? ⟨A, 1, none⟩ = some (.slice pta pt ptc) ∧ w'.cell? ⟨A, 2, none⟩ = some (.bool pbn) ∧ w'.cell? ⟨A, 3, none⟩ = some (.slice pba pb pbc) ∧ w'.cell? ⟨B, 0, none⟩ = some (.bool qtn) ∧ w'.cell? ⟨B, 1, none⟩ = some (.slice qta qt qtc) ∧ w'.cell? ⟨B, 2, none⟩ = some (.bool qbn) ∧ w'.cell? ⟨B, 3, none⟩ = some (.slice qba qb qbc) ∧ w'.cell? ⟨C, 0, none⟩ = some (.bool rtn) ∧ w'.cell? ⟨C, 1, none⟩ = some (.slice rta rt rtc) ∧ w'.cell? ⟨C, 2, none⟩ = some (.bool rbn) ∧ w'.cell? ⟨C, 3, none⟩ = some (.slice rba rb rbc)) ((first | exact HKB.out _ Xb3 | exact HKB.out _ Xb2 | exact HKB.out _ Xb1 | exact HKB.out _ Xb3.drew | exact HKB.out _ Xb2.drew | exact HKB.out _ Xb1.drew | exact HKB.out _ (Below.refl _ _).drew))
      (first | (go_at_call 14; have Tb3 := Xb2; clear Tb3; refine (awake_q _).mono ?_; rintro e vb3 ⟨rfl, ub3⟩; have Xb3 : Below w14.heap.size w14 vb3 := Xb2.trans (ub3.mono Xb2.size)) | (go_at_call 61; have Tb2 := Xb1; clear Tb2; refine (same_q _ _ _ _ _ _ _ _ _ _ _ _ vx _ _ _ _ _ _ _ _ _ _ _ (PN N D (i + k)) rx (PD N D (i + k)) IV.out (HR1.out.below Xb1) (by omega) (by omega) (by omega) (by omega) HEQ.out).mono ?_; rintro e vb2 ⟨rfl, ub2⟩; have Xb2 : Below w14.heap.size w14 vb2 := Xb1.trans (ub2.mono Xb1.size)) | (go_at_call 44; refine (mulq_any _ _ _ _ _ _ _ _ _ _ _ (PN N D i) px (PD N D i) _ _ _ _ _ _ _ _ _ _ (PN N D k) qx (PD N D k) (HP1.out.below (Below.refl _ _).drew) (HQ1.out.below (Below.refl _ _).drew) 2001 (by omega) (by omega) (by omega) (by omega) (by omega)).mono ?_; rintro e vb1 ⟨vtn, vta, vt, vtc, vzt, vbn, vba, vb, vbc, vzb, vx, rfl, iv, gvt, gvb, ub1⟩; have Xb1 : Below w14.heap.size w14 vb1 := (Below.refl _ _).drew.trans ub1; have IV := Lib.hid iv; clear iv))
    go_wp2_with fail
    go_ret
    exact ⟨rfl, HW.out.trans (Xb3.mono HW.out.size)⟩


theorem rpowers_law (w : World) (n0 : Bool) (na : Option Addr) (nl nc : Nat) (nz : List Int) (d0 : Bool) (da : Option Addr) (dl dc : Nat) (dz : List Int) (m n : Int) (hx : Sl w na nl nc nz) (lx : Lim nz) (hy : Sl w da dl dc dz) (ly : Lim dz) (hm1 : -128 ≤ m) (hm2 : m ≤ 127) (hn1 : -128 ≤ n) (hn2 : n ≤ 127) :
    Calls Tryz.prog 10 #[.agg #[.bool n0, .slice na nl nc, .bool d0, .slice da dl dc], .int .i8 m, .int .i8 n] w (RetV w (.bool true)) := by
  by_cases h : nl ≤ 3 ∧ dl ≤ 3
  · exact rpowers_short w n0 na nl nc nz d0 da dl dc dz m n hx lx hy ly h.1 h.2 hm1 hm2 hn1 hn2
  · exact rpowers_long w n0 na nl nc nz d0 da dl dc dz m n h

end Go.Proofs.YtdfepdhflnnjpaaGreat

