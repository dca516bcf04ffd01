/- RationalNumbers: the walk. (What awake answers is a hypothesis here.) -/
import Derived.Test.YtdfepdhflnnjpaaGreatQ8
namespace Go.Proofs.YtdfepdhflnnjpaaGreat
open Go.RowKit
set_option autoImplicit false
set_option linter.unusedVariables false

theorem new_both (w : World) (nx ny : Bool) (ao bo : Option Addr) (n m ca cb : Nat) (xs ys : List Int) (ux uy : Bool) (uo vo : Option Addr) (k l cu cv : Nat) (us vs : List Int) (N D : Int)
    (hx : IntAt w nx ao n ca xs N) (hy : IntAt w ny bo m cb ys D) (hu : RefAt w ux uo k cu us N) (hv : RefAt w uy vo l cv vs D) (K : Nat) (h1 : n ≤ K) (h2 : m ≤ K) (h3 : k ≤ K) (h4 : l ≤ K) (h5 : 4 ≤ K) (hK : K ≤ 10000) :
    ∃ n0 d0 c : Int, (∀ w1, Below w.heap.size w w1 → Calls Tryz.prog 16 #[.agg #[.bool nx, .slice ao n ca], .agg #[.bool ny, .slice bo m cb]] w1 (RetRatE w1 n0 d0 K K c)) ∧
      (∀ w1, Below w.heap.size w w1 → Calls Tryz.prog 17 #[.agg #[.bool ux, .slice uo k cu], .agg #[.bool uy, .slice vo l cv]] w1 (RetFracE w1 n0 d0 K K c)) := by
  by_cases hD : D = 0
  · refine ⟨0, 1, 6, fun w1 hb => ?_, fun w1 hb => ?_⟩
    · have := newq_any w1 _ _ _ _ _ _ _ _ _ _ N D (hx.below hb) (hy.below hb) K h1 h2 (by omega)
      rwa [if_pos hD, if_pos hD, if_pos hD] at this
    · refine (rnewq_zero w1 _ _ _ _ _ _ _ _ us _ (hD ▸ hv.below hb)).mono ?_
      rintro e w' ⟨tn, ta, t, tc, zt, bn, ba, b, bc, zb, he, hq, ht, hb2, hw⟩
      exact ⟨tn, ta, t, tc, zt, bn, ba, b, bc, zb, he, hq, by omega, by omega, hw⟩
  · refine ⟨qn N D, qd N D, 0, fun w1 hb => ?_, fun w1 hb => ?_⟩
    · have := newq_any w1 _ _ _ _ _ _ _ _ _ _ N D (hx.below hb) (hy.below hb) K h1 h2 (by omega)
      rwa [if_neg hD, if_neg hD, if_neg hD] at this
    · exact rnewq_any w1 _ _ _ _ _ _ _ _ _ _ N D (hu.below hb) (hv.below hb) hD K h3 h4 (by omega)

theorem of_both (nn : Bool) (na : Option Addr) (nl nc : Nat) (nz : List Int) (dn : Bool) (da : Option Addr) (dl dc : Nat) (dz : List Int) (lx : Lim nz) (ly : Lim dz) (K : Nat) (h1 : nl ≤ K) (h2 : dl ≤ K) (hK : K ≤ 1000) :
    ∃ n1 d1 : Int, ∀ w : World, Sl w na nl nc nz → Sl w da dl dc dz → Calls Tryz.prog 18 #[.agg #[.bool nn, .slice na nl nc, .bool dn, .slice da dl dc]] w (RetOfQ w n1 d1 (2 * K + 4)) := by
  by_cases hD : sgn dn (val dz) = 0
  · exact ⟨_, _, fun w hx hy => ofq_zero w nn na nl nc nz dn da dl dc dz hx lx hy ly K h1 h2 hK hD⟩
  · exact ⟨_, _, fun w hx hy => ofq_pos w nn na nl nc nz dn da dl dc dz hx lx hy ly K h1 h2 hK hD⟩


set_option maxRecDepth 100000 in
set_option maxHeartbeats 4000000 in
theorem rnumbers_short (w : World) (n0 : Bool) (na : Option Addr) (nl nc : Nat) (nz : List Int) (d0 : Bool) (da : Option Addr) (dl dc : Nat) (dz : List Int) (y0 : Bool) (ya : Option Addr) (yl yc : Nat) (yz : List Int) (e0 : Bool) (ea : Option Addr) (el ec : Nat) (ez : List Int) (hn : Sl w na nl nc nz) (ln : Lim nz) (hd : Sl w da dl dc dz) (ld : Lim dz) (hy : Sl w ya yl yc yz) (ly : Lim yz) (he : Sl w ea el ec ez) (le : Lim ez)
    (h1 : nl ≤ 4) (h2 : dl ≤ 4) (h3 : yl ≤ 4) (h4 : el ≤ 4) (haw : ∀ w, Calls Tryz.prog 14 #[] w (RetV w (.bool true))) :
    Calls Tryz.prog 3 #[.agg #[.bool n0, .slice na nl nc], .agg #[.bool d0, .slice da dl dc], .agg #[.bool y0, .slice ya yl yc, .bool e0, .slice ea el ec]] w (RetV w (.bool true)) := by
  have SN : Hid (∀ w1, Below w.heap.size w w1 → Sl w1 na nl nc nz) := Lib.hid (fun w1 hb => hn.below hb)
  have SD : Hid (∀ w1, Below w.heap.size w w1 → Sl w1 da dl dc dz) := Lib.hid (fun w1 hb => hd.below hb)
  have SY : Hid (∀ w1, Below w.heap.size w w1 → Sl w1 ya yl yc yz) := Lib.hid (fun w1 hb => hy.below hb)
  have SE : Hid (∀ w1, Below w.heap.size w w1 → Sl w1 ea el ec ez) := Lib.hid (fun w1 hb => he.below hb)
  have LN := Lib.hid ln
  have LD := Lib.hid ld
  obtain ⟨n1, d1, hof⟩ := of_both y0 ya yl yc yz e0 ea el ec ez ly le 4 h3 h4 (by omega)
  have HOF := Lib.hid hof
  have HAW := Lib.hid haw
  have HS1 : Hid (decide (nl ≤ 4 ∧ dl ≤ 4) = true) := Lib.hid (decide_eq_true ⟨h1, h2⟩)
  have HS2 : Hid (decide (yl ≤ 4 ∧ el ≤ 4) = true) := Lib.hid (decide_eq_true ⟨h3, h4⟩)
  obtain ⟨N, hN⟩ : ∃ N, sgn n0 (val nz) = N := ⟨_, rfl⟩
  obtain ⟨D, hD⟩ : ∃ D, sgn d0 (val dz) = D := ⟨_, rfl⟩
  have HN := Lib.hid hN
  have HD := Lib.hid hD
  clear hn ln hd ld hy ly he le hof haw hN hD
  go_enter Tryz.func3, Tryz.ntmps3
  go_upto_region 1 with (fail)
  obtain ⟨w1, hw1⟩ : ∃ w1, w1 = ((w.alloc (.cells #[.bool n0, .slice na nl nc] 24)).alloc (.cells #[.bool d0, .slice da dl dc] 24)).alloc (.cells #[.bool y0, .slice ya yl yc, .bool e0, .slice ea el ec] 26) := ⟨_, rfl⟩
  have hbw : Below w.heap.size w w1 := by rw [hw1]; exact (((Below.refl _ _).alloc (Nat.le_refl _) _).alloc (by simp) _).alloc (by simp <;> omega) _
  have r0 : w1.heap[w.heap.size]? = some (.cells #[.bool n0, .slice na nl nc] 24 (0, 0)) := by rw [hw1, heap_alloc_old _ _ (by simp <;> omega), heap_alloc_old _ _ (by simp)]; exact heap_alloc_new w _
  have r1 : w1.heap[w.heap.size + 1]? = some (.cells #[.bool d0, .slice da dl dc] 24 (0, 0)) := by
    rw [hw1, heap_alloc_old _ _ (by simp)]
    have := heap_alloc_new (w.alloc (.cells #[.bool n0, .slice na nl nc] 24)) (.cells #[.bool d0, .slice da dl dc] 24)
    simpa using this
  have r2 : w1.heap[w.heap.size + 1 + 1]? = some (.cells #[.bool y0, .slice ya yl yc, .bool e0, .slice ea el ec] 26 (0, 0)) := by
    rw [hw1]
    have := heap_alloc_new ((w.alloc (.cells #[.bool n0, .slice na nl nc] 24)).alloc (.cells #[.bool d0, .slice da dl dc] 24)) (.cells #[.bool y0, .slice ya yl yc, .bool e0, .slice ea el ec] 26)
    simpa using this
  rw [← hw1]
  clear hw1
  obtain ⟨P, hP⟩ : ∃ P, P = w.heap.size := ⟨_, rfl⟩
  rw [← hP] at r0 r1 r2 ⊢
  have R0 := Lib.hid r0
  have R1 := Lib.hid r1
  have R2 := Lib.hid r2
  have HW := Lib.hid hbw
  clear r0 r1 r2 hbw hP
  obtain ⟨x0, x1, -, -⟩ := blk2 R0.out
  obtain ⟨x2, x3, -, -⟩ := blk2 R1.out
  go_wp2_with fail
  refine (short_two _ w1.heap.size ⟨n0, na, nl, nc⟩ ⟨d0, da, dl, dc⟩ 4 (heap_alloc_new _ _)).mono ?_
  rintro e w2 ⟨rfl, b⟩
  rw [show decide (Num.n ⟨n0, na, nl, nc⟩ ≤ 4 ∧ Num.n ⟨d0, da, dl, dc⟩ ≤ 4) = true from HS1.out]
  have ub : Below w1.heap.size w1 w2 := Below.trans (by go_grown) (b.mono (by go_size))
  replace R0 := Lib.hid ((ub.block _ (Array.getElem?_eq_some_iff.1 R0.out).1).trans R0.out)
  replace R1 := Lib.hid ((ub.block _ (Array.getElem?_eq_some_iff.1 R1.out).1).trans R1.out)
  replace R2 := Lib.hid ((ub.block _ (Array.getElem?_eq_some_iff.1 R2.out).1).trans R2.out)
  replace HW := Lib.hid (HW.out.trans (ub.mono HW.out.size))
  clear b ub x0 x1 x2 x3 HS1
  obtain ⟨x0, x1, x2, x3⟩ := blk4 R2.out
  go_wp2_with fail
  refine (qshort_one _ w2.heap.size ⟨y0, ya, yl, yc⟩ ⟨e0, ea, el, ec⟩ 4 (heap_alloc_new _ _)).mono ?_
  rintro e w3 ⟨rfl, b⟩
  rw [show decide (Num.n ⟨y0, ya, yl, yc⟩ ≤ 4 ∧ Num.n ⟨e0, ea, el, ec⟩ ≤ 4) = true from HS2.out]
  have ub : Below w2.heap.size w2 w3 := Below.trans (by go_grown) (b.mono (by go_size))
  replace R0 := Lib.hid ((ub.block _ (Array.getElem?_eq_some_iff.1 R0.out).1).trans R0.out)
  replace R1 := Lib.hid ((ub.block _ (Array.getElem?_eq_some_iff.1 R1.out).1).trans R1.out)
  replace R2 := Lib.hid ((ub.block _ (Array.getElem?_eq_some_iff.1 R2.out).1).trans R2.out)
  replace HW := Lib.hid (HW.out.trans (ub.mono HW.out.size))
  clear b ub x0 x1 x2 x3 HS2
  obtain ⟨x0, x1, -, -⟩ := blk2 R0.out
  go_wp2_with fail
  refine (of_any w3 n0 na nl nc nz (SN.out _ HW.out) LN.out (by omega)).mono ?_
  rintro e w4 ⟨s1, a1, m1, k1, z1, s2, a2, m2, k2, z2, rfl, i1, g1, i2, g2, ub⟩
  rw [HN.out] at i1 i2
  replace R0 := Lib.hid ((ub.block _ (Array.getElem?_eq_some_iff.1 R0.out).1).trans R0.out)
  replace R1 := Lib.hid ((ub.block _ (Array.getElem?_eq_some_iff.1 R1.out).1).trans R1.out)
  replace R2 := Lib.hid ((ub.block _ (Array.getElem?_eq_some_iff.1 R2.out).1).trans R2.out)
  replace HW := Lib.hid (HW.out.trans (ub.mono HW.out.size))
  have IA := Lib.hid i1
  have IU := Lib.hid i2
  clear i1 i2 ub x0 x1
  go_upto_region 4 with (fail)
  obtain ⟨w5, hw5⟩ : ∃ w5, w5 = (w4.alloc (.cells #[.bool s1, .slice a1 m1 k1] 31)).alloc (.cells #[.bool s2, .slice a2 m2 k2] 34) := ⟨_, rfl⟩
  have ub : Below w4.heap.size w4 w5 := by rw [hw5]; go_grown
  have ra : w5.heap[w4.heap.size]? = some (.cells #[.bool s1, .slice a1 m1 k1] 31 (0, 0)) := by rw [hw5]; exact (heap_alloc2 w4 _ _).2
  have ru : w5.heap[w4.heap.size + 1]? = some (.cells #[.bool s2, .slice a2 m2 k2] 34 (0, 0)) := by rw [hw5]; exact (heap_alloc2 w4 _ _).1
  rw [← hw5]
  clear hw5
  obtain ⟨A, hA⟩ : ∃ A, A = w4.heap.size := ⟨_, rfl⟩
  rw [← hA] at ra ru ⊢
  replace R0 := Lib.hid ((ub.block _ (Array.getElem?_eq_some_iff.1 R0.out).1).trans R0.out)
  replace R1 := Lib.hid ((ub.block _ (Array.getElem?_eq_some_iff.1 R1.out).1).trans R1.out)
  replace R2 := Lib.hid ((ub.block _ (Array.getElem?_eq_some_iff.1 R2.out).1).trans R2.out)
  replace IA := Lib.hid (IA.out.below ub)
  replace IU := Lib.hid (IU.out.below ub)
  replace HW := Lib.hid (HW.out.trans (ub.mono HW.out.size))
  have RA := Lib.hid ra
  have RU := Lib.hid ru
  clear ub ra ru hA
  obtain ⟨x0, x1, -, -⟩ := blk2 R1.out
  go_wp2_with fail
  refine (of_any w5 d0 da dl dc dz (SD.out _ HW.out) LD.out (by omega)).mono ?_
  rintro e w6 ⟨s3, a3, m3, k3, z3, s4, a4, m4, k4, z4, rfl, i3, g3, i4, g4, ub⟩
  rw [HD.out] at i3 i4
  replace R0 := Lib.hid ((ub.block _ (Array.getElem?_eq_some_iff.1 R0.out).1).trans R0.out)
  replace R1 := Lib.hid ((ub.block _ (Array.getElem?_eq_some_iff.1 R1.out).1).trans R1.out)
  replace R2 := Lib.hid ((ub.block _ (Array.getElem?_eq_some_iff.1 R2.out).1).trans R2.out)
  replace RA := Lib.hid ((ub.block _ (Array.getElem?_eq_some_iff.1 RA.out).1).trans RA.out)
  replace RU := Lib.hid ((ub.block _ (Array.getElem?_eq_some_iff.1 RU.out).1).trans RU.out)
  replace IA := Lib.hid (IA.out.below ub)
  replace IU := Lib.hid (IU.out.below ub)
  replace HW := Lib.hid (HW.out.trans (ub.mono HW.out.size))
  have IB := Lib.hid i3
  have IV := Lib.hid i4
  clear i3 i4 ub x0 x1
  go_upto_region 5 with (fail)
  obtain ⟨w7, hw7⟩ : ∃ w7, w7 = (w6.alloc (.cells #[.bool s3, .slice a3 m3 k3] 31)).alloc (.cells #[.bool s4, .slice a4 m4 k4] 34) := ⟨_, rfl⟩
  have ub : Below w6.heap.size w6 w7 := by rw [hw7]; go_grown
  have ra : w7.heap[w6.heap.size]? = some (.cells #[.bool s3, .slice a3 m3 k3] 31 (0, 0)) := by rw [hw7]; exact (heap_alloc2 w6 _ _).2
  have ru : w7.heap[w6.heap.size + 1]? = some (.cells #[.bool s4, .slice a4 m4 k4] 34 (0, 0)) := by rw [hw7]; exact (heap_alloc2 w6 _ _).1
  rw [← hw7]
  clear hw7
  obtain ⟨B, hB⟩ : ∃ B, B = w6.heap.size := ⟨_, rfl⟩
  rw [← hB] at ra ru ⊢
  replace R2 := Lib.hid ((ub.block _ (Array.getElem?_eq_some_iff.1 R2.out).1).trans R2.out)
  replace RA := Lib.hid ((ub.block _ (Array.getElem?_eq_some_iff.1 RA.out).1).trans RA.out)
  replace RU := Lib.hid ((ub.block _ (Array.getElem?_eq_some_iff.1 RU.out).1).trans RU.out)
  replace IA := Lib.hid (IA.out.below ub)
  replace IU := Lib.hid (IU.out.below ub)
  replace IB := Lib.hid (IB.out.below ub)
  replace IV := Lib.hid (IV.out.below ub)
  replace HW := Lib.hid (HW.out.trans (ub.mono HW.out.size))
  have RB := Lib.hid ra
  have RV := Lib.hid ru
  clear ub ra ru hB R0 R1 SN SD LN LD HN HD
  obtain ⟨q0, t0, cc, hnw, hrn⟩ := new_both w7 _ _ _ _ _ _ _ _ _ _ _ _ _ _ _ _ _ _ _ _ N D IA.out IB.out IU.out IV.out 8 (by omega) (by omega) (by omega) (by omega) (by omega) (by omega)
  have HNW := Lib.hid hnw
  have HRN := Lib.hid hrn
  have BW7 := Lib.hid (Below.refl w7.heap.size w7)
  clear hnw hrn
  obtain ⟨x0, x1, -, -⟩ := blk2 RA.out
  obtain ⟨x2, x3, -, -⟩ := blk2 RB.out
  go_wp2_with fail
  refine (HNW.out _ (Below.refl _ _)).mono ?_
  rintro e w8 ⟨xtn, xta, xt, xtc, xzt, xbn, xba, xb, xbc, xzb, xx, rfl, ix, gx1, gx2, ub⟩
  replace R2 := Lib.hid ((ub.block _ (Array.getElem?_eq_some_iff.1 R2.out).1).trans R2.out)
  replace RA := Lib.hid ((ub.block _ (Array.getElem?_eq_some_iff.1 RA.out).1).trans RA.out)
  replace RU := Lib.hid ((ub.block _ (Array.getElem?_eq_some_iff.1 RU.out).1).trans RU.out)
  replace RB := Lib.hid ((ub.block _ (Array.getElem?_eq_some_iff.1 RB.out).1).trans RB.out)
  replace RV := Lib.hid ((ub.block _ (Array.getElem?_eq_some_iff.1 RV.out).1).trans RV.out)
  replace IA := Lib.hid (IA.out.below ub)
  replace IU := Lib.hid (IU.out.below ub)
  replace HW := Lib.hid (HW.out.trans (ub.mono HW.out.size))
  replace BW7 := Lib.hid (BW7.out.trans (ub.mono BW7.out.size))
  have IX := Lib.hid ix
  clear ix ub x0 x1 x2 x3 HNW IB IV RB
  go_upto_region 6 with (fail)
  obtain ⟨w9, hw9⟩ : ∃ w9, w9 = w8.alloc (.cells #[.bool xtn, .slice xta xt xtc, .bool xbn, .slice xba xb xbc] 38) := ⟨_, rfl⟩
  have ub : Below w8.heap.size w8 w9 := by rw [hw9]; go_grown
  have rx : w9.heap[w8.heap.size]? = some (.cells #[.bool xtn, .slice xta xt xtc, .bool xbn, .slice xba xb xbc] 38 (0, 0)) := by rw [hw9]; exact heap_alloc_new w8 _
  rw [← hw9]
  clear hw9
  obtain ⟨X, hX⟩ : ∃ X, X = w8.heap.size := ⟨_, rfl⟩
  rw [← hX] at rx ⊢
  replace R2 := Lib.hid ((ub.block _ (Array.getElem?_eq_some_iff.1 R2.out).1).trans R2.out)
  replace RA := Lib.hid ((ub.block _ (Array.getElem?_eq_some_iff.1 RA.out).1).trans RA.out)
  replace RU := Lib.hid ((ub.block _ (Array.getElem?_eq_some_iff.1 RU.out).1).trans RU.out)
  replace RV := Lib.hid ((ub.block _ (Array.getElem?_eq_some_iff.1 RV.out).1).trans RV.out)
  replace IA := Lib.hid (IA.out.below ub)
  replace IU := Lib.hid (IU.out.below ub)
  replace IX := Lib.hid (IX.out.below ub)
  replace HW := Lib.hid (HW.out.trans (ub.mono HW.out.size))
  replace BW7 := Lib.hid (BW7.out.trans (ub.mono BW7.out.size))
  have RX := Lib.hid rx
  clear ub rx hX
  obtain ⟨x0, x1, -, -⟩ := blk2 RU.out
  obtain ⟨x2, x3, -, -⟩ := blk2 RV.out
  go_wp2_with fail
  refine (HRN.out _ BW7.out).mono ?_
  rintro e wa ⟨ztn, zta, zt, ztc, zzt, zbn, zba, zb, zbc, zzb, rfl, iz, gz1, gz2, ub⟩
  replace R2 := Lib.hid ((ub.block _ (Array.getElem?_eq_some_iff.1 R2.out).1).trans R2.out)
  replace RA := Lib.hid ((ub.block _ (Array.getElem?_eq_some_iff.1 RA.out).1).trans RA.out)
  replace RU := Lib.hid ((ub.block _ (Array.getElem?_eq_some_iff.1 RU.out).1).trans RU.out)
  replace RX := Lib.hid ((ub.block _ (Array.getElem?_eq_some_iff.1 RX.out).1).trans RX.out)
  replace IA := Lib.hid (IA.out.below ub)
  replace IU := Lib.hid (IU.out.below ub)
  replace IX := Lib.hid (IX.out.below ub)
  replace HW := Lib.hid (HW.out.trans (ub.mono HW.out.size))
  have IZ := Lib.hid iz
  clear iz ub x0 x1 x2 x3 HRN RV BW7
  go_upto_region 7 with (fail)
  obtain ⟨wb, hwb⟩ : ∃ wb, wb = wa.alloc (.cells #[.bool ztn, .slice zta zt ztc, .bool zbn, .slice zba zb zbc] 43) := ⟨_, rfl⟩
  have ub : Below wa.heap.size wa wb := by rw [hwb]; go_grown
  have rz : wb.heap[wa.heap.size]? = some (.cells #[.bool ztn, .slice zta zt ztc, .bool zbn, .slice zba zb zbc] 43 (0, 0)) := by rw [hwb]; exact heap_alloc_new wa _
  rw [← hwb]
  clear hwb
  obtain ⟨Z, hZ⟩ : ∃ Z, Z = wa.heap.size := ⟨_, rfl⟩
  rw [← hZ] at rz ⊢
  replace R2 := Lib.hid ((ub.block _ (Array.getElem?_eq_some_iff.1 R2.out).1).trans R2.out)
  replace RA := Lib.hid ((ub.block _ (Array.getElem?_eq_some_iff.1 RA.out).1).trans RA.out)
  replace RU := Lib.hid ((ub.block _ (Array.getElem?_eq_some_iff.1 RU.out).1).trans RU.out)
  replace RX := Lib.hid ((ub.block _ (Array.getElem?_eq_some_iff.1 RX.out).1).trans RX.out)
  replace IA := Lib.hid (IA.out.below ub)
  replace IU := Lib.hid (IU.out.below ub)
  replace IX := Lib.hid (IX.out.below ub)
  replace IZ := Lib.hid (IZ.out.below ub)
  replace HW := Lib.hid (HW.out.trans (ub.mono HW.out.size))
  have RZ := Lib.hid rz
  clear ub rz hZ
  obtain ⟨x0, x1, x2, x3⟩ := blk4 R2.out
  go_wp2_with fail
  refine (HOF.out _ (SY.out _ HW.out) (SE.out _ HW.out)).mono ?_
  rintro e wc ⟨ptn, pta, pt, ptc, pzt, pbn, pba, pb, pbc, pzb, px, qtn, qta, qt, qtc, qzt, qbn, qba, qb, qbc, qzb, rfl, ip, iq, gp1, gp2, gq1, gq2, ub⟩
  replace RA := Lib.hid ((ub.block _ (Array.getElem?_eq_some_iff.1 RA.out).1).trans RA.out)
  replace RU := Lib.hid ((ub.block _ (Array.getElem?_eq_some_iff.1 RU.out).1).trans RU.out)
  replace RX := Lib.hid ((ub.block _ (Array.getElem?_eq_some_iff.1 RX.out).1).trans RX.out)
  replace RZ := Lib.hid ((ub.block _ (Array.getElem?_eq_some_iff.1 RZ.out).1).trans RZ.out)
  replace IA := Lib.hid (IA.out.below ub)
  replace IU := Lib.hid (IU.out.below ub)
  replace IX := Lib.hid (IX.out.below ub)
  replace IZ := Lib.hid (IZ.out.below ub)
  replace HW := Lib.hid (HW.out.trans (ub.mono HW.out.size))
  have IP := Lib.hid ip
  have IQ := Lib.hid iq
  clear ip iq ub x0 x1 x2 x3 HOF SY SE R2
  go_upto_region 8 with (fail)
  obtain ⟨wd, hwd⟩ : ∃ wd, wd = (wc.alloc (.cells #[.bool ptn, .slice pta pt ptc, .bool pbn, .slice pba pb pbc] 38)).alloc (.cells #[.bool qtn, .slice qta qt qtc, .bool qbn, .slice qba qb qbc] 43) := ⟨_, rfl⟩
  have ub : Below wc.heap.size wc wd := by rw [hwd]; go_grown
  have rp : wd.heap[wc.heap.size]? = some (.cells #[.bool ptn, .slice pta pt ptc, .bool pbn, .slice pba pb pbc] 38 (0, 0)) := by rw [hwd]; exact (heap_alloc2 wc _ _).2
  have rq : wd.heap[wc.heap.size + 1]? = some (.cells #[.bool qtn, .slice qta qt qtc, .bool qbn, .slice qba qb qbc] 43 (0, 0)) := by rw [hwd]; exact (heap_alloc2 wc _ _).1
  rw [← hwd]
  clear hwd
  obtain ⟨Q, hQ⟩ : ∃ Q, Q = wc.heap.size := ⟨_, rfl⟩
  rw [← hQ] at rp rq ⊢
  replace RA := Lib.hid ((ub.block _ (Array.getElem?_eq_some_iff.1 RA.out).1).trans RA.out)
  replace RU := Lib.hid ((ub.block _ (Array.getElem?_eq_some_iff.1 RU.out).1).trans RU.out)
  replace RX := Lib.hid ((ub.block _ (Array.getElem?_eq_some_iff.1 RX.out).1).trans RX.out)
  replace RZ := Lib.hid ((ub.block _ (Array.getElem?_eq_some_iff.1 RZ.out).1).trans RZ.out)
  replace IA := Lib.hid (IA.out.below ub)
  replace IU := Lib.hid (IU.out.below ub)
  replace IX := Lib.hid (IX.out.below ub)
  replace IZ := Lib.hid (IZ.out.below ub)
  replace IP := Lib.hid (IP.out.below ub)
  replace IQ := Lib.hid (IQ.out.below ub)
  replace HW := Lib.hid (HW.out.trans (ub.mono HW.out.size))
  have RP := Lib.hid rp
  have RQ := Lib.hid rq
  clear ub rp rq hQ

  have HKP : Hid (∀ w', Below wd.heap.size wd w' → w'.cell? ⟨A, 0, none⟩ = some (.bool s1) ∧ w'.cell? ⟨A, 1, none⟩ = some (.slice a1 m1 k1) ∧ w'.cell? ⟨A + 1, 0, none⟩ = some (.bool s2) ∧ w'.cell? ⟨A + 1, 1, none⟩ = some (.slice a2 m2 k2) ∧ w'.cell? ⟨X, 0, none⟩ = some (.bool xtn) ∧ w'.cell? ⟨X, 1, none⟩ = some (.slice xta xt xtc) ∧ w'.cell? ⟨X, 2, none⟩ = some (.bool xbn) ∧ w'.cell? ⟨X, 3, none⟩ = some (.slice xba xb xbc) ∧ w'.cell? ⟨Z, 0, none⟩ = some (.bool ztn) ∧ w'.cell? ⟨Z, 1, none⟩ = some (.slice zta zt ztc) ∧ w'.cell? ⟨Z, 2, none⟩ = some (.bool zbn) ∧ w'.cell? ⟨Z, 3, none⟩ = some (.slice zba zb zbc) ∧ w'.cell? ⟨Q, 0, none⟩ = some (.bool ptn) ∧ w'.cell? ⟨Q, 1, none⟩ = some (.slice pta pt ptc) ∧ w'.cell? ⟨Q, 2, none⟩ = some (.bool pbn) ∧ w'.cell? ⟨Q, 3, none⟩ = some (.slice pba pb pbc) ∧ w'.cell? ⟨Q + 1, 0, none⟩ = some (.bool qtn) ∧ w'.cell? ⟨Q + 1, 1, none⟩ = some (.slice qta qt qtc) ∧ w'.cell? ⟨Q + 1, 2, none⟩ = some (.bool qbn) ∧ w'.cell? ⟨Q + 1, 3, none⟩ = some (.slice qba qb qbc)) := Lib.hid (fun w' hb => by
    obtain ⟨c0, c1, -, -⟩ := blk2 RA.out
    obtain ⟨d0, d1, -, -⟩ := blk2 RU.out
    obtain ⟨x0, x1, x2, x3⟩ := blk4 RX.out
    obtain ⟨z0, z1, z2, z3⟩ := blk4 RZ.out
    obtain ⟨p0, p1, p2, p3⟩ := blk4 RP.out
    obtain ⟨q0, q1, q2, q3⟩ := blk4 RQ.out
    exact ⟨(hb.cell (p := ⟨A, 0, none⟩) (Array.getElem?_eq_some_iff.1 RA.out).1).trans c0, (hb.cell (p := ⟨A, 1, none⟩) (Array.getElem?_eq_some_iff.1 RA.out).1).trans c1, (hb.cell (p := ⟨A + 1, 0, none⟩) (Array.getElem?_eq_some_iff.1 RU.out).1).trans d0, (hb.cell (p := ⟨A + 1, 1, none⟩) (Array.getElem?_eq_some_iff.1 RU.out).1).trans d1, (hb.cell (p := ⟨X, 0, none⟩) (Array.getElem?_eq_some_iff.1 RX.out).1).trans x0, (hb.cell (p := ⟨X, 1, none⟩) (Array.getElem?_eq_some_iff.1 RX.out).1).trans x1, (hb.cell (p := ⟨X, 2, none⟩) (Array.getElem?_eq_some_iff.1 RX.out).1).trans x2, (hb.cell (p := ⟨X, 3, none⟩) (Array.getElem?_eq_some_iff.1 RX.out).1).trans x3, (hb.cell (p := ⟨Z, 0, none⟩) (Array.getElem?_eq_some_iff.1 RZ.out).1).trans z0, (hb.cell (p := ⟨Z, 1, none⟩) (Array.getElem?_eq_some_iff.1 RZ.out).1).trans z1, (hb.cell (p := ⟨Z, 2, none⟩) (Array.getElem?_eq_some_iff.1 RZ.out).1).trans z2, (hb.cell (p := ⟨Z, 3, none⟩) (Array.getElem?_eq_some_iff.1 RZ.out).1).trans z3, (hb.cell (p := ⟨Q, 0, none⟩) (Array.getElem?_eq_some_iff.1 RP.out).1).trans p0, (hb.cell (p := ⟨Q, 1, none⟩) (Array.getElem?_eq_some_iff.1 RP.out).1).trans p1, (hb.cell (p := ⟨Q, 2, none⟩) (Array.getElem?_eq_some_iff.1 RP.out).1).trans p2, (hb.cell (p := ⟨Q, 3, none⟩) (Array.getElem?_eq_some_iff.1 RP.out).1).trans p3, (hb.cell (p := ⟨Q + 1, 0, none⟩) (Array.getElem?_eq_some_iff.1 RQ.out).1).trans q0, (hb.cell (p := ⟨Q + 1, 1, none⟩) (Array.getElem?_eq_some_iff.1 RQ.out).1).trans q1, (hb.cell (p := ⟨Q + 1, 2, none⟩) (Array.getElem?_eq_some_iff.1 RQ.out).1).trans q2, (hb.cell (p := ⟨Q + 1, 3, none⟩) (Array.getElem?_eq_some_iff.1 RQ.out).1).trans q3⟩)
  obtain ⟨wbb, hwbb⟩ : ∃ b, decide (t0 = 1) = b := ⟨_, rfl⟩
  obtain ⟨sgg, hsgg⟩ : ∃ b, cmpI q0 0 = b := ⟨_, rfl⟩
  obtain ⟨cmm, hcmm⟩ : ∃ b, cmpI (q0 * d1) (n1 * t0) = b := ⟨_, rfl⟩
  have HWB := Lib.hid hwbb
  have HSG := Lib.hid hsgg
  have HCM := Lib.hid hcmm
  clear hwbb hsgg hcmm RA RU RX RZ RP RQ
  go_region_held3 (fun w' => w'.cell? ⟨A, 0, none⟩ = some (.bool s1) ∧ w'.cell? ⟨A, 1, none⟩ = some (.slice a1 m1 k1) ∧ w'.cell? ⟨A + 1, 0, none⟩ = some (.bool s2) ∧ w'.cell? ⟨A + 1, 1, none⟩ = some (.slice a2 m2 k2) ∧ w'.cell? ⟨X, 0, none⟩ = some (.bool xtn) ∧ w'.cell? ⟨X, 1, none⟩ = some (.slice xta xt xtc) ∧ w'.cell? ⟨X, 2, none⟩ = some (.bool xbn) ∧ w'.cell? ⟨X, 3, none⟩ = some (.slice xba xb xbc) ∧ w'.cell? ⟨Z, 0, none⟩ = some (.bool ztn) ∧ w'.cell? ⟨Z, 1, none⟩ = some (.slice zta zt ztc) ∧ w'.cell? ⟨Z, 2, none⟩ = some (.bool zbn) ∧ w'.cell? ⟨Z, 3, none⟩ = some (.slice zba zb zbc) ∧ w'.cell? ⟨Q, 0, none⟩ = some (.bool ptn) ∧ w'.cell? ⟨Q, 1, none⟩ = some (.slice pta pt ptc) ∧ w'.cell? ⟨Q, 2, none⟩ = some (.bool pbn) ∧ w'.cell? ⟨Q, 3, none⟩ = some (.slice pba pb pbc) ∧ w'.cell? ⟨Q + 1, 0, none⟩ = some (.bool qtn) ∧ w'.cell? ⟨Q + 1, 1, none⟩ = some (.slice qta qt qtc) ∧ w'.cell? ⟨Q + 1, 2, none⟩ = some (.bool qbn) ∧ w'.cell? ⟨Q + 1, 3, none⟩ = some (.slice qba qb qbc)) ((first | exact HKP.out _ X12 | exact HKP.out _ X11 | exact HKP.out _ X10 | exact HKP.out _ X9 | exact HKP.out _ X8 | exact HKP.out _ X7 | exact HKP.out _ X6 | exact HKP.out _ X5 | exact HKP.out _ X4 | exact HKP.out _ X3 | exact HKP.out _ X2 | exact HKP.out _ X1 | exact HKP.out _ (Below.refl _ _).drew))
    (first | (go_at_call 14; have T12 := X11; clear T12; refine (HAW.out _).mono ?_; rintro e v12 ⟨rfl, u12⟩; have X12 : Below wd.heap.size wd v12 := X11.trans (u12.mono X11.size)) | (go_at_call 27; have T11 := X10; clear T11; refine (rcmpq_any _ _ _ _ _ _ _ _ _ _ _ q0 t0 _ _ _ _ _ _ _ _ _ _ n1 d1 (IZ.out.below X10) (IQ.out.below X10) 100 (by omega) (by omega) (by omega) (by omega) (by omega)).mono ?_; rintro e v11 ⟨rfl, u11⟩; have X11 : Below wd.heap.size wd v11 := X10.trans (u11.mono X10.size); rw [HCM.out]) | (go_at_call 26; have T10 := X9; clear T10; refine (cmpq_any _ _ _ _ _ _ _ _ _ _ _ q0 xx t0 _ _ _ _ _ _ _ _ _ _ n1 px d1 (IX.out.below X9) (IP.out.below X9) (by omega) (by omega) (by omega) (by omega)).mono ?_; rintro e v10 ⟨rfl, u10⟩; have X10 : Below wd.heap.size wd v10 := X9.trans (u10.mono X9.size); rw [HCM.out]) | (go_at_call 25; have T9 := X8; clear T9; refine (rsignq_any _ _ _ _ _ _ _ _ _ _ q0 (IZ.out.top.below X8)).mono ?_; rintro e v9 ⟨rfl, u9⟩; have X9 : Below wd.heap.size wd v9 := X8.trans (u9.mono X8.size); rw [HSG.out]) | (go_at_call 24; have T8 := X7; clear T8; refine (signq_any _ _ _ _ _ _ _ _ _ _ _ q0 xx t0 (IX.out.below X7)).mono ?_; rintro e v8 ⟨rfl, u8⟩; have X8 : Below wd.heap.size wd v8 := X7.trans (u8.mono X7.size); rw [HSG.out]) | (go_at_call 23; have T7 := X6; clear T7; refine (rwhole_any _ _ _ _ _ _ _ _ _ _ t0 (IZ.out.bot.below X6) (by omega)).mono ?_; rintro e v7 ⟨rfl, u7⟩; have X7 : Below wd.heap.size wd v7 := X6.trans (u7.mono X6.size); rw [HWB.out]) | (go_at_call 22; have T6 := X5; clear T6; refine (whole_any _ _ _ _ _ _ _ _ _ _ _ q0 xx t0 (IX.out.below X5)).mono ?_; rintro e v6 ⟨rfl, u6⟩; have X6 : Below wd.heap.size wd v6 := X5.trans (u6.mono X5.size); rw [HWB.out]) | (go_at_call 19; have T5 := X4; clear T5; refine (isq_yes _ _ _ _ _ _ _ _ _ _ _ n1 px d1 (IP.out.below X4) _ _ _ _ _ _ _ _ _ _ (IQ.out.below X4) (by omega) (by omega) (by omega) (by omega)).mono ?_; rintro e v5 ⟨rfl, u5⟩; have X5 : Below wd.heap.size wd v5 := X4.trans (u5.mono X4.size)) | (go_at_call 19; have T4 := X3; clear T4; refine (isq_yes _ _ _ _ _ _ _ _ _ _ _ N rx 1 IR.out _ _ _ _ _ _ _ _ _ _ IO.out (by omega) (by omega) (by omega) (by omega)).mono ?_; rintro e v4 ⟨rfl, u4⟩; have X4 : Below wd.heap.size wd v4 := X3.trans (u4.mono X3.size)) | (go_at_call 21; have T3 := X2; clear T3; refine (rof_any _ _ _ _ _ _ N (IU.out.below X2)).mono ?_; rintro e v3 ⟨otn, ota, ot, otc, ozt, obn, oba, ob, obc, ozb, rfl, io, go1, go2, u3⟩; have X3 : Below wd.heap.size wd v3 := X2.trans (u3.mono X2.size); have IO := Lib.hid io; clear io; replace IR := Lib.hid (IR.out.below u3)) | (go_at_call 20; have T2 := X1; clear T2; refine (qof_any _ _ _ _ _ _ N (IA.out.below X1)).mono ?_; rintro e v2 ⟨rtn, rta, rt, rtc, rzt, rbn, rba, rb, rbc, rzb, rx, rfl, ir, gr1, gr2, u2⟩; have X2 : Below wd.heap.size wd v2 := X1.trans (u2.mono X1.size); have IR := Lib.hid ir; clear ir) | (go_at_call 19; refine (isq_yes _ _ _ _ _ _ _ _ _ _ _ q0 xx t0 (IX.out.below (Below.refl _ _).drew) _ _ _ _ _ _ _ _ _ _ (IZ.out.below (Below.refl _ _).drew) (by omega) (by omega) (by omega) (by omega)).mono ?_; rintro e v1 ⟨rfl, u1⟩; have X1 : Below wd.heap.size wd v1 := (Below.refl _ _).drew.trans u1))
  go_wp2_with fail
  go_ret
  exact ⟨rfl, HW.out.trans (X12.mono HW.out.size)⟩

end Go.Proofs.YtdfepdhflnnjpaaGreat
