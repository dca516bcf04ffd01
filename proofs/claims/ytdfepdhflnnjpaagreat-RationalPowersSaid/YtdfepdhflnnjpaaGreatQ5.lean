/- The reference's fractions: New. -/
import Derived.Test.YtdfepdhflnnjpaaGreatQ4
namespace Go.Proofs.YtdfepdhflnnjpaaGreat
open Go.RowKit
set_option autoImplicit false
set_option linter.unusedVariables false

/-- Two boxes with integers, and a third one for a fraction. -/
structure RLowSt (w : World) (P : Nat) (N D : Int) (K : Nat) (wx : World) (nx : Bool) (ao : Option Addr) (n ca : Nat) (xs : List Int) (ny : Bool) (bo : Option Addr) (m cb : Nat) (ys : List Int) : Prop where
  r0 : wx.heap[P]? = some (.cells #[.bool nx, .slice ao n ca] 34 (0, 0))
  r1 : wx.heap[P + 1]? = some (.cells #[.bool ny, .slice bo m cb] 34 (0, 0))
  r2 : wx.heap[P + 1 + 1]? = some (.cells #[.bool false, .slice none 0 0, .bool false, .slice none 0 0] 43 (0, 0))
  ix : RefAt wx nx ao n ca xs N
  iy : RefAt wx ny bo m cb ys D
  hn : n ≤ K
  hm : m ≤ K
  hb : Below w.heap.size w wx
def RLowEx (w : World) (P : Nat) (N D : Int) (K : Nat) (wx : World) : Prop := ∃ nx ao n ca xs ny bo m cb ys, RLowSt w P N D K wx nx ao n ca xs ny bo m cb ys

theorem RLowSt.below {w wx wy : World} {P K : Nat} {N D : Int} {nx : Bool} {ao : Option Addr} {n ca : Nat} {xs : List Int} {ny : Bool} {bo : Option Addr} {m cb : Nat} {ys : List Int} (h : RLowSt w P N D K wx nx ao n ca xs ny bo m cb ys) (hb : Below wx.heap.size wx wy) : RLowSt w P N D K wy nx ao n ca xs ny bo m cb ys :=
  ⟨(hb.block _ (Array.getElem?_eq_some_iff.1 h.r0).1).trans h.r0, (hb.block _ (Array.getElem?_eq_some_iff.1 h.r1).1).trans h.r1, (hb.block _ (Array.getElem?_eq_some_iff.1 h.r2).1).trans h.r2, h.ix.below hb, h.iy.below hb, h.hn, h.hm, h.hb.trans (hb.mono h.hb.size)⟩

theorem RLowSt.set0 {w wx : World} {P K : Nat} {N D N' : Int} {nx : Bool} {ao : Option Addr} {n ca : Nat} {xs : List Int} {ny : Bool} {bo : Option Addr} {m cb : Nat} {ys : List Int} (h : RLowSt w P N D K wx nx ao n ca xs ny bo m cb ys) (hP : P = w.heap.size)
    {nz : Bool} {co : Option Addr} {k cc : Nat} {zs : List Int} (iz : RefAt wx nz co k cc zs N') (hk : k ≤ K) :
    RLowSt w P N' D K ((wx.setCell ⟨P, 0, none⟩ (.bool nz)).setCell ⟨P, 1, none⟩ (.slice co k cc)) nz co k cc zs ny bo m cb ys :=
  ⟨row_stored h.r0, by rw [Below.heap_setCell _ _ _ _ (by dsimp only; omega), Below.heap_setCell _ _ _ _ (by dsimp only; omega)]; exact h.r1, by rw [Below.heap_setCell _ _ _ _ (by dsimp only; omega), Below.heap_setCell _ _ _ _ (by dsimp only; omega)]; exact h.r2,
    iz.stored h.r0 _ _, h.iy.stored h.r0 _ _, hk, h.hm, (h.hb.setCell (p := ⟨P, 0, none⟩) (by dsimp only; omega) _).setCell (p := ⟨P, 1, none⟩) (by dsimp only; omega) _⟩
theorem RLowSt.set1 {w wx : World} {P K : Nat} {N D D' : Int} {nx : Bool} {ao : Option Addr} {n ca : Nat} {xs : List Int} {ny : Bool} {bo : Option Addr} {m cb : Nat} {ys : List Int} (h : RLowSt w P N D K wx nx ao n ca xs ny bo m cb ys) (hP : P = w.heap.size)
    {nz : Bool} {co : Option Addr} {k cc : Nat} {zs : List Int} (iz : RefAt wx nz co k cc zs D') (hk : k ≤ K) :
    RLowSt w P N D' K ((wx.setCell ⟨P + 1, 0, none⟩ (.bool nz)).setCell ⟨P + 1, 1, none⟩ (.slice co k cc)) nx ao n ca xs nz co k cc zs :=
  ⟨by rw [Below.heap_setCell _ _ _ _ (by dsimp only; omega), Below.heap_setCell _ _ _ _ (by dsimp only; omega)]; exact h.r0, row_stored h.r1, by rw [Below.heap_setCell _ _ _ _ (by dsimp only; omega), Below.heap_setCell _ _ _ _ (by dsimp only; omega)]; exact h.r2,
    h.ix.stored h.r1 _ _, iz.stored h.r1 _ _, h.hn, hk, (h.hb.setCell (p := ⟨P + 1, 0, none⟩) (by dsimp only; omega) _).setCell (p := ⟨P + 1, 1, none⟩) (by dsimp only; omega) _⟩

theorem RLowSt.drew {w wx : World} {P K : Nat} {N D : Int} {nx : Bool} {ao : Option Addr} {n ca : Nat} {xs : List Int} {ny : Bool} {bo : Option Addr} {m cb : Nat} {ys : List Int} (h : RLowSt w P N D K wx nx ao n ca xs ny bo m cb ys) : RLowSt w P N D K wx.drew nx ao n ca xs ny bo m cb ys :=
  h.below (Below.refl _ _).drew



set_option maxRecDepth 100000 in
set_option maxHeartbeats 4000000 in
theorem rnewq_any (w : World) (nx ny : Bool) (ao bo : Option Addr) (n m capa capb : Nat) (xs ys : List Int) (N D : Int) (hx : RefAt w nx ao n capa xs N) (hy : RefAt w ny bo m capb ys D) (hD : D ≠ 0) (K : Nat) (hn : n ≤ K) (hm : m ≤ K) (hK : K ≤ 100000) :
    Calls Tryz.prog 17 #[.agg #[.bool nx, .slice ao n capa], .agg #[.bool ny, .slice bo m capb]] w (RetFracE w (qn N D) (qd N D) K K 0) := by
  have HX := Lib.hid hx
  have HY := Lib.hid hy
  obtain ⟨c, hc⟩ : ∃ c, cmpI D 0 = c := ⟨_, rfl⟩
  have hcz : (c == 0) = false := by rw [← hc]; unfold cmpI; by_cases a1 : D < 0 <;> by_cases a2 : 0 < D <;> simp [a1, a2] <;> omega
  have HCD : Hid (c < 0 ↔ D < 0) := Lib.hid (by rw [← hc]; unfold cmpI; by_cases h1 : D < 0 <;> by_cases h2 : 0 < D <;> simp [h1, h2])
  obtain ⟨N', hN'⟩ : ∃ N', (if D < 0 then -N else N) = N' := ⟨_, rfl⟩
  obtain ⟨D', hD'⟩ : ∃ D', (if D < 0 then -D else D) = D' := ⟨_, rfl⟩
  have hgcd : Nat.gcd N.natAbs D.natAbs = Nat.gcd N'.natAbs D'.natAbs := by
    rw [← hN', ← hD']; split <;> simp
  have HQN : Hid (qn N D = N'.tdiv (Nat.gcd N'.natAbs D'.natAbs : Int)) := Lib.hid (by unfold qn; rw [hN', hgcd])
  have HQD : Hid (qd N D = D'.tdiv (Nat.gcd N'.natAbs D'.natAbs : Int)) := Lib.hid (by unfold qd; rw [hD', hgcd])
  have HLOW := Lib.hid (low_q (n := N) hD)
  have hDp : 0 < D' := by rw [← hD']; split <;> omega
  have HG0 := Lib.hid (gcd_pos (n := N') (d := D') (by omega))
  have HN' := Lib.hid hN'
  have HD' := Lib.hid hD'
  have HC := Lib.hid hc
  clear hx hy hD hN' hD' hgcd hc
  go_enter Tryz.func17, Tryz.ntmps17
  go_upto_region 1 with (fail)
  obtain ⟨w1, hw1⟩ : ∃ w1, w1 = ((w.alloc (.cells #[.bool nx, .slice ao n capa] 34)).alloc (.cells #[.bool ny, .slice bo m capb] 34)).alloc (.cells #[.bool false, .slice none 0 0, .bool false, .slice none 0 0] 43) := ⟨_, rfl⟩
  have hbw : Below w.heap.size w w1 := by rw [hw1]; exact (((Below.refl _ _).alloc (Nat.le_refl _) _).alloc (by simp) _).alloc (by simp <;> omega) _
  have r0 : w1.heap[w.heap.size]? = some (.cells #[.bool nx, .slice ao n capa] 34 (0, 0)) := by rw [hw1, heap_alloc_old _ _ (by simp <;> omega), heap_alloc_old _ _ (by simp)]; exact heap_alloc_new w _
  have r1 : w1.heap[w.heap.size + 1]? = some (.cells #[.bool ny, .slice bo m capb] 34 (0, 0)) := by
    rw [hw1, heap_alloc_old _ _ (by simp)]
    have := heap_alloc_new (w.alloc (.cells #[.bool nx, .slice ao n capa] 34)) (.cells #[.bool ny, .slice bo m capb] 34)
    simpa using this
  have r2 : w1.heap[w.heap.size + 1 + 1]? = some (.cells #[.bool false, .slice none 0 0, .bool false, .slice none 0 0] 43 (0, 0)) := by
    rw [hw1]
    have := heap_alloc_new ((w.alloc (.cells #[.bool nx, .slice ao n capa] 34)).alloc (.cells #[.bool ny, .slice bo m capb] 34)) (.cells #[.bool false, .slice none 0 0, .bool false, .slice none 0 0] 43)
    simpa using this
  rw [← hw1]
  clear hw1
  obtain ⟨P, hP⟩ : ∃ P, P = w.heap.size := ⟨_, rfl⟩
  rw [← hP] at r0 r1 r2 ⊢
  have HP := Lib.hid hP
  have ST := Lib.hid (show RLowSt w P N D K w1 nx ao n capa xs ny bo m capb ys from ⟨r0, r1, r2, HX.out.below hbw, HY.out.below hbw, hn, hm, hbw⟩)
  clear r0 r1 r2 hbw hP HX HY
  obtain ⟨y0, y1, -, -⟩ := blk2 ST.out.r1
  go_upto_if 9 with (go_at_call 77; refine (rsign_any _ _ _ _ _ _ D ST.out.iy).mono ?_; rintro e w2 ⟨rfl, b2⟩; rw [HC.out])
  replace ST := Lib.hid (ST.out.below b2)
  clear b2 y0 y1
  obtain ⟨y0, y1, -, -⟩ := blk2 ST.out.r1
  go_upto_if 13 with (go_at_call 77; refine (rsign_any _ _ _ _ _ _ D ST.out.iy).mono ?_; rintro e w3 ⟨rfl, b3⟩; rw [HC.out])
  replace ST := Lib.hid (ST.out.below b3)
  clear b3 y0 y1
  go_cut [] (fun wx => RLowEx w P N' D' K wx)
  case first =>
    by_cases hneg : c < 0
    · obtain ⟨x0, x1, -, -⟩ := blk2 ST.out.r0
      obtain ⟨y0, y1, -, -⟩ := blk2 ST.out.r1
      go_wp2_with fail
      go_region_with (first | (go_at_call 79; have T := ub1; clear T; refine (rneg_any _ _ _ _ _ _ D ST1.out.iy).mono ?_; rintro e wv2 ⟨s2, a2, m2, k2, z2, rfl, i2, g2, ub2⟩; have ST2 := Lib.hid (ST1.out.below ub2); have I1 := Lib.hid (i1.below ub2); have I2 := Lib.hid i2; clear i1 i2 e0 e1 ub2 ub1; obtain ⟨t0, t1, tf0, tf1⟩ := blk2 ST2.out.r0; obtain ⟨u0, u1, uf0, uf1⟩ := blk2 ST2.out.r1) | (go_at_call 79; refine (rneg_any _ _ _ _ _ _ N ST.out.drew.ix).mono ?_; rintro e wv1 ⟨s1, a1, m1, k1, z1, rfl, i1, g1, ub1⟩; have ST1 := Lib.hid (ST.out.drew.below ub1); obtain ⟨e0, e1, -, -⟩ := blk2 ST1.out.r1))
      all_goals
        go_wp2_with fail
        go_meet
        have h0 := ST2.out.set0 HP.out I1.out (by have := ST.out.hn; omega)
        have h9 := h0.set1 HP.out (I2.out.stored ST2.out.r0 _ _) (by have := ST.out.hm; omega)
        have hneg' := HCD.out.1 hneg
        have e1 := HN'.out
        have e2 := HD'.out
        rw [if_pos hneg'] at e1 e2
        rw [e1, e2] at h9
        exact ⟨_, _, _, _, _, _, _, _, _, _, h9⟩
    · have HNEG := Lib.hid hneg
      go_wp2_with fail
      go_meet
      have hneg' : ¬ c < 0 := by have := HNEG.out; omega
      have e1 : N = N' := by rw [← HN'.out, if_neg (fun h => absurd (HCD.out.2 h) hneg')]
      have e2 : D = D' := by rw [← HD'.out, if_neg (fun h => absurd (HCD.out.2 h) hneg')]
      rw [← e1, ← e2]
      exact ⟨_, _, _, _, _, _, _, _, _, _, ST.out⟩
  case rest =>
    clear ST HCD HC HN' HD' hn hm
    obtain ⟨kx, ko, kn, kc, ks, jx, jo, jn, jc, js, hst⟩ := hcut
    have ST := Lib.hid hst
    clear hst
    obtain ⟨G, hG⟩ : ∃ G : Nat, Nat.gcd N'.natAbs D'.natAbs = G := ⟨_, rfl⟩
    rw [hG] at HQN HQD HG0
    have HG := Lib.hid hG
    clear hG
    obtain ⟨x0, x1, -, -⟩ := blk2 ST.out.r0
    obtain ⟨y0, y1, -, -⟩ := blk2 ST.out.r1
    go_wp2_with fail
    refine (rgcd_any _ _ _ _ _ _ _ _ _ _ _ N' D' ST.out.ix ST.out.iy K ST.out.hn ST.out.hm (by omega)).mono ?_
    rintro e wg ⟨sg, ag, mg, kg, zg, rfl, ig, gg, ub⟩
    rw [HG.out] at ig
    replace ST := Lib.hid (ST.out.below ub)
    have IG := Lib.hid ig
    clear ig ub x0 x1 y0 y1
    go_upto_region 6 with (fail)
    obtain ⟨wa, hwa⟩ : ∃ wa, wa = wg.alloc (.cells #[.bool sg, .slice ag mg kg] 34) := ⟨_, rfl⟩
    have ba : Below wg.heap.size wg wa := by rw [hwa]; go_grown
    have rc : wa.heap[wg.heap.size]? = some (.cells #[.bool sg, .slice ag mg kg] 34 (0, 0)) := by rw [hwa]; exact heap_alloc_new wg _
    have hQP : P + 1 + 1 < wg.heap.size := (Array.getElem?_eq_some_iff.1 ST.out.r2).1
    rw [← hwa]
    clear hwa
    obtain ⟨Q, hQ⟩ : ∃ Q, Q = wg.heap.size := ⟨_, rfl⟩
    rw [← hQ] at rc hQP ⊢
    replace ST := Lib.hid (ST.out.below ba)
    replace IG := Lib.hid (IG.out.below ba)
    have RQ := Lib.hid rc
    clear hQ ba rc
    have hG0 : (G : Int) ≠ 0 := by have := HG0.out; omega
    clear HG0
    obtain ⟨x0, x1, xf0, xf1⟩ := blk2 ST.out.r0
    obtain ⟨q0, q1, -, -⟩ := blk2 RQ.out
    go_wp2_with fail
    have hkn := ST.out.hn
    have hjn := ST.out.hm
    refine (rdivide_any _ _ _ _ _ _ _ _ _ _ _ N' (G : Int) ST.out.ix IG.out (by omega) (by omega) hG0).mono ?_
    rintro e w4 ⟨s6, a6, m6, k6, z6, s7, a7, m7, k7, z7, rfl, i6, -, g6, -, ub⟩
    replace ST := Lib.hid (ST.out.below ub)
    replace IG := Lib.hid (IG.out.below ub)
    replace RQ := Lib.hid ((ub.block _ (Array.getElem?_eq_some_iff.1 RQ.out).1).trans RQ.out)
    have S5 := Lib.hid (ST.out.set0 HP.out i6 (by omega))
    have IG5 := Lib.hid (IG.out.stored ST.out.r0 (.bool s6) (.slice a6 m6 k6))
    have RQ5 := Lib.hid (show ((w4.setCell ⟨P, 0, none⟩ (.bool s6)).setCell ⟨P, 1, none⟩ (.slice a6 m6 k6)).heap[Q]? = some (.cells #[.bool sg, .slice ag mg kg] 34 (0, 0)) by rw [Below.heap_setCell _ _ _ _ (by dsimp only; omega), Below.heap_setCell _ _ _ _ (by dsimp only; omega)]; exact RQ.out)
    clear x0 x1 xf0 xf1 q0 q1 i6 ub
    obtain ⟨x0, x1, xf0, xf1⟩ := blk2 ST.out.r0
    obtain ⟨y0, y1, -, -⟩ := blk2 S5.out.r1
    obtain ⟨q0, q1, -, -⟩ := blk2 RQ5.out
    go_wp2_with fail
    refine (rdivide_any _ _ _ _ _ _ _ _ _ _ _ D' (G : Int) S5.out.iy IG5.out (by omega) (by omega) hG0).mono ?_
    rintro e w6 ⟨s8, a8, m8, k8, z8, s9, a9, m9, k9, z9, rfl, i8, -, g8, -, ub⟩
    have S6 := Lib.hid (S5.out.below ub)
    have S7 := Lib.hid (S6.out.set1 HP.out i8 (by omega))
    clear x0 x1 xf0 xf1 y0 y1 q0 q1 i8 ub IG IG5 RQ RQ5 ST S5
    obtain ⟨y0, y1, yf0, yf1⟩ := blk2 S6.out.r1
    obtain ⟨a0, a1, -, -⟩ := blk2 S7.out.r0
    obtain ⟨b0, b1, -, -⟩ := blk2 S7.out.r1
    obtain ⟨p0, p1, p2, p3⟩ := blk4 S7.out.r2
    obtain ⟨pf0, pf1, pf2, pf3⟩ := blk4f S7.out.r2
    have HX := Lib.hid (rstored4 S7.out.ix S7.out.r2 (.bool s6) (.slice a6 m6 k6) (.bool s8) (.slice a8 m8 k8))
    have HY := Lib.hid (rstored4 S7.out.iy S7.out.r2 (.bool s6) (.slice a6 m6 k6) (.bool s8) (.slice a8 m8 k8))
    have HB := Lib.hid (below4 S7.out.hb (B := P + 1 + 1) (by have := HP.out; omega) (.bool s6) (.slice a6 m6 k6) (.bool s8) (.slice a8 m8 k8))
    go_wp2_with fail
    refine bodyPost_ret (v := .tuple #[.agg #[.bool s6, .slice a6 m6 k6, .bool s8, .slice a8 m8 k8], .int .i64 0]) (by simp [results, Tryz.results17, go_sem, p0, p1, p2, p3]) rfl ?_
    have HL := HLOW.out
    rw [HQN.out, HQD.out] at HL ⊢
    exact ⟨_, _, _, _, _, _, _, _, _, _, rfl, ⟨HX.out, HY.out, HL⟩, by omega, by omega, HB.out⟩

end Go.Proofs.YtdfepdhflnnjpaaGreat
