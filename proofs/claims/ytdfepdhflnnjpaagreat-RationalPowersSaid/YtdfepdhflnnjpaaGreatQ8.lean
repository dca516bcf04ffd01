/- Of of the statements on fractions. -/
import Derived.Test.YtdfepdhflnnjpaaGreatQ7
namespace Go.Proofs.YtdfepdhflnnjpaaGreat
open Go.RowKit
set_option autoImplicit false
set_option linter.unusedVariables false

theorem far4 {w : World} {B Q o : Nat} (h : Q ≠ B) (u1 u2 u3 u4 : Value) :
    ((((w.setCell ⟨B, 0, none⟩ u1).setCell ⟨B, 1, none⟩ u2).setCell ⟨B, 2, none⟩ u3).setCell ⟨B, 3, none⟩ u4).cell? ⟨Q, o, none⟩ = w.cell? ⟨Q, o, none⟩ := by
  unfold World.cell?
  dsimp only
  rw [Below.heap_setCell _ _ _ _ h, Below.heap_setCell _ _ _ _ h, Below.heap_setCell _ _ _ _ h, Below.heap_setCell _ _ _ _ h]
theorem cell_drew (w : World) (p : Addr) : w.drew.cell? p = w.cell? p := rfl
theorem heap4 {w : World} {B Q : Nat} (h : Q ≠ B) (u1 u2 u3 u4 : Value) :
    ((((w.setCell ⟨B, 0, none⟩ u1).setCell ⟨B, 1, none⟩ u2).setCell ⟨B, 2, none⟩ u3).setCell ⟨B, 3, none⟩ u4).heap[Q]? = w.heap[Q]? := by
  rw [Below.heap_setCell _ _ _ _ h, Below.heap_setCell _ _ _ _ h, Below.heap_setCell _ _ _ _ h, Below.heap_setCell _ _ _ _ h]

/-- The fraction of two numbers, and that of the reference. -/
def RetOfQ (w : World) (n d : Int) (K : Nat) (e : Ending) (w' : World) : Prop :=
  ∃ tn ta t tc zt bn ba b bc zb x qtn qta qt qtc qzt qbn qba qb qbc qzb, e = .returned (.tuple #[.agg #[.bool tn, .slice ta t tc, .bool bn, .slice ba b bc], .agg #[.bool qtn, .slice qta qt qtc, .bool qbn, .slice qba qb qbc]]) ∧
    RatAt w' tn ta t tc zt bn ba b bc zb n x d ∧ QAt w' qtn qta qt qtc qzt qbn qba qb qbc qzb n d ∧ t ≤ K ∧ b ≤ K ∧ qt ≤ K ∧ qb ≤ K ∧ Below w.heap.size w w'


set_option maxRecDepth 100000 in
set_option maxHeartbeats 4000000 in
theorem ofq_zero (w : World) (nn : Bool) (na : Option Addr) (nl nc : Nat) (nz : List Int) (dn : Bool) (da : Option Addr) (dl dc : Nat) (dz : List Int) (hx : Sl w na nl nc nz) (lx : Lim nz) (hy : Sl w da dl dc dz) (ly : Lim dz) (K : Nat) (h1 : nl ≤ K) (h2 : dl ≤ K) (hK : K ≤ 1000) (hD : sgn dn (val dz) = 0) :
    Calls Tryz.prog 18 #[.agg #[.bool nn, .slice na nl nc, .bool dn, .slice da dl dc]] w (RetOfQ w (sgn nn (val nz)) 1 (2 * K + 4)) := by
  have SX : Hid (∀ w1, Below w.heap.size w w1 → Sl w1 na nl nc nz) := Lib.hid (fun w1 hb => hx.below hb)
  have SY : Hid (∀ w1, Below w.heap.size w w1 → Sl w1 da dl dc dz) := Lib.hid (fun w1 hb => hy.below hb)
  obtain ⟨N, hN⟩ : ∃ N, sgn nn (val nz) = N := ⟨_, rfl⟩
  obtain ⟨D, hDD⟩ : ∃ D, sgn dn (val dz) = D := ⟨_, rfl⟩
  try rw [hN]
  try rw [hDD]
  rw [hDD] at hD
  have HN := Lib.hid hN
  have HDD := Lib.hid hDD
  have HD := Lib.hid hD
  have LX := Lib.hid lx
  have LY := Lib.hid ly
  clear hx hy hN hDD hD lx ly
  go_enter Tryz.func18, Tryz.ntmps18
  go_upto_region 1 with (fail)
  obtain ⟨w1, hw1⟩ : ∃ w1, w1 = ((w.alloc (.cells #[.bool nn, .slice na nl nc, .bool dn, .slice da dl dc] 26)).alloc (.cells #[.bool false, .slice none 0 0, .bool false, .slice none 0 0] 38)).alloc (.cells #[.bool false, .slice none 0 0, .bool false, .slice none 0 0] 43) := ⟨_, rfl⟩
  have hbw : Below w.heap.size w w1 := by rw [hw1]; exact (((Below.refl _ _).alloc (Nat.le_refl _) _).alloc (by simp) _).alloc (by simp <;> omega) _
  have r0 : w1.heap[w.heap.size]? = some (.cells #[.bool nn, .slice na nl nc, .bool dn, .slice da dl dc] 26 (0, 0)) := by rw [hw1, heap_alloc_old _ _ (by simp <;> omega), heap_alloc_old _ _ (by simp)]; exact heap_alloc_new w _
  have r1 : w1.heap[w.heap.size + 1]? = some (.cells #[.bool false, .slice none 0 0, .bool false, .slice none 0 0] 38 (0, 0)) := by
    rw [hw1, heap_alloc_old _ _ (by simp)]
    have := heap_alloc_new (w.alloc (.cells #[.bool nn, .slice na nl nc, .bool dn, .slice da dl dc] 26)) (.cells #[.bool false, .slice none 0 0, .bool false, .slice none 0 0] 38)
    simpa using this
  have r2 : w1.heap[w.heap.size + 1 + 1]? = some (.cells #[.bool false, .slice none 0 0, .bool false, .slice none 0 0] 43 (0, 0)) := by
    rw [hw1]
    have := heap_alloc_new ((w.alloc (.cells #[.bool nn, .slice na nl nc, .bool dn, .slice da dl dc] 26)).alloc (.cells #[.bool false, .slice none 0 0, .bool false, .slice none 0 0] 38)) (.cells #[.bool false, .slice none 0 0, .bool false, .slice none 0 0] 43)
    simpa using this
  rw [← hw1]
  clear hw1
  obtain ⟨P, hP⟩ : ∃ P, P = w.heap.size := ⟨_, rfl⟩
  rw [← hP] at r0 r1 r2 ⊢
  have HP := Lib.hid hP
  have R0 := Lib.hid r0
  have R1 := Lib.hid r1
  have R2 := Lib.hid r2
  have HW := Lib.hid hbw
  clear r0 r1 r2 hP hbw
  obtain ⟨x0, x1, x2, x3⟩ := blk4 R0.out
  go_wp2_with fail
  refine (of_any w1 nn na nl nc nz (SX.out _ HW.out) LX.out (by omega)).mono ?_
  rintro e w2 ⟨s1, a1, m1, k1, z1, s2, a2, m2, k2, z2, rfl, i1, g1, i2, g2, ub⟩
  rw [HN.out] at i1 i2
  replace R0 := Lib.hid ((ub.block _ (Array.getElem?_eq_some_iff.1 R0.out).1).trans R0.out)
  replace R1 := Lib.hid ((ub.block _ (Array.getElem?_eq_some_iff.1 R1.out).1).trans R1.out)
  replace R2 := Lib.hid ((ub.block _ (Array.getElem?_eq_some_iff.1 R2.out).1).trans R2.out)
  replace HW := Lib.hid (HW.out.trans (ub.mono HW.out.size))
  have IA := Lib.hid i1
  have IU := Lib.hid i2
  clear i1 i2 ub x0 x1 x2 x3
  go_upto_region 2 with (fail)
  obtain ⟨w3, hw3⟩ : ∃ w3, w3 = (w2.alloc (.cells #[.bool s1, .slice a1 m1 k1] 31)).alloc (.cells #[.bool s2, .slice a2 m2 k2] 34) := ⟨_, rfl⟩
  have ub : Below w2.heap.size w2 w3 := by rw [hw3]; go_grown
  have ra : w3.heap[w2.heap.size]? = some (.cells #[.bool s1, .slice a1 m1 k1] 31 (0, 0)) := by rw [hw3]; exact (heap_alloc2 w2 _ _).2
  have ru : w3.heap[w2.heap.size + 1]? = some (.cells #[.bool s2, .slice a2 m2 k2] 34 (0, 0)) := by rw [hw3]; exact (heap_alloc2 w2 _ _).1
  rw [← hw3]
  clear hw3
  obtain ⟨A, hA⟩ : ∃ A, A = w2.heap.size := ⟨_, rfl⟩
  rw [← hA] at ra ru ⊢
  have hPA : P + 1 + 1 < A := by rw [hA]; exact (Array.getElem?_eq_some_iff.1 R2.out).1
  replace R0 := Lib.hid ((ub.block _ (Array.getElem?_eq_some_iff.1 R0.out).1).trans R0.out)
  replace R1 := Lib.hid ((ub.block _ (Array.getElem?_eq_some_iff.1 R1.out).1).trans R1.out)
  replace R2 := Lib.hid ((ub.block _ (Array.getElem?_eq_some_iff.1 R2.out).1).trans R2.out)
  replace IA := Lib.hid (IA.out.below ub)
  replace IU := Lib.hid (IU.out.below ub)
  replace HW := Lib.hid (HW.out.trans (ub.mono HW.out.size))
  have RA := Lib.hid ra
  have RU := Lib.hid ru
  clear ub ra ru hA
  obtain ⟨x0, x1, x2, x3⟩ := blk4 R0.out
  go_wp2_with fail
  refine (of_any w3 dn da dl dc dz (SY.out _ HW.out) LY.out (by omega)).mono ?_
  rintro e w4 ⟨s3, a3, m3, k3, z3, s4, a4, m4, k4, z4, rfl, i3, g3, i4, g4, ub⟩
  rw [HDD.out] at i3 i4
  replace R0 := Lib.hid ((ub.block _ (Array.getElem?_eq_some_iff.1 R0.out).1).trans R0.out)
  replace R1 := Lib.hid ((ub.block _ (Array.getElem?_eq_some_iff.1 R1.out).1).trans R1.out)
  replace R2 := Lib.hid ((ub.block _ (Array.getElem?_eq_some_iff.1 R2.out).1).trans R2.out)
  replace RA := Lib.hid ((ub.block _ (Array.getElem?_eq_some_iff.1 RA.out).1).trans RA.out)
  replace RU := Lib.hid ((ub.block _ (Array.getElem?_eq_some_iff.1 RU.out).1).trans RU.out)
  replace IA := Lib.hid (IA.out.below ub)
  replace IU := Lib.hid (IU.out.below ub)
  replace HW := Lib.hid (HW.out.trans (ub.mono HW.out.size))
  have IB := Lib.hid i3
  have IV := Lib.hid i4
  clear i3 i4 ub x0 x1 x2 x3
  go_upto_region 3 with (fail)
  obtain ⟨w5, hw5⟩ : ∃ w5, w5 = (w4.alloc (.cells #[.bool s3, .slice a3 m3 k3] 31)).alloc (.cells #[.bool s4, .slice a4 m4 k4] 34) := ⟨_, rfl⟩
  have ub : Below w4.heap.size w4 w5 := by rw [hw5]; go_grown
  have ra : w5.heap[w4.heap.size]? = some (.cells #[.bool s3, .slice a3 m3 k3] 31 (0, 0)) := by rw [hw5]; exact (heap_alloc2 w4 _ _).2
  have ru : w5.heap[w4.heap.size + 1]? = some (.cells #[.bool s4, .slice a4 m4 k4] 34 (0, 0)) := by rw [hw5]; exact (heap_alloc2 w4 _ _).1
  rw [← hw5]
  clear hw5
  obtain ⟨B, hB⟩ : ∃ B, B = w4.heap.size := ⟨_, rfl⟩
  rw [← hB] at ra ru ⊢
  replace R0 := Lib.hid ((ub.block _ (Array.getElem?_eq_some_iff.1 R0.out).1).trans R0.out)
  replace R1 := Lib.hid ((ub.block _ (Array.getElem?_eq_some_iff.1 R1.out).1).trans R1.out)
  replace R2 := Lib.hid ((ub.block _ (Array.getElem?_eq_some_iff.1 R2.out).1).trans R2.out)
  replace RA := Lib.hid ((ub.block _ (Array.getElem?_eq_some_iff.1 RA.out).1).trans RA.out)
  replace RU := Lib.hid ((ub.block _ (Array.getElem?_eq_some_iff.1 RU.out).1).trans RU.out)
  replace IA := Lib.hid (IA.out.below ub)
  replace IU := Lib.hid (IU.out.below ub)
  replace IB := Lib.hid (IB.out.below ub)
  replace IV := Lib.hid (IV.out.below ub)
  replace HW := Lib.hid (HW.out.trans (ub.mono HW.out.size))
  have RB := Lib.hid ra
  have RV := Lib.hid ru
  clear ub ra ru hB SX SY HN HDD LX LY
  obtain ⟨v0, v1, -, -⟩ := blk2 RV.out
  go_upto_if 26 with (go_at_call 77; refine (rsign_any _ _ _ _ _ _ D IV.out).mono ?_; rintro e w6 ⟨rfl, ub⟩; rw [cmpI_eq HD.out])
  replace R0 := Lib.hid ((ub.block _ (Array.getElem?_eq_some_iff.1 R0.out).1).trans R0.out)
  replace R1 := Lib.hid ((ub.block _ (Array.getElem?_eq_some_iff.1 R1.out).1).trans R1.out)
  replace R2 := Lib.hid ((ub.block _ (Array.getElem?_eq_some_iff.1 R2.out).1).trans R2.out)
  replace RA := Lib.hid ((ub.block _ (Array.getElem?_eq_some_iff.1 RA.out).1).trans RA.out)
  replace RU := Lib.hid ((ub.block _ (Array.getElem?_eq_some_iff.1 RU.out).1).trans RU.out)
  replace IA := Lib.hid (IA.out.below ub)
  replace IU := Lib.hid (IU.out.below ub)
  replace HW := Lib.hid (HW.out.trans (ub.mono HW.out.size))
  clear ub v0 v1 RB RV IB IV
  go_wp2_with fail
  have HKS : Hid (∀ w', Below w6.heap.size w6 w' → w'.cell? ⟨A, 0, none⟩ = some (.bool s1) ∧ w'.cell? ⟨A, 1, none⟩ = some (.slice a1 m1 k1) ∧ w'.cell? ⟨A + 1, 0, none⟩ = some (.bool s2) ∧ w'.cell? ⟨A + 1, 1, none⟩ = some (.slice a2 m2 k2)) := Lib.hid (fun w' hb => by
    obtain ⟨c0, c1, -, -⟩ := blk2 RA.out
    obtain ⟨d0, d1, -, -⟩ := blk2 RU.out
    exact ⟨(hb.cell (p := ⟨A, 0, none⟩) (Array.getElem?_eq_some_iff.1 RA.out).1).trans c0, (hb.cell (p := ⟨A, 1, none⟩) (Array.getElem?_eq_some_iff.1 RA.out).1).trans c1, (hb.cell (p := ⟨A + 1, 0, none⟩) (Array.getElem?_eq_some_iff.1 RU.out).1).trans d0, (hb.cell (p := ⟨A + 1, 1, none⟩) (Array.getElem?_eq_some_iff.1 RU.out).1).trans d1⟩)
  go_region_held3 (fun w' => w'.cell? ⟨A, 0, none⟩ = some (.bool s1) ∧ w'.cell? ⟨A, 1, none⟩ = some (.slice a1 m1 k1) ∧ w'.cell? ⟨A + 1, 0, none⟩ = some (.bool s2) ∧ w'.cell? ⟨A + 1, 1, none⟩ = some (.slice a2 m2 k2)) ((first | (obtain ⟨cc0, cc1, cc2, cc3⟩ := HKS.out _ X2; refine ⟨?_, ?_, ?_, ?_⟩ <;> (rw [far4, far4] <;> first | assumption | omega)) | (obtain ⟨cc0, cc1, cc2, cc3⟩ := HKS.out _ X2; refine ⟨?_, ?_, ?_, ?_⟩ <;> (rw [far4] <;> first | assumption | omega)) | exact HKS.out _ X2 | exact HKS.out _ X1 | exact HKS.out _ (Below.refl _ _).drew))
    (first | (go_at_call 21; have T2 := X1; clear T2; refine (rof_any _ _ _ _ _ _ N (IU.out.below X1)).mono ?_; rintro e v2 ⟨qtn, qta, qt, qtc, qzt, qbn, qba, qb, qbc, qzb, rfl, iq, gq1, gq2, u2⟩; have X2 : Below w6.heap.size w6 v2 := X1.trans (u2.mono X1.size); have HQ := Lib.hid iq; replace HR := Lib.hid (HR.out.below u2); clear iq; have rr1 := (X2.block _ (Array.getElem?_eq_some_iff.1 R1.out).1).trans R1.out; have rr2 := (X2.block _ (Array.getElem?_eq_some_iff.1 R2.out).1).trans R2.out; obtain ⟨p0, p1, p2, p3⟩ := blk4 rr1; obtain ⟨pf0, pf1, pf2, pf3⟩ := blk4f rr1; obtain ⟨q0, q1, q2, q3⟩ := blk4 rr2; obtain ⟨qf0, qf1, qf2, qf3⟩ := blk4f rr2; have RR1 := Lib.hid rr1; have RR2 := Lib.hid rr2; clear rr1 rr2) | (go_at_call 20; refine (qof_any _ _ _ _ _ _ N (IA.out.below (Below.refl _ _).drew)).mono ?_; rintro e v1 ⟨tn, ta, t, tc, zt, bn, ba, b, bc, zb, x, rfl, ir, gr1, gr2, u1⟩; have X1 : Below w6.heap.size w6 v1 := (Below.refl _ _).drew.trans u1; have HR := Lib.hid ir; clear ir))
  replace HW := Lib.hid (HW.out.trans (X2.mono HW.out.size))

  have h9 := rat_stored HR.out RR1.out (.bool tn) (.slice ta t tc) (.bool bn) (.slice ba b bc)
  have k9 := q_stored HQ.out RR1.out (.bool tn) (.slice ta t tc) (.bool bn) (.slice ba b bc)
  have r9 := (heap4 (w := v2) (show P + 1 + 1 ≠ P + 1 by omega) (.bool tn) (.slice ta t tc) (.bool bn) (.slice ba b bc)).trans RR2.out
  have HR9 := Lib.hid (rat_stored h9 r9 (.bool qtn) (.slice qta qt qtc) (.bool qbn) (.slice qba qb qbc))
  have HQ9 := Lib.hid (q_stored k9 r9 (.bool qtn) (.slice qta qt qtc) (.bool qbn) (.slice qba qb qbc))
  have HB9 := Lib.hid (below4 (below4 HW.out (B := P + 1) (by have := HP.out; omega) (.bool tn) (.slice ta t tc) (.bool bn) (.slice ba b bc)) (B := P + 1 + 1) (by have := HP.out; omega) (.bool qtn) (.slice qta qt qtc) (.bool qbn) (.slice qba qb qbc))
  clear h9 k9 r9
  go_wp2_with fail
  refine bodyPost_ret (v := .tuple #[.agg #[.bool tn, .slice ta t tc, .bool bn, .slice ba b bc], .agg #[.bool qtn, .slice qta qt qtc, .bool qbn, .slice qba qb qbc]]) (by simp [results, Tryz.results18, go_sem, p0, p1, p2, p3, q0, q1, q2, q3]) rfl ?_
  exact ⟨_, _, _, _, _, _, _, _, _, _, _, _, _, _, _, _, _, _, _, _, _, rfl, HR9.out, HQ9.out, by omega, by omega, by omega, by omega, HB9.out⟩


set_option maxRecDepth 100000 in
set_option maxHeartbeats 4000000 in
theorem ofq_pos (w : World) (nn : Bool) (na : Option Addr) (nl nc : Nat) (nz : List Int) (dn : Bool) (da : Option Addr) (dl dc : Nat) (dz : List Int) (hx : Sl w na nl nc nz) (lx : Lim nz) (hy : Sl w da dl dc dz) (ly : Lim dz) (K : Nat) (h1 : nl ≤ K) (h2 : dl ≤ K) (hK : K ≤ 1000) (hD : sgn dn (val dz) ≠ 0) :
    Calls Tryz.prog 18 #[.agg #[.bool nn, .slice na nl nc, .bool dn, .slice da dl dc]] w (RetOfQ w (qn (sgn nn (val nz)) (sgn dn (val dz))) (qd (sgn nn (val nz)) (sgn dn (val dz))) (2 * K + 4)) := by
  have SX : Hid (∀ w1, Below w.heap.size w w1 → Sl w1 na nl nc nz) := Lib.hid (fun w1 hb => hx.below hb)
  have SY : Hid (∀ w1, Below w.heap.size w w1 → Sl w1 da dl dc dz) := Lib.hid (fun w1 hb => hy.below hb)
  obtain ⟨N, hN⟩ : ∃ N, sgn nn (val nz) = N := ⟨_, rfl⟩
  obtain ⟨D, hDD⟩ : ∃ D, sgn dn (val dz) = D := ⟨_, rfl⟩
  try rw [hN]
  try rw [hDD]
  rw [hDD] at hD
  have HN := Lib.hid hN
  have HDD := Lib.hid hDD
  have HD := Lib.hid hD
  have LX := Lib.hid lx
  have LY := Lib.hid ly
  clear hx hy hN hDD hD lx ly
  go_enter Tryz.func18, Tryz.ntmps18
  go_upto_region 1 with (fail)
  obtain ⟨w1, hw1⟩ : ∃ w1, w1 = ((w.alloc (.cells #[.bool nn, .slice na nl nc, .bool dn, .slice da dl dc] 26)).alloc (.cells #[.bool false, .slice none 0 0, .bool false, .slice none 0 0] 38)).alloc (.cells #[.bool false, .slice none 0 0, .bool false, .slice none 0 0] 43) := ⟨_, rfl⟩
  have hbw : Below w.heap.size w w1 := by rw [hw1]; exact (((Below.refl _ _).alloc (Nat.le_refl _) _).alloc (by simp) _).alloc (by simp <;> omega) _
  have r0 : w1.heap[w.heap.size]? = some (.cells #[.bool nn, .slice na nl nc, .bool dn, .slice da dl dc] 26 (0, 0)) := by rw [hw1, heap_alloc_old _ _ (by simp <;> omega), heap_alloc_old _ _ (by simp)]; exact heap_alloc_new w _
  have r1 : w1.heap[w.heap.size + 1]? = some (.cells #[.bool false, .slice none 0 0, .bool false, .slice none 0 0] 38 (0, 0)) := by
    rw [hw1, heap_alloc_old _ _ (by simp)]
    have := heap_alloc_new (w.alloc (.cells #[.bool nn, .slice na nl nc, .bool dn, .slice da dl dc] 26)) (.cells #[.bool false, .slice none 0 0, .bool false, .slice none 0 0] 38)
    simpa using this
  have r2 : w1.heap[w.heap.size + 1 + 1]? = some (.cells #[.bool false, .slice none 0 0, .bool false, .slice none 0 0] 43 (0, 0)) := by
    rw [hw1]
    have := heap_alloc_new ((w.alloc (.cells #[.bool nn, .slice na nl nc, .bool dn, .slice da dl dc] 26)).alloc (.cells #[.bool false, .slice none 0 0, .bool false, .slice none 0 0] 38)) (.cells #[.bool false, .slice none 0 0, .bool false, .slice none 0 0] 43)
    simpa using this
  rw [← hw1]
  clear hw1
  obtain ⟨P, hP⟩ : ∃ P, P = w.heap.size := ⟨_, rfl⟩
  rw [← hP] at r0 r1 r2 ⊢
  have HP := Lib.hid hP
  have R0 := Lib.hid r0
  have R1 := Lib.hid r1
  have R2 := Lib.hid r2
  have HW := Lib.hid hbw
  clear r0 r1 r2 hP hbw
  obtain ⟨x0, x1, x2, x3⟩ := blk4 R0.out
  go_wp2_with fail
  refine (of_any w1 nn na nl nc nz (SX.out _ HW.out) LX.out (by omega)).mono ?_
  rintro e w2 ⟨s1, a1, m1, k1, z1, s2, a2, m2, k2, z2, rfl, i1, g1, i2, g2, ub⟩
  rw [HN.out] at i1 i2
  replace R0 := Lib.hid ((ub.block _ (Array.getElem?_eq_some_iff.1 R0.out).1).trans R0.out)
  replace R1 := Lib.hid ((ub.block _ (Array.getElem?_eq_some_iff.1 R1.out).1).trans R1.out)
  replace R2 := Lib.hid ((ub.block _ (Array.getElem?_eq_some_iff.1 R2.out).1).trans R2.out)
  replace HW := Lib.hid (HW.out.trans (ub.mono HW.out.size))
  have IA := Lib.hid i1
  have IU := Lib.hid i2
  clear i1 i2 ub x0 x1 x2 x3
  go_upto_region 2 with (fail)
  obtain ⟨w3, hw3⟩ : ∃ w3, w3 = (w2.alloc (.cells #[.bool s1, .slice a1 m1 k1] 31)).alloc (.cells #[.bool s2, .slice a2 m2 k2] 34) := ⟨_, rfl⟩
  have ub : Below w2.heap.size w2 w3 := by rw [hw3]; go_grown
  have ra : w3.heap[w2.heap.size]? = some (.cells #[.bool s1, .slice a1 m1 k1] 31 (0, 0)) := by rw [hw3]; exact (heap_alloc2 w2 _ _).2
  have ru : w3.heap[w2.heap.size + 1]? = some (.cells #[.bool s2, .slice a2 m2 k2] 34 (0, 0)) := by rw [hw3]; exact (heap_alloc2 w2 _ _).1
  rw [← hw3]
  clear hw3
  obtain ⟨A, hA⟩ : ∃ A, A = w2.heap.size := ⟨_, rfl⟩
  rw [← hA] at ra ru ⊢
  have hPA : P + 1 + 1 < A := by rw [hA]; exact (Array.getElem?_eq_some_iff.1 R2.out).1
  replace R0 := Lib.hid ((ub.block _ (Array.getElem?_eq_some_iff.1 R0.out).1).trans R0.out)
  replace R1 := Lib.hid ((ub.block _ (Array.getElem?_eq_some_iff.1 R1.out).1).trans R1.out)
  replace R2 := Lib.hid ((ub.block _ (Array.getElem?_eq_some_iff.1 R2.out).1).trans R2.out)
  replace IA := Lib.hid (IA.out.below ub)
  replace IU := Lib.hid (IU.out.below ub)
  replace HW := Lib.hid (HW.out.trans (ub.mono HW.out.size))
  have RA := Lib.hid ra
  have RU := Lib.hid ru
  clear ub ra ru hA
  obtain ⟨x0, x1, x2, x3⟩ := blk4 R0.out
  go_wp2_with fail
  refine (of_any w3 dn da dl dc dz (SY.out _ HW.out) LY.out (by omega)).mono ?_
  rintro e w4 ⟨s3, a3, m3, k3, z3, s4, a4, m4, k4, z4, rfl, i3, g3, i4, g4, ub⟩
  rw [HDD.out] at i3 i4
  replace R0 := Lib.hid ((ub.block _ (Array.getElem?_eq_some_iff.1 R0.out).1).trans R0.out)
  replace R1 := Lib.hid ((ub.block _ (Array.getElem?_eq_some_iff.1 R1.out).1).trans R1.out)
  replace R2 := Lib.hid ((ub.block _ (Array.getElem?_eq_some_iff.1 R2.out).1).trans R2.out)
  replace RA := Lib.hid ((ub.block _ (Array.getElem?_eq_some_iff.1 RA.out).1).trans RA.out)
  replace RU := Lib.hid ((ub.block _ (Array.getElem?_eq_some_iff.1 RU.out).1).trans RU.out)
  replace IA := Lib.hid (IA.out.below ub)
  replace IU := Lib.hid (IU.out.below ub)
  replace HW := Lib.hid (HW.out.trans (ub.mono HW.out.size))
  have IB := Lib.hid i3
  have IV := Lib.hid i4
  clear i3 i4 ub x0 x1 x2 x3
  go_upto_region 3 with (fail)
  obtain ⟨w5, hw5⟩ : ∃ w5, w5 = (w4.alloc (.cells #[.bool s3, .slice a3 m3 k3] 31)).alloc (.cells #[.bool s4, .slice a4 m4 k4] 34) := ⟨_, rfl⟩
  have ub : Below w4.heap.size w4 w5 := by rw [hw5]; go_grown
  have ra : w5.heap[w4.heap.size]? = some (.cells #[.bool s3, .slice a3 m3 k3] 31 (0, 0)) := by rw [hw5]; exact (heap_alloc2 w4 _ _).2
  have ru : w5.heap[w4.heap.size + 1]? = some (.cells #[.bool s4, .slice a4 m4 k4] 34 (0, 0)) := by rw [hw5]; exact (heap_alloc2 w4 _ _).1
  rw [← hw5]
  clear hw5
  obtain ⟨B, hB⟩ : ∃ B, B = w4.heap.size := ⟨_, rfl⟩
  rw [← hB] at ra ru ⊢
  replace R0 := Lib.hid ((ub.block _ (Array.getElem?_eq_some_iff.1 R0.out).1).trans R0.out)
  replace R1 := Lib.hid ((ub.block _ (Array.getElem?_eq_some_iff.1 R1.out).1).trans R1.out)
  replace R2 := Lib.hid ((ub.block _ (Array.getElem?_eq_some_iff.1 R2.out).1).trans R2.out)
  replace RA := Lib.hid ((ub.block _ (Array.getElem?_eq_some_iff.1 RA.out).1).trans RA.out)
  replace RU := Lib.hid ((ub.block _ (Array.getElem?_eq_some_iff.1 RU.out).1).trans RU.out)
  replace IA := Lib.hid (IA.out.below ub)
  replace IU := Lib.hid (IU.out.below ub)
  replace IB := Lib.hid (IB.out.below ub)
  replace IV := Lib.hid (IV.out.below ub)
  replace HW := Lib.hid (HW.out.trans (ub.mono HW.out.size))
  have RB := Lib.hid ra
  have RV := Lib.hid ru
  clear ub ra ru hB SX SY HN HDD LX LY
  obtain ⟨v0, v1, -, -⟩ := blk2 RV.out
  obtain ⟨c, hc⟩ : ∃ c, cmpI D 0 = c := ⟨_, rfl⟩
  have hcz : (c == 0) = false := by rw [← hc]; have := HD.out; unfold cmpI; by_cases a1 : D < 0 <;> by_cases a2 : 0 < D <;> simp [a1, a2] <;> omega
  go_upto_if 26 with (go_at_call 77; refine (rsign_any _ _ _ _ _ _ D IV.out).mono ?_; rintro e w6 ⟨rfl, ub⟩; rw [hc])
  replace R0 := Lib.hid ((ub.block _ (Array.getElem?_eq_some_iff.1 R0.out).1).trans R0.out)
  replace R1 := Lib.hid ((ub.block _ (Array.getElem?_eq_some_iff.1 R1.out).1).trans R1.out)
  replace R2 := Lib.hid ((ub.block _ (Array.getElem?_eq_some_iff.1 R2.out).1).trans R2.out)
  replace RA := Lib.hid ((ub.block _ (Array.getElem?_eq_some_iff.1 RA.out).1).trans RA.out)
  replace RU := Lib.hid ((ub.block _ (Array.getElem?_eq_some_iff.1 RU.out).1).trans RU.out)
  replace RB := Lib.hid ((ub.block _ (Array.getElem?_eq_some_iff.1 RB.out).1).trans RB.out)
  replace RV := Lib.hid ((ub.block _ (Array.getElem?_eq_some_iff.1 RV.out).1).trans RV.out)
  replace IA := Lib.hid (IA.out.below ub)
  replace IU := Lib.hid (IU.out.below ub)
  replace IB := Lib.hid (IB.out.below ub)
  replace IV := Lib.hid (IV.out.below ub)
  replace HW := Lib.hid (HW.out.trans (ub.mono HW.out.size))
  clear ub v0 v1 hc
  obtain ⟨c0, c1, -, -⟩ := blk2 RA.out
  obtain ⟨d0, d1, -, -⟩ := blk2 RB.out
  have hnew := newq_any w6 _ _ _ _ _ _ _ _ _ _ N D IA.out IB.out K (by omega) (by omega) (by omega)
  rw [if_neg HD.out, if_neg HD.out, if_neg HD.out] at hnew
  have HNEW := Lib.hid hnew
  clear hnew
  go_wp2_with fail
  refine HNEW.out.mono ?_
  rintro e w7 ⟨tn, ta, t, tc, zt, bn, ba, b, bc, zb, x, rfl, ir, gr1, gr2, ub⟩
  replace R0 := Lib.hid ((ub.block _ (Array.getElem?_eq_some_iff.1 R0.out).1).trans R0.out)
  replace R1 := Lib.hid ((ub.block _ (Array.getElem?_eq_some_iff.1 R1.out).1).trans R1.out)
  replace R2 := Lib.hid ((ub.block _ (Array.getElem?_eq_some_iff.1 R2.out).1).trans R2.out)
  replace RU := Lib.hid ((ub.block _ (Array.getElem?_eq_some_iff.1 RU.out).1).trans RU.out)
  replace RV := Lib.hid ((ub.block _ (Array.getElem?_eq_some_iff.1 RV.out).1).trans RV.out)
  replace IU := Lib.hid (IU.out.below ub)
  replace IV := Lib.hid (IV.out.below ub)
  replace HW := Lib.hid (HW.out.trans (ub.mono HW.out.size))
  have HR := Lib.hid ir
  clear ir ub c0 c1 d0 d1 RA RB IA IB HNEW
  go_upto_region 6 with (fail)
  obtain ⟨w8, hw8⟩ : ∃ w8, w8 = w7.alloc (.cells #[.bool tn, .slice ta t tc, .bool bn, .slice ba b bc] 38) := ⟨_, rfl⟩
  have ub : Below w7.heap.size w7 w8 := by rw [hw8]; go_grown
  have rc : w8.heap[w7.heap.size]? = some (.cells #[.bool tn, .slice ta t tc, .bool bn, .slice ba b bc] 38 (0, 0)) := by rw [hw8]; exact heap_alloc_new w7 _
  rw [← hw8]
  clear hw8
  obtain ⟨C, hC⟩ : ∃ C, C = w7.heap.size := ⟨_, rfl⟩
  rw [← hC] at rc ⊢
  have hPC : P + 1 + 1 < C := by rw [hC]; exact (Array.getElem?_eq_some_iff.1 R2.out).1
  replace R0 := Lib.hid ((ub.block _ (Array.getElem?_eq_some_iff.1 R0.out).1).trans R0.out)
  replace R1 := Lib.hid ((ub.block _ (Array.getElem?_eq_some_iff.1 R1.out).1).trans R1.out)
  replace R2 := Lib.hid ((ub.block _ (Array.getElem?_eq_some_iff.1 R2.out).1).trans R2.out)
  replace RU := Lib.hid ((ub.block _ (Array.getElem?_eq_some_iff.1 RU.out).1).trans RU.out)
  replace RV := Lib.hid ((ub.block _ (Array.getElem?_eq_some_iff.1 RV.out).1).trans RV.out)
  replace IU := Lib.hid (IU.out.below ub)
  replace IV := Lib.hid (IV.out.below ub)
  replace HR := Lib.hid (HR.out.below ub)
  replace HW := Lib.hid (HW.out.trans (ub.mono HW.out.size))
  have RC := Lib.hid rc
  clear rc ub hC
  obtain ⟨c0, c1, -, -⟩ := blk2 RU.out
  obtain ⟨d0, d1, -, -⟩ := blk2 RV.out
  go_wp2_with fail
  refine (rnewq_any w8 _ _ _ _ _ _ _ _ _ _ N D IU.out IV.out HD.out (2 * K) (by omega) (by omega) (by omega)).mono ?_
  rintro e w9 ⟨qtn, qta, qt, qtc, qzt, qbn, qba, qb, qbc, qzb, rfl, iq, gq1, gq2, ub⟩
  replace R0 := Lib.hid ((ub.block _ (Array.getElem?_eq_some_iff.1 R0.out).1).trans R0.out)
  replace R1 := Lib.hid ((ub.block _ (Array.getElem?_eq_some_iff.1 R1.out).1).trans R1.out)
  replace R2 := Lib.hid ((ub.block _ (Array.getElem?_eq_some_iff.1 R2.out).1).trans R2.out)
  replace RC := Lib.hid ((ub.block _ (Array.getElem?_eq_some_iff.1 RC.out).1).trans RC.out)
  replace HR := Lib.hid (HR.out.below ub)
  replace HW := Lib.hid (HW.out.trans (ub.mono HW.out.size))
  have HQ := Lib.hid iq
  clear iq ub c0 c1 d0 d1 RU RV IU IV
  go_upto_region 7 with (fail)
  obtain ⟨wa, hwa⟩ : ∃ wa, wa = w9.alloc (.cells #[.bool qtn, .slice qta qt qtc, .bool qbn, .slice qba qb qbc] 43) := ⟨_, rfl⟩
  have ub : Below w9.heap.size w9 wa := by rw [hwa]; go_grown
  have rc : wa.heap[w9.heap.size]? = some (.cells #[.bool qtn, .slice qta qt qtc, .bool qbn, .slice qba qb qbc] 43 (0, 0)) := by rw [hwa]; exact heap_alloc_new w9 _
  rw [← hwa]
  clear hwa
  obtain ⟨E, hE⟩ : ∃ E, E = w9.heap.size := ⟨_, rfl⟩
  rw [← hE] at rc ⊢
  have hPE : P + 1 + 1 < E := by rw [hE]; exact (Array.getElem?_eq_some_iff.1 R2.out).1
  replace R0 := Lib.hid ((ub.block _ (Array.getElem?_eq_some_iff.1 R0.out).1).trans R0.out)
  replace R1 := Lib.hid ((ub.block _ (Array.getElem?_eq_some_iff.1 R1.out).1).trans R1.out)
  replace R2 := Lib.hid ((ub.block _ (Array.getElem?_eq_some_iff.1 R2.out).1).trans R2.out)
  replace RC := Lib.hid ((ub.block _ (Array.getElem?_eq_some_iff.1 RC.out).1).trans RC.out)
  replace HR := Lib.hid (HR.out.below ub)
  replace HQ := Lib.hid (HQ.out.below ub)
  replace HW := Lib.hid (HW.out.trans (ub.mono HW.out.size))
  have RE := Lib.hid rc
  clear rc ub hE
  have HKS : Hid (∀ w', Below wa.heap.size wa w' → w'.cell? ⟨C, 0, none⟩ = some (.bool tn) ∧ w'.cell? ⟨C, 1, none⟩ = some (.slice ta t tc) ∧ w'.cell? ⟨C, 2, none⟩ = some (.bool bn) ∧ w'.cell? ⟨C, 3, none⟩ = some (.slice ba b bc) ∧ w'.cell? ⟨E, 0, none⟩ = some (.bool qtn) ∧ w'.cell? ⟨E, 1, none⟩ = some (.slice qta qt qtc) ∧ w'.cell? ⟨E, 2, none⟩ = some (.bool qbn) ∧ w'.cell? ⟨E, 3, none⟩ = some (.slice qba qb qbc)) := Lib.hid (fun w' hb => by
    obtain ⟨c0, c1, c2, c3⟩ := blk4 RC.out
    obtain ⟨d0, d1, d2, d3⟩ := blk4 RE.out
    have lc := (Array.getElem?_eq_some_iff.1 RC.out).1
    have le := (Array.getElem?_eq_some_iff.1 RE.out).1
    exact ⟨(hb.cell (p := ⟨C, 0, none⟩) lc).trans c0, (hb.cell (p := ⟨C, 1, none⟩) lc).trans c1, (hb.cell (p := ⟨C, 2, none⟩) lc).trans c2, (hb.cell (p := ⟨C, 3, none⟩) lc).trans c3, (hb.cell (p := ⟨E, 0, none⟩) le).trans d0, (hb.cell (p := ⟨E, 1, none⟩) le).trans d1, (hb.cell (p := ⟨E, 2, none⟩) le).trans d2, (hb.cell (p := ⟨E, 3, none⟩) le).trans d3⟩)
  obtain ⟨p0, p1, p2, p3⟩ := blk4 R1.out
  obtain ⟨pf0, pf1, pf2, pf3⟩ := blk4f R1.out
  obtain ⟨q0, q1, q2, q3⟩ := blk4 R2.out
  obtain ⟨qf0, qf1, qf2, qf3⟩ := blk4f R2.out
  go_region_held3 (fun w' => w'.cell? ⟨C, 0, none⟩ = some (.bool tn) ∧ w'.cell? ⟨C, 1, none⟩ = some (.slice ta t tc) ∧ w'.cell? ⟨C, 2, none⟩ = some (.bool bn) ∧ w'.cell? ⟨C, 3, none⟩ = some (.slice ba b bc) ∧ w'.cell? ⟨E, 0, none⟩ = some (.bool qtn) ∧ w'.cell? ⟨E, 1, none⟩ = some (.slice qta qt qtc) ∧ w'.cell? ⟨E, 2, none⟩ = some (.bool qbn) ∧ w'.cell? ⟨E, 3, none⟩ = some (.slice qba qb qbc)) ((first | (obtain ⟨cc0, cc1, cc2, cc3, cc4, cc5, cc6, cc7⟩ := HKS.out _ (Below.refl _ _); refine ⟨?_, ?_, ?_, ?_, ?_, ?_, ?_, ?_⟩ <;> (rw [cell_drew, far4, far4] <;> first | assumption | omega)) | (obtain ⟨cc0, cc1, cc2, cc3, cc4, cc5, cc6, cc7⟩ := HKS.out _ (Below.refl _ _); refine ⟨?_, ?_, ?_, ?_, ?_, ?_, ?_, ?_⟩ <;> (rw [cell_drew, far4] <;> first | assumption | omega)) | exact HKS.out _ (Below.refl _ _).drew))
    (fail)

  have h9 := rat_stored HR.out R1.out (.bool tn) (.slice ta t tc) (.bool bn) (.slice ba b bc)
  have k9 := q_stored HQ.out R1.out (.bool tn) (.slice ta t tc) (.bool bn) (.slice ba b bc)
  have r9 := (heap4 (w := wa) (show P + 1 + 1 ≠ P + 1 by omega) (.bool tn) (.slice ta t tc) (.bool bn) (.slice ba b bc)).trans R2.out
  have HR9 := Lib.hid (rat_stored h9 r9 (.bool qtn) (.slice qta qt qtc) (.bool qbn) (.slice qba qb qbc))
  have HQ9 := Lib.hid (q_stored k9 r9 (.bool qtn) (.slice qta qt qtc) (.bool qbn) (.slice qba qb qbc))
  have HB9 := Lib.hid (below4 (below4 HW.out (B := P + 1) (by have := HP.out; omega) (.bool tn) (.slice ta t tc) (.bool bn) (.slice ba b bc)) (B := P + 1 + 1) (by have := HP.out; omega) (.bool qtn) (.slice qta qt qtc) (.bool qbn) (.slice qba qb qbc))
  clear h9 k9 r9
  go_wp2_with fail
  refine bodyPost_ret (v := .tuple #[.agg #[.bool tn, .slice ta t tc, .bool bn, .slice ba b bc], .agg #[.bool qtn, .slice qta qt qtc, .bool qbn, .slice qba qb qbc]]) (by simp [results, Tryz.results18, go_sem, p0, p1, p2, p3, q0, q1, q2, q3]) rfl ?_
  exact ⟨_, _, _, _, _, _, _, _, _, _, _, _, _, _, _, _, _, _, _, _, _, rfl, HR9.out.below (Below.refl _ _).drew, HQ9.out.below (Below.refl _ _).drew, by omega, by omega, by omega, by omega, HB9.out.drew⟩

end Go.Proofs.YtdfepdhflnnjpaaGreat
