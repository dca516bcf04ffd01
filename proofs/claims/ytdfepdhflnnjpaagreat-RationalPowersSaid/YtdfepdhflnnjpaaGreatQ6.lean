/- The reference's fractions: sums, differences, and their order. -/
import Derived.Test.YtdfepdhflnnjpaaGreatQ5
namespace Go.Proofs.YtdfepdhflnnjpaaGreat
open Go.RowKit
set_option autoImplicit false
set_option linter.unusedVariables false


set_option maxRecDepth 100000 in
set_option maxHeartbeats 1000000 in
theorem rnewq_zero (w : World) (nx ny : Bool) (ao bo : Option Addr) (n m capa capb : Nat) (xs ys : List Int) (hy : RefAt w ny bo m capb ys 0) :
    Calls Tryz.prog 17 #[.agg #[.bool nx, .slice ao n capa], .agg #[.bool ny, .slice bo m capb]] w (RetFracE w 0 1 4 4 6) := by
  have HY := Lib.hid hy
  clear hy
  go_enter Tryz.func17, Tryz.ntmps17
  go_wp2_with fail
  refine (rsign_any _ _ _ _ _ _ 0 (HY.out.below (by go_grown))).mono ?_
  rintro e w2 ⟨rfl, b2⟩
  rw [cmpI_eq (rfl : (0 : Int) = 0)]
  have r2 : w2.heap[w.heap.size + 1 + 1]? = some (.cells #[.bool false, .slice none 0 0, .bool false, .slice none 0 0] 43 (0, 0)) := by
    refine (b2.block _ (by simp)).trans ?_
    have := heap_alloc_new ((w.alloc (.cells #[.bool nx, .slice ao n capa] 34)).alloc (.cells #[.bool ny, .slice bo m capb] 34)) (.cells #[.bool false, .slice none 0 0, .bool false, .slice none 0 0] 43)
    simpa using this
  have b3 : Below w.heap.size w w2 := Below.trans (by go_grown) (b2.mono (by simp <;> omega))
  have hl : w.heap.size + 1 + 1 < w2.heap.size := (Array.getElem?_eq_some_iff.1 r2).1
  clear b2
  go_wp2_with fail
  refine (rint_any _ 0 (by omega) (by omega)).mono ?_
  rintro e w3 ⟨tn, ta, t, tc, zt, bn, ba, b, bc, zb, rfl, hr, ht, hb, b4⟩
  have r3 := (b4.block _ hl).trans r2
  obtain ⟨p0, p1, p2, p3⟩ := blk4 r3
  obtain ⟨pf0, pf1, pf2, pf3⟩ := blk4f r3
  have HR := Lib.hid (q_stored hr r3 (.bool tn) (.slice ta t tc) (.bool bn) (.slice ba b bc))
  have HB := Lib.hid (below4 (b3.trans (b4.mono b3.size)) (B := w.heap.size + 1 + 1) (by omega) (.bool tn) (.slice ta t tc) (.bool bn) (.slice ba b bc))
  clear hr r3 r2 b3 b4
  go_wp2_with fail
  refine bodyPost_ret (v := .tuple #[.agg #[.bool tn, .slice ta t tc, .bool bn, .slice ba b bc], .int .i64 6]) (by simp [results, Tryz.results17, go_sem, p0, p1, p2, p3]) rfl ?_
  exact ⟨_, _, _, _, _, _, _, _, _, _, rfl, HR.out, ht, hb, HB.out⟩

set_option maxRecDepth 100000 in
set_option maxHeartbeats 1000000 in
theorem over_any (w : World) (nx ny : Bool) (ao bo : Option Addr) (n m capa capb : Nat) (xs ys : List Int) (N D : Int) (hx : RefAt w nx ao n capa xs N) (hy : RefAt w ny bo m capb ys D) (hD : D ≠ 0) (K : Nat) (hn : n ≤ K) (hm : m ≤ K) (hK : K ≤ 100000) :
    Calls Tryz.prog 89 #[.agg #[.bool nx, .slice ao n capa], .agg #[.bool ny, .slice bo m capb]] w (RetFrac w (qn N D) (qd N D) K K) := by
  have HC : Hid (∀ w1, Below w.heap.size w w1 → Calls Tryz.prog 17 #[.agg #[.bool nx, .slice ao n capa], .agg #[.bool ny, .slice bo m capb]] w1 (RetFracE w1 (qn N D) (qd N D) K K 0)) := Lib.hid (fun w1 hb => rnewq_any w1 _ _ _ _ _ _ _ _ _ _ N D (hx.below hb) (hy.below hb) hD K hn hm hK)
  clear hx hy hD
  go_enter Tryz.func89, Tryz.ntmps89
  go_wp2_with fail
  refine (HC.out _ (by go_grown)).mono ?_
  rintro e w2 ⟨tn, ta, t, tc, zt, bn, ba, b, bc, zb, rfl, hr, ht, hb, b2⟩
  have r2 : w2.heap[w.heap.size + 1 + 1]? = some (.cells #[.bool false, .slice none 0 0, .bool false, .slice none 0 0] 43 (0, 0)) := by
    refine (b2.block _ (by simp)).trans ?_
    have := heap_alloc_new ((w.alloc (.cells #[.bool nx, .slice ao n capa] 34)).alloc (.cells #[.bool ny, .slice bo m capb] 34)) (.cells #[.bool false, .slice none 0 0, .bool false, .slice none 0 0] 43)
    simpa using this
  have b3 : Below w.heap.size w w2 := Below.trans (by go_grown) (b2.mono (by simp <;> omega))
  have hl : w.heap.size + 1 + 1 < w2.heap.size := (Array.getElem?_eq_some_iff.1 r2).1
  have HQ := Lib.hid hr
  clear b2 hr HC
  go_upto_region 2 with (fail)
  obtain ⟨w3, hw3⟩ : ∃ w3, w3 = w2.alloc (.cells #[.bool tn, .slice ta t tc, .bool bn, .slice ba b bc] 43) := ⟨_, rfl⟩
  have b4 : Below w2.heap.size w2 w3 := by rw [hw3]; go_grown
  have rq : w3.heap[w2.heap.size]? = some (.cells #[.bool tn, .slice ta t tc, .bool bn, .slice ba b bc] 43 (0, 0)) := by rw [hw3]; exact heap_alloc_new w2 _
  rw [← hw3]
  clear hw3
  have r3 := (b4.block _ hl).trans r2
  obtain ⟨p0, p1, p2, p3⟩ := blk4 r3
  obtain ⟨pf0, pf1, pf2, pf3⟩ := blk4f r3
  obtain ⟨q0, q1, q2, q3⟩ := blk4 rq
  have HR := Lib.hid (q_stored (HQ.out.below b4) r3 (.bool tn) (.slice ta t tc) (.bool bn) (.slice ba b bc))
  have HB := Lib.hid (below4 (b3.trans (b4.mono b3.size)) (B := w.heap.size + 1 + 1) (by omega) (.bool tn) (.slice ta t tc) (.bool bn) (.slice ba b bc))
  clear r3 r2 b3 b4 rq HQ
  go_wp2_with fail
  refine bodyPost_ret (v := .agg #[.bool tn, .slice ta t tc, .bool bn, .slice ba b bc]) (by simp [results, Tryz.results89, go_sem, p0, p1, p2, p3]) rfl ?_
  exact ⟨_, _, _, _, _, _, _, _, _, _, rfl, HR.out, ht, hb, HB.out⟩


set_option maxRecDepth 100000 in
set_option maxHeartbeats 4000000 in
theorem raddq_any (w : World) (tn : Bool) (ta : Option Addr) (t tc : Nat) (zt : List Int) (bn : Bool) (ba : Option Addr) (b bc : Nat) (zb : List Int) (n d : Int) (ytn : Bool) (yta : Option Addr) (yt ytc : Nat) (yzt : List Int) (ybn : Bool) (yba : Option Addr) (yb ybc : Nat) (yzb : List Int) (m f : Int) (h : QAt w tn ta t tc zt bn ba b bc zb n d) (hy : QAt w ytn yta yt ytc yzt ybn yba yb ybc yzb m f) (K : Nat) (h1 : t ≤ K) (h2 : b ≤ K) (h3 : yt ≤ K) (h4 : yb ≤ K) (hK : K ≤ 40000) :
    Calls Tryz.prog 41 #[.agg #[.bool tn, .slice ta t tc, .bool bn, .slice ba b bc], .agg #[.bool ytn, .slice yta yt ytc, .bool ybn, .slice yba yb ybc]] w (RetFrac w (qn (n * f + m * d) (d * f)) (qd (n * f + m * d) (d * f)) (2 * K + 2) (2 * K + 2)) := by
  have H := Lib.hid h
  have HY := Lib.hid hy
  have HD0 : Hid (d * f ≠ 0) := Lib.hid (by have := Int.mul_pos h.low.1 hy.low.1; omega)
  clear h hy
  go_enter Tryz.func41, Tryz.ntmps41
  go_upto_region 1 with (fail)
  obtain ⟨w1, hw1⟩ : ∃ w1, w1 = ((w.alloc (.cells #[.bool tn, .slice ta t tc, .bool bn, .slice ba b bc] 43)).alloc (.cells #[.bool ytn, .slice yta yt ytc, .bool ybn, .slice yba yb ybc] 43)).alloc (.cells #[.bool false, .slice none 0 0, .bool false, .slice none 0 0] 43) := ⟨_, rfl⟩
  have hbw : Below w.heap.size w w1 := by rw [hw1]; exact (((Below.refl _ _).alloc (Nat.le_refl _) _).alloc (by simp) _).alloc (by simp <;> omega) _
  have r0 : w1.heap[w.heap.size]? = some (.cells #[.bool tn, .slice ta t tc, .bool bn, .slice ba b bc] 43 (0, 0)) := by rw [hw1, heap_alloc_old _ _ (by simp <;> omega), heap_alloc_old _ _ (by simp)]; exact heap_alloc_new w _
  have r1 : w1.heap[w.heap.size + 1]? = some (.cells #[.bool ytn, .slice yta yt ytc, .bool ybn, .slice yba yb ybc] 43 (0, 0)) := by
    rw [hw1, heap_alloc_old _ _ (by simp)]
    have := heap_alloc_new (w.alloc (.cells #[.bool tn, .slice ta t tc, .bool bn, .slice ba b bc] 43)) (.cells #[.bool ytn, .slice yta yt ytc, .bool ybn, .slice yba yb ybc] 43)
    simpa using this
  have r2 : w1.heap[w.heap.size + 1 + 1]? = some (.cells #[.bool false, .slice none 0 0, .bool false, .slice none 0 0] 43 (0, 0)) := by
    rw [hw1]
    have := heap_alloc_new ((w.alloc (.cells #[.bool tn, .slice ta t tc, .bool bn, .slice ba b bc] 43)).alloc (.cells #[.bool ytn, .slice yta yt ytc, .bool ybn, .slice yba yb ybc] 43)) (.cells #[.bool false, .slice none 0 0, .bool false, .slice none 0 0] 43)
    simpa using this
  rw [← hw1]
  clear hw1
  obtain ⟨P, hP⟩ : ∃ P, P = w.heap.size := ⟨_, rfl⟩
  rw [← hP] at r0 r1 r2 ⊢
  have HP := Lib.hid hP
  have l2 : P + 1 + 1 < w1.heap.size := (Array.getElem?_eq_some_iff.1 r2).1
  have LR : P + 1 + 1 ≤ w1.heap.size := by omega
  obtain ⟨x0, x1, x2, x3⟩ := blk4 r0
  obtain ⟨y0, y1, y2, y3⟩ := blk4 r1
  have HKP : Hid (∀ w', Below (P + 1 + 1) w1 w' → w'.cell? ⟨P, 0, none⟩ = some (.bool tn) ∧ w'.cell? ⟨P, 1, none⟩ = some (.slice ta t tc) ∧ w'.cell? ⟨P, 2, none⟩ = some (.bool bn) ∧ w'.cell? ⟨P, 3, none⟩ = some (.slice ba b bc) ∧ w'.cell? ⟨P + 1, 0, none⟩ = some (.bool ytn) ∧ w'.cell? ⟨P + 1, 1, none⟩ = some (.slice yta yt ytc) ∧ w'.cell? ⟨P + 1, 2, none⟩ = some (.bool ybn) ∧ w'.cell? ⟨P + 1, 3, none⟩ = some (.slice yba yb ybc)) := Lib.hid (fun w' hb => ⟨(hb.cell (p := ⟨P, 0, none⟩) (by dsimp only; omega)).trans x0, (hb.cell (p := ⟨P, 1, none⟩) (by dsimp only; omega)).trans x1, (hb.cell (p := ⟨P, 2, none⟩) (by dsimp only; omega)).trans x2, (hb.cell (p := ⟨P, 3, none⟩) (by dsimp only; omega)).trans x3, (hb.cell (p := ⟨P + 1, 0, none⟩) (by dsimp only; omega)).trans y0, (hb.cell (p := ⟨P + 1, 1, none⟩) (by dsimp only; omega)).trans y1, (hb.cell (p := ⟨P + 1, 2, none⟩) (by dsimp only; omega)).trans y2, (hb.cell (p := ⟨P + 1, 3, none⟩) (by dsimp only; omega)).trans y3⟩)
  have R2 := Lib.hid r2
  have HBW := Lib.hid hbw
  clear r0 r1 r2 hbw hP x0 x1 x2 x3 y0 y1 y2 y3
  go_region_held3 (fun w' => w'.cell? ⟨P, 0, none⟩ = some (.bool tn) ∧ w'.cell? ⟨P, 1, none⟩ = some (.slice ta t tc) ∧ w'.cell? ⟨P, 2, none⟩ = some (.bool bn) ∧ w'.cell? ⟨P, 3, none⟩ = some (.slice ba b bc) ∧ w'.cell? ⟨P + 1, 0, none⟩ = some (.bool ytn) ∧ w'.cell? ⟨P + 1, 1, none⟩ = some (.slice yta yt ytc) ∧ w'.cell? ⟨P + 1, 2, none⟩ = some (.bool ybn) ∧ w'.cell? ⟨P + 1, 3, none⟩ = some (.slice yba yb ybc)) ((first | exact HKP.out _ (below4 (X5.mono LR) (Nat.le_refl _) _ _ _ _) | exact HKP.out _ (below2 (X5.mono LR) (Nat.le_refl _) _ _) | exact HKP.out _ (X5.mono LR) | exact HKP.out _ (X4.mono LR) | exact HKP.out _ (X3.mono LR) | exact HKP.out _ (X2.mono LR) | exact HKP.out _ (X1.mono LR) | exact HKP.out _ ((Below.refl _ _).drew.mono LR)))
    (first | (go_at_call 89; have T5 := X4; clear T5; refine (over_any _ _ _ _ _ _ _ _ _ _ _ _ _ I3.out I4.out HD0.out (2 * K + 2) (by omega) (by omega) (by omega)).mono ?_; rintro e v5 ⟨rtn, rta, rt, rtc, rzt, rbn, rba, rb, rbc, rzb, rfl, iq, grt, grb, u5⟩; have X5 : Below w1.heap.size w1 v5 := X4.trans (u5.mono X4.size); have IQ := Lib.hid iq; clear iq; have r9 := (X5.block _ l2).trans R2.out; obtain ⟨p0, p1, p2, p3⟩ := blk4 r9; obtain ⟨pf0, pf1, pf2, pf3⟩ := blk4f r9) | (go_at_call 90; have T4 := X3; clear T4; refine (rmul_any _ _ _ _ _ _ _ _ _ _ _ d f (((H.out.bot).below HBW.out).below X3) (((HY.out.bot).below HBW.out).below X3) (by omega) (by omega)).mono ?_; rintro e v4 ⟨s4, a4, m4, k4, z4, rfl, i4, g4, u4⟩; have X4 : Below w1.heap.size w1 v4 := X3.trans (u4.mono X3.size); have I4 := Lib.hid i4; clear i4; replace I3 := Lib.hid (I3.out.below u4)) | (go_at_call 86; have T3 := X2; clear T3; refine (radd_any _ _ _ _ _ _ _ _ _ _ _ _ _ I1.out I2.out (by omega) (by omega)).mono ?_; rintro e v3 ⟨s3, a3, m3, k3, z3, rfl, i3, g3, u3⟩; have X3 : Below w1.heap.size w1 v3 := X2.trans (u3.mono X2.size); have I3 := Lib.hid i3; clear i3 I1 I2) | (go_at_call 90; have T2 := X1; clear T2; refine (rmul_any _ _ _ _ _ _ _ _ _ _ _ m d (((HY.out.top).below HBW.out).below X1) (((H.out.bot).below HBW.out).below X1) (by omega) (by omega)).mono ?_; rintro e v2 ⟨s2, a2, m2, k2, z2, rfl, i2, g2, u2⟩; have X2 : Below w1.heap.size w1 v2 := X1.trans (u2.mono X1.size); have I2 := Lib.hid i2; clear i2; replace I1 := Lib.hid (I1.out.below u2)) | (go_at_call 90; refine (rmul_any _ _ _ _ _ _ _ _ _ _ _ n f (((H.out.top).below HBW.out).below (Below.refl _ _).drew) (((HY.out.bot).below HBW.out).below (Below.refl _ _).drew) (by omega) (by omega)).mono ?_; rintro e v1 ⟨s1, a1, m1, k1, z1, rfl, i1, g1, u1⟩; have X1 : Below w1.heap.size w1 v1 := (Below.refl _ _).drew.trans u1; have I1 := Lib.hid i1; clear i1))
  have hr9 := (X5.block _ l2).trans R2.out
  have HQ := Lib.hid (q_stored IQ.out hr9 (.bool rtn) (.slice rta rt rtc) (.bool rbn) (.slice rba rb rbc))
  have HB := Lib.hid (below4 (HBW.out.trans (X5.mono HBW.out.size)) (B := P + 1 + 1) (by have := HP.out; omega) (.bool rtn) (.slice rta rt rtc) (.bool rbn) (.slice rba rb rbc))
  clear hr9
  go_wp2_with fail
  refine bodyPost_ret (v := .agg #[.bool rtn, .slice rta rt rtc, .bool rbn, .slice rba rb rbc]) (by simp [results, Tryz.results41, go_sem, p0, p1, p2, p3]) rfl ?_
  exact ⟨_, _, _, _, _, _, _, _, _, _, rfl, HQ.out, grt, grb, HB.out⟩


set_option maxRecDepth 100000 in
set_option maxHeartbeats 4000000 in
theorem rsubq_any (w : World) (tn : Bool) (ta : Option Addr) (t tc : Nat) (zt : List Int) (bn : Bool) (ba : Option Addr) (b bc : Nat) (zb : List Int) (n d : Int) (ytn : Bool) (yta : Option Addr) (yt ytc : Nat) (yzt : List Int) (ybn : Bool) (yba : Option Addr) (yb ybc : Nat) (yzb : List Int) (m f : Int) (h : QAt w tn ta t tc zt bn ba b bc zb n d) (hy : QAt w ytn yta yt ytc yzt ybn yba yb ybc yzb m f) (K : Nat) (h1 : t ≤ K) (h2 : b ≤ K) (h3 : yt ≤ K) (h4 : yb ≤ K) (hK : K ≤ 40000) :
    Calls Tryz.prog 43 #[.agg #[.bool tn, .slice ta t tc, .bool bn, .slice ba b bc], .agg #[.bool ytn, .slice yta yt ytc, .bool ybn, .slice yba yb ybc]] w (RetFrac w (qn (n * f + -m * d) (d * f)) (qd (n * f + -m * d) (d * f)) (2 * K + 2) (2 * K + 2)) := by
  have H := Lib.hid h
  have HY := Lib.hid hy
  clear h hy
  go_enter Tryz.func43, Tryz.ntmps43
  go_upto_region 1 with (fail)
  obtain ⟨w1, hw1⟩ : ∃ w1, w1 = ((w.alloc (.cells #[.bool tn, .slice ta t tc, .bool bn, .slice ba b bc] 43)).alloc (.cells #[.bool ytn, .slice yta yt ytc, .bool ybn, .slice yba yb ybc] 43)).alloc (.cells #[.bool false, .slice none 0 0, .bool false, .slice none 0 0] 43) := ⟨_, rfl⟩
  have hbw : Below w.heap.size w w1 := by rw [hw1]; exact (((Below.refl _ _).alloc (Nat.le_refl _) _).alloc (by simp) _).alloc (by simp <;> omega) _
  have r0 : w1.heap[w.heap.size]? = some (.cells #[.bool tn, .slice ta t tc, .bool bn, .slice ba b bc] 43 (0, 0)) := by rw [hw1, heap_alloc_old _ _ (by simp <;> omega), heap_alloc_old _ _ (by simp)]; exact heap_alloc_new w _
  have r1 : w1.heap[w.heap.size + 1]? = some (.cells #[.bool ytn, .slice yta yt ytc, .bool ybn, .slice yba yb ybc] 43 (0, 0)) := by
    rw [hw1, heap_alloc_old _ _ (by simp)]
    have := heap_alloc_new (w.alloc (.cells #[.bool tn, .slice ta t tc, .bool bn, .slice ba b bc] 43)) (.cells #[.bool ytn, .slice yta yt ytc, .bool ybn, .slice yba yb ybc] 43)
    simpa using this
  have r2 : w1.heap[w.heap.size + 1 + 1]? = some (.cells #[.bool false, .slice none 0 0, .bool false, .slice none 0 0] 43 (0, 0)) := by
    rw [hw1]
    have := heap_alloc_new ((w.alloc (.cells #[.bool tn, .slice ta t tc, .bool bn, .slice ba b bc] 43)).alloc (.cells #[.bool ytn, .slice yta yt ytc, .bool ybn, .slice yba yb ybc] 43)) (.cells #[.bool false, .slice none 0 0, .bool false, .slice none 0 0] 43)
    simpa using this
  rw [← hw1]
  clear hw1
  obtain ⟨P, hP⟩ : ∃ P, P = w.heap.size := ⟨_, rfl⟩
  rw [← hP] at r0 r1 r2 ⊢
  have HP := Lib.hid hP
  have l2 : P + 1 + 1 < w1.heap.size := (Array.getElem?_eq_some_iff.1 r2).1
  have LR : P + 1 + 1 ≤ w1.heap.size := by omega
  obtain ⟨x0, x1, x2, x3⟩ := blk4 r0
  obtain ⟨y0, y1, y2, y3⟩ := blk4 r1
  have HKP : Hid (∀ w', Below (P + 1 + 1) w1 w' → w'.cell? ⟨P, 0, none⟩ = some (.bool tn) ∧ w'.cell? ⟨P, 1, none⟩ = some (.slice ta t tc) ∧ w'.cell? ⟨P, 2, none⟩ = some (.bool bn) ∧ w'.cell? ⟨P, 3, none⟩ = some (.slice ba b bc) ∧ w'.cell? ⟨P + 1, 0, none⟩ = some (.bool ytn) ∧ w'.cell? ⟨P + 1, 1, none⟩ = some (.slice yta yt ytc) ∧ w'.cell? ⟨P + 1, 2, none⟩ = some (.bool ybn) ∧ w'.cell? ⟨P + 1, 3, none⟩ = some (.slice yba yb ybc)) := Lib.hid (fun w' hb => ⟨(hb.cell (p := ⟨P, 0, none⟩) (by dsimp only; omega)).trans x0, (hb.cell (p := ⟨P, 1, none⟩) (by dsimp only; omega)).trans x1, (hb.cell (p := ⟨P, 2, none⟩) (by dsimp only; omega)).trans x2, (hb.cell (p := ⟨P, 3, none⟩) (by dsimp only; omega)).trans x3, (hb.cell (p := ⟨P + 1, 0, none⟩) (by dsimp only; omega)).trans y0, (hb.cell (p := ⟨P + 1, 1, none⟩) (by dsimp only; omega)).trans y1, (hb.cell (p := ⟨P + 1, 2, none⟩) (by dsimp only; omega)).trans y2, (hb.cell (p := ⟨P + 1, 3, none⟩) (by dsimp only; omega)).trans y3⟩)
  have R2 := Lib.hid r2
  have HBW := Lib.hid hbw
  clear r0 r1 r2 hbw hP x0 x1 x2 x3 y0 y1 y2 y3
  go_region_held3 (fun w' => w'.cell? ⟨P, 0, none⟩ = some (.bool tn) ∧ w'.cell? ⟨P, 1, none⟩ = some (.slice ta t tc) ∧ w'.cell? ⟨P, 2, none⟩ = some (.bool bn) ∧ w'.cell? ⟨P, 3, none⟩ = some (.slice ba b bc) ∧ w'.cell? ⟨P + 1, 0, none⟩ = some (.bool ytn) ∧ w'.cell? ⟨P + 1, 1, none⟩ = some (.slice yta yt ytc) ∧ w'.cell? ⟨P + 1, 2, none⟩ = some (.bool ybn) ∧ w'.cell? ⟨P + 1, 3, none⟩ = some (.slice yba yb ybc)) ((first | exact HKP.out _ (below4 (X2.mono LR) (Nat.le_refl _) _ _ _ _) | exact HKP.out _ (below2 (X2.mono LR) (Nat.le_refl _) _ _) | exact HKP.out _ (X2.mono LR) | exact HKP.out _ (X1.mono LR) | exact HKP.out _ ((Below.refl _ _).drew.mono LR)))
    (first | (go_at_call 41; have T2 := X1; clear T2; refine (raddq_any _ _ _ _ _ _ _ _ _ _ _ n d _ _ _ _ _ _ _ _ _ _ (-m) f (((H.out).below HBW.out).below X1) I1.out K h1 h2 (by omega) (by omega) hK).mono ?_; rintro e v2 ⟨rtn, rta, rt, rtc, rzt, rbn, rba, rb, rbc, rzb, rfl, iq, grt, grb, u2⟩; have X2 : Below w1.heap.size w1 v2 := X1.trans (u2.mono X1.size); have IQ := Lib.hid iq; clear iq; have r9 := (X2.block _ l2).trans R2.out; obtain ⟨p0, p1, p2, p3⟩ := blk4 r9; obtain ⟨pf0, pf1, pf2, pf3⟩ := blk4f r9) | (go_at_call 37; refine (rnegq_any _ _ _ _ _ _ _ _ _ _ _ m f (((HY.out).below HBW.out).below (Below.refl _ _).drew)).mono ?_; rintro e v1 ⟨stn, sta, st, stc, szt, sbn, sba, sb, sbc, szb, rfl, i1, g1, g2, u1⟩; have X1 : Below w1.heap.size w1 v1 := (Below.refl _ _).drew.trans u1; have I1 := Lib.hid i1; clear i1))
  have hr9 := (X2.block _ l2).trans R2.out
  have HQ := Lib.hid (q_stored IQ.out hr9 (.bool rtn) (.slice rta rt rtc) (.bool rbn) (.slice rba rb rbc))
  have HB := Lib.hid (below4 (HBW.out.trans (X2.mono HBW.out.size)) (B := P + 1 + 1) (by have := HP.out; omega) (.bool rtn) (.slice rta rt rtc) (.bool rbn) (.slice rba rb rbc))
  clear hr9
  go_wp2_with fail
  refine bodyPost_ret (v := .agg #[.bool rtn, .slice rta rt rtc, .bool rbn, .slice rba rb rbc]) (by simp [results, Tryz.results43, go_sem, p0, p1, p2, p3]) rfl ?_
  exact ⟨_, _, _, _, _, _, _, _, _, _, rfl, HQ.out, grt, grb, HB.out⟩


set_option maxRecDepth 100000 in
set_option maxHeartbeats 1000000 in
theorem rcmpq_any (w : World) (tn : Bool) (ta : Option Addr) (t tc : Nat) (zt : List Int) (bn : Bool) (ba : Option Addr) (b bc : Nat) (zb : List Int) (n d : Int) (ytn : Bool) (yta : Option Addr) (yt ytc : Nat) (yzt : List Int) (ybn : Bool) (yba : Option Addr) (yb ybc : Nat) (yzb : List Int) (m f : Int) (h : QAt w tn ta t tc zt bn ba b bc zb n d) (hy : QAt w ytn yta yt ytc yzt ybn yba yb ybc yzb m f) (K : Nat) (h1 : t ≤ K) (h2 : b ≤ K) (h3 : yt ≤ K) (h4 : yb ≤ K) (hK : K ≤ 40000) :
    Calls Tryz.prog 27 #[.agg #[.bool tn, .slice ta t tc, .bool bn, .slice ba b bc], .agg #[.bool ytn, .slice yta yt ytc, .bool ybn, .slice yba yb ybc]] w (RetV w (.int .i64 (cmpI (n * f) (m * d)))) := by
  have hc : cmpI (qn (n * f + -m * d) (d * f)) 0 = cmpI (n * f) (m * d) := by
    rw [cmp_qn (Int.mul_pos h.low.1 hy.low.1), Int.neg_mul, cmp_sub]
  rw [← hc]
  have HS : Hid (∀ w1, Below w.heap.size w w1 → Calls Tryz.prog 43 #[.agg #[.bool tn, .slice ta t tc, .bool bn, .slice ba b bc], .agg #[.bool ytn, .slice yta yt ytc, .bool ybn, .slice yba yb ybc]] w1 (RetFrac w1 (qn (n * f + -m * d) (d * f)) (qd (n * f + -m * d) (d * f)) (2 * K + 2) (2 * K + 2))) :=
    Lib.hid (fun w1 hb => rsubq_any w1 _ _ _ _ _ _ _ _ _ _ n d _ _ _ _ _ _ _ _ _ _ m f (h.below hb) (hy.below hb) K h1 h2 h3 h4 hK)
  obtain ⟨r, hr⟩ : ∃ r, qn (n * f + -m * d) (d * f) = r := ⟨_, rfl⟩
  rw [hr] at HS ⊢
  clear hc hr h hy
  go_enter Tryz.func27, Tryz.ntmps27
  go_wp2_with fail
  refine (HS.out _ (by go_grown)).mono ?_
  rintro e w2 ⟨tn1, ta1, t1, tc1, zt1, bn1, ba1, b1, bc1, zb1, rfl, iq, -, -, b2⟩
  have b3 : Below w.heap.size w w2 := Below.trans (by go_grown) (b2.mono (by go_size))
  have IT := Lib.hid iq.top
  clear b2 iq HS
  go_wp2_with fail
  refine (rsignq_any _ _ _ _ _ _ _ _ _ _ r IT.out).mono ?_
  rintro e w3 ⟨rfl, b4⟩
  go_wp2_with fail
  go_ret
  exact ⟨rfl, b3.trans (b4.mono b3.size)⟩

end Go.Proofs.YtdfepdhflnnjpaaGreat
