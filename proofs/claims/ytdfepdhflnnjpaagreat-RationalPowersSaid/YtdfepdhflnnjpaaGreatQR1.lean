/- Fractions: products, absolute values, inverses. -/
import Derived.Test.YtdfepdhflnnjpaaGreatQ3
import Derived.Test.YtdfepdhflnnjpaaGreatRootM
namespace Go.Proofs.YtdfepdhflnnjpaaGreat
open Go.RowKit
set_option autoImplicit false
set_option linter.unusedVariables false


set_option maxRecDepth 100000 in
set_option maxHeartbeats 4000000 in
theorem absq_any (w : World) (tn : Bool) (ta : Option Addr) (t tc : Nat) (zt : List Int) (bn : Bool) (ba : Option Addr) (b bc : Nat) (zb : List Int) (n x d : Int) (h : RatAt w tn ta t tc zt bn ba b bc zb n x d) (ht : t ≤ 100000) :
    Calls Tryz.prog 38 #[.agg #[.bool tn, .slice ta t tc, .bool bn, .slice ba b bc]] w (RetRat w (n.natAbs : Int) d t b) := by
  have H := Lib.hid h
  clear h
  go_enter Tryz.func38, Tryz.ntmps38
  go_upto_region 1 with (fail)
  obtain ⟨w1, hw1⟩ : ∃ w1, w1 = (w.alloc (.cells #[.bool tn, .slice ta t tc, .bool bn, .slice ba b bc] 38)).alloc (.cells #[.bool false, .slice none 0 0, .bool false, .slice none 0 0] 38) := ⟨_, rfl⟩
  have hbw : Below w.heap.size w w1 := by rw [hw1]; go_grown
  have r0 : w1.heap[w.heap.size]? = some (.cells #[.bool tn, .slice ta t tc, .bool bn, .slice ba b bc] 38 (0, 0)) := by
    rw [hw1, heap_alloc_old _ _ (by simp <;> omega)]
    have := heap_alloc_new w (.cells #[.bool tn, .slice ta t tc, .bool bn, .slice ba b bc] 38)
    simpa using this
  have r1 : w1.heap[w.heap.size + 1]? = some (.cells #[.bool false, .slice none 0 0, .bool false, .slice none 0 0] 38 (0, 0)) := by
    rw [hw1]
    have := heap_alloc_new (w.alloc (.cells #[.bool tn, .slice ta t tc, .bool bn, .slice ba b bc] 38)) (.cells #[.bool false, .slice none 0 0, .bool false, .slice none 0 0] 38)
    simpa using this
  rw [← hw1]
  clear hw1
  obtain ⟨P, hP⟩ : ∃ P, P = w.heap.size := ⟨_, rfl⟩
  rw [← hP] at r0 r1 ⊢
  have HP := Lib.hid hP
  have l2 : P + 1 < w1.heap.size := (Array.getElem?_eq_some_iff.1 r1).1
  have LR : P + 1 ≤ w1.heap.size := by omega
  obtain ⟨x00, x01, x02, x03⟩ := blk4 r0
  have HKP : Hid (∀ w', Below (P + 1) w1 w' → w'.cell? ⟨P, 0, none⟩ = some (.bool tn) ∧ w'.cell? ⟨P, 1, none⟩ = some (.slice ta t tc) ∧ w'.cell? ⟨P, 2, none⟩ = some (.bool bn) ∧ w'.cell? ⟨P, 3, none⟩ = some (.slice ba b bc)) := Lib.hid (fun w' hb => ⟨(hb.cell (p := ⟨P, 0, none⟩) (by dsimp only; omega)).trans x00, (hb.cell (p := ⟨P, 1, none⟩) (by dsimp only; omega)).trans x01, (hb.cell (p := ⟨P, 2, none⟩) (by dsimp only; omega)).trans x02, (hb.cell (p := ⟨P, 3, none⟩) (by dsimp only; omega)).trans x03⟩)
  have R2 := Lib.hid r1
  have HBW := Lib.hid hbw
  clear r0 r1 hbw hP
  clear x00 x01 x02 x03
  go_region_held3 (fun w' => w'.cell? ⟨P, 0, none⟩ = some (.bool tn) ∧ w'.cell? ⟨P, 1, none⟩ = some (.slice ta t tc) ∧ w'.cell? ⟨P, 2, none⟩ = some (.bool bn) ∧ w'.cell? ⟨P, 3, none⟩ = some (.slice ba b bc)) ((first | exact HKP.out _ (below4 (X1.mono LR) (Nat.le_refl _) _ _ _ _) | exact HKP.out _ (below2 (X1.mono LR) (Nat.le_refl _) _ _) | exact HKP.out _ (X1.mono LR) | exact HKP.out _ ((Below.refl _ _).drew.mono LR)))
    (first | (go_at_call 69; refine (absI _ _ _ _ _ _ n (((H.out.top).below HBW.out).below (Below.refl _ _).drew) (by omega)).mono ?_; rintro e v1 ⟨s1, a1, m1, k1, z1, rfl, i1, g1, u1⟩; have X1 : Below w1.heap.size w1 v1 := (Below.refl _ _).drew.trans u1; have I1 := Lib.hid i1; clear i1; have r9 := (X1.block _ l2).trans R2.out; obtain ⟨p0, p1, p2, p3⟩ := blk4 r9; obtain ⟨pf0, pf1, pf2, pf3⟩ := blk4f r9))
  have hr9 := (X1.block _ l2).trans R2.out
  have HQ := Lib.hid (rat_stored (⟨I1.out, (H.out.bot.below HBW.out).below X1, H.out.den, low_abs H.out.low⟩) hr9 (.bool s1) (.slice a1 m1 k1) (.bool bn) (.slice ba b bc))
  have HB := Lib.hid (below4 (HBW.out.trans (X1.mono HBW.out.size)) (B := P + 1) (by have := HP.out; omega) (.bool s1) (.slice a1 m1 k1) (.bool bn) (.slice ba b bc))
  clear hr9
  go_wp2_with fail
  refine bodyPost_ret (v := .agg #[.bool s1, .slice a1 m1 k1, .bool bn, .slice ba b bc]) (by simp [results, Tryz.results38, go_sem, p0, p1, p2, p3]) rfl ?_
  exact ⟨_, _, _, _, _, _, _, _, _, _, _, rfl, HQ.out, g1, Nat.le_refl _, HB.out⟩


set_option maxRecDepth 100000 in
set_option maxHeartbeats 4000000 in
theorem invq_neg (w : World) (tn : Bool) (ta : Option Addr) (t tc : Nat) (zt : List Int) (bn : Bool) (ba : Option Addr) (b bc : Nat) (zb : List Int) (n x d : Int) (h : RatAt w tn ta t tc zt bn ba b bc zb n x d) (ht : t ≤ 100000) (hb : b ≤ 100000) (hn : n < 0) :
    Calls Tryz.prog 88 #[.agg #[.bool tn, .slice ta t tc, .bool bn, .slice ba b bc]] w (RetRat w (-d) (-n) (max b 2) t) := by
  have H := Lib.hid h
  have HN := Lib.hid hn
  have HL : Hid (Low (-d) (-n)) := Lib.hid (⟨by omega, by rw [Int.natAbs_neg, Int.natAbs_neg, Nat.gcd_comm]; exact h.low.2⟩)
  clear h hn
  go_enter Tryz.func88, Tryz.ntmps88
  go_upto_region 1 with (fail)
  obtain ⟨w1, hw1⟩ : ∃ w1, w1 = (w.alloc (.cells #[.bool tn, .slice ta t tc, .bool bn, .slice ba b bc] 38)).alloc (.cells #[.bool false, .slice none 0 0, .bool false, .slice none 0 0] 38) := ⟨_, rfl⟩
  have hbw : Below w.heap.size w w1 := by rw [hw1]; go_grown
  have r0 : w1.heap[w.heap.size]? = some (.cells #[.bool tn, .slice ta t tc, .bool bn, .slice ba b bc] 38 (0, 0)) := by
    rw [hw1, heap_alloc_old _ _ (by simp <;> omega)]
    have := heap_alloc_new w (.cells #[.bool tn, .slice ta t tc, .bool bn, .slice ba b bc] 38)
    simpa using this
  have r1 : w1.heap[w.heap.size + 1]? = some (.cells #[.bool false, .slice none 0 0, .bool false, .slice none 0 0] 38 (0, 0)) := by
    rw [hw1]
    have := heap_alloc_new (w.alloc (.cells #[.bool tn, .slice ta t tc, .bool bn, .slice ba b bc] 38)) (.cells #[.bool false, .slice none 0 0, .bool false, .slice none 0 0] 38)
    simpa using this
  rw [← hw1]
  clear hw1
  obtain ⟨P, hP⟩ : ∃ P, P = w.heap.size := ⟨_, rfl⟩
  rw [← hP] at r0 r1 ⊢
  have HP := Lib.hid hP
  have l2 : P + 1 < w1.heap.size := (Array.getElem?_eq_some_iff.1 r1).1
  have LR : P + 1 ≤ w1.heap.size := by omega
  obtain ⟨x00, x01, x02, x03⟩ := blk4 r0
  have HKP : Hid (∀ w', Below (P + 1) w1 w' → w'.cell? ⟨P, 0, none⟩ = some (.bool tn) ∧ w'.cell? ⟨P, 1, none⟩ = some (.slice ta t tc) ∧ w'.cell? ⟨P, 2, none⟩ = some (.bool bn) ∧ w'.cell? ⟨P, 3, none⟩ = some (.slice ba b bc)) := Lib.hid (fun w' hb => ⟨(hb.cell (p := ⟨P, 0, none⟩) (by dsimp only; omega)).trans x00, (hb.cell (p := ⟨P, 1, none⟩) (by dsimp only; omega)).trans x01, (hb.cell (p := ⟨P, 2, none⟩) (by dsimp only; omega)).trans x02, (hb.cell (p := ⟨P, 3, none⟩) (by dsimp only; omega)).trans x03⟩)
  have R2 := Lib.hid r1
  have HBW := Lib.hid hbw
  clear r0 r1 hbw hP
  go_wp2_with fail
  refine (signq_any w1 _ _ _ _ _ _ _ _ _ _ n x d (H.out.below HBW.out)).mono ?_
  rintro e w2 ⟨rfl, u0⟩
  rw [cmpI_lt HN.out]
  replace HKP : Hid (∀ w', Below (P + 1) w2 w' → w'.cell? ⟨P, 0, none⟩ = some (.bool tn) ∧ w'.cell? ⟨P, 1, none⟩ = some (.slice ta t tc) ∧ w'.cell? ⟨P, 2, none⟩ = some (.bool bn) ∧ w'.cell? ⟨P, 3, none⟩ = some (.slice ba b bc)) := Lib.hid (fun w' hb => HKP.out w' ((u0.mono LR).trans hb))
  replace R2 := Lib.hid ((u0.block _ l2).trans R2.out)
  replace HBW := Lib.hid (HBW.out.trans (u0.mono HBW.out.size))
  replace l2 : P + 1 < w2.heap.size := (Array.getElem?_eq_some_iff.1 R2.out).1
  replace LR : P + 1 ≤ w2.heap.size := by omega
  clear u0 x00 x01 x02 x03
  go_wp2_with fail
  go_region_held3 (fun w' => w'.cell? ⟨P, 0, none⟩ = some (.bool tn) ∧ w'.cell? ⟨P, 1, none⟩ = some (.slice ta t tc) ∧ w'.cell? ⟨P, 2, none⟩ = some (.bool bn) ∧ w'.cell? ⟨P, 3, none⟩ = some (.slice ba b bc)) ((first | exact HKP.out _ (below4 (X3.mono LR) (Nat.le_refl _) _ _ _ _) | exact HKP.out _ (below2 (X3.mono LR) (Nat.le_refl _) _ _) | exact HKP.out _ (X3.mono LR) | exact HKP.out _ (X2.mono LR) | exact HKP.out _ (X1.mono LR) | exact HKP.out _ ((Below.refl _ _).drew.mono LR)))
    (first | (go_at_call 62; have T3 := X2; clear T3; refine (neg_int _ _ _ _ _ _ n (((H.out.top).below HBW.out).below X2) (by omega)).mono ?_; rintro e v3 ⟨s3, a3, m3, k3, z3, rfl, i3, g3, u3⟩; have X3 : Below w2.heap.size w2 v3 := X2.trans (u3.mono X2.size); have I3 := Lib.hid i3; clear i3; replace I2 := Lib.hid (I2.out.below u3); have r9 := (X3.block _ l2).trans R2.out; obtain ⟨p0, p1, p2, p3⟩ := blk4 r9; obtain ⟨pf0, pf1, pf2, pf3⟩ := blk4f r9) | (go_at_call 62; have T2 := X1; clear T2; refine (neg_int _ _ _ _ _ _ _ I1.out (by omega)).mono ?_; rintro e v2 ⟨s2, a2, m2, k2, z2, rfl, i2, g2, u2⟩; have X2 : Below w2.heap.size w2 v2 := X1.trans (u2.mono X1.size); have I2 := Lib.hid i2; clear i2 I1) | (go_at_call 67; refine (den_any _ _ _ _ _ _ _ _ _ _ _ n x d (((H.out).below HBW.out).below (Below.refl _ _).drew)).mono ?_; rintro e v1 ⟨s1, a1, m1, k1, z1, rfl, i1, g1, u1⟩; have X1 : Below w2.heap.size w2 v1 := (Below.refl _ _).drew.trans u1; have I1 := Lib.hid i1; clear i1))
  have hr9 := (X3.block _ l2).trans R2.out
  have HQ := Lib.hid (rat_stored (⟨I2.out, I3.out, .inl rfl, HL.out⟩) hr9 (.bool s2) (.slice a2 m2 k2) (.bool s3) (.slice a3 m3 k3))
  have HB := Lib.hid (below4 (HBW.out.trans (X3.mono HBW.out.size)) (B := P + 1) (by have := HP.out; omega) (.bool s2) (.slice a2 m2 k2) (.bool s3) (.slice a3 m3 k3))
  clear hr9
  go_wp2_with fail
  refine bodyPost_ret (v := .agg #[.bool s2, .slice a2 m2 k2, .bool s3, .slice a3 m3 k3]) (by simp [results, Tryz.results88, go_sem, p0, p1, p2, p3]) rfl ?_
  exact ⟨_, _, _, _, _, _, _, _, _, _, _, rfl, HQ.out, by omega, by omega, HB.out⟩


set_option maxRecDepth 100000 in
set_option maxHeartbeats 4000000 in
theorem invq_pos (w : World) (tn : Bool) (ta : Option Addr) (t tc : Nat) (zt : List Int) (bn : Bool) (ba : Option Addr) (b bc : Nat) (zb : List Int) (n x d : Int) (h : RatAt w tn ta t tc zt bn ba b bc zb n x d) (ht : t ≤ 100000) (hb : b ≤ 100000) (hn : 0 < n) :
    Calls Tryz.prog 88 #[.agg #[.bool tn, .slice ta t tc, .bool bn, .slice ba b bc]] w (RetRat w d n (max b 2) t) := by
  have H := Lib.hid h
  have HN := Lib.hid hn
  have HL : Hid (Low d n) := Lib.hid (low_inv h.low hn)
  clear h hn
  go_enter Tryz.func88, Tryz.ntmps88
  go_upto_region 1 with (fail)
  obtain ⟨w1, hw1⟩ : ∃ w1, w1 = (w.alloc (.cells #[.bool tn, .slice ta t tc, .bool bn, .slice ba b bc] 38)).alloc (.cells #[.bool false, .slice none 0 0, .bool false, .slice none 0 0] 38) := ⟨_, rfl⟩
  have hbw : Below w.heap.size w w1 := by rw [hw1]; go_grown
  have r0 : w1.heap[w.heap.size]? = some (.cells #[.bool tn, .slice ta t tc, .bool bn, .slice ba b bc] 38 (0, 0)) := by
    rw [hw1, heap_alloc_old _ _ (by simp <;> omega)]
    have := heap_alloc_new w (.cells #[.bool tn, .slice ta t tc, .bool bn, .slice ba b bc] 38)
    simpa using this
  have r1 : w1.heap[w.heap.size + 1]? = some (.cells #[.bool false, .slice none 0 0, .bool false, .slice none 0 0] 38 (0, 0)) := by
    rw [hw1]
    have := heap_alloc_new (w.alloc (.cells #[.bool tn, .slice ta t tc, .bool bn, .slice ba b bc] 38)) (.cells #[.bool false, .slice none 0 0, .bool false, .slice none 0 0] 38)
    simpa using this
  rw [← hw1]
  clear hw1
  obtain ⟨P, hP⟩ : ∃ P, P = w.heap.size := ⟨_, rfl⟩
  rw [← hP] at r0 r1 ⊢
  have HP := Lib.hid hP
  have l2 : P + 1 < w1.heap.size := (Array.getElem?_eq_some_iff.1 r1).1
  have LR : P + 1 ≤ w1.heap.size := by omega
  obtain ⟨x00, x01, x02, x03⟩ := blk4 r0
  have HKP : Hid (∀ w', Below (P + 1) w1 w' → w'.cell? ⟨P, 0, none⟩ = some (.bool tn) ∧ w'.cell? ⟨P, 1, none⟩ = some (.slice ta t tc) ∧ w'.cell? ⟨P, 2, none⟩ = some (.bool bn) ∧ w'.cell? ⟨P, 3, none⟩ = some (.slice ba b bc)) := Lib.hid (fun w' hb => ⟨(hb.cell (p := ⟨P, 0, none⟩) (by dsimp only; omega)).trans x00, (hb.cell (p := ⟨P, 1, none⟩) (by dsimp only; omega)).trans x01, (hb.cell (p := ⟨P, 2, none⟩) (by dsimp only; omega)).trans x02, (hb.cell (p := ⟨P, 3, none⟩) (by dsimp only; omega)).trans x03⟩)
  have R2 := Lib.hid r1
  have HBW := Lib.hid hbw
  clear r0 r1 hbw hP
  go_wp2_with fail
  refine (signq_any w1 _ _ _ _ _ _ _ _ _ _ n x d (H.out.below HBW.out)).mono ?_
  rintro e w2 ⟨rfl, u0⟩
  rw [cmpI_gt HN.out]
  replace HKP : Hid (∀ w', Below (P + 1) w2 w' → w'.cell? ⟨P, 0, none⟩ = some (.bool tn) ∧ w'.cell? ⟨P, 1, none⟩ = some (.slice ta t tc) ∧ w'.cell? ⟨P, 2, none⟩ = some (.bool bn) ∧ w'.cell? ⟨P, 3, none⟩ = some (.slice ba b bc)) := Lib.hid (fun w' hb => HKP.out w' ((u0.mono LR).trans hb))
  replace R2 := Lib.hid ((u0.block _ l2).trans R2.out)
  replace HBW := Lib.hid (HBW.out.trans (u0.mono HBW.out.size))
  replace l2 : P + 1 < w2.heap.size := (Array.getElem?_eq_some_iff.1 R2.out).1
  replace LR : P + 1 ≤ w2.heap.size := by omega
  clear u0 x00 x01 x02 x03
  go_wp2_with fail
  go_region_held3 (fun w' => w'.cell? ⟨P, 0, none⟩ = some (.bool tn) ∧ w'.cell? ⟨P, 1, none⟩ = some (.slice ta t tc) ∧ w'.cell? ⟨P, 2, none⟩ = some (.bool bn) ∧ w'.cell? ⟨P, 3, none⟩ = some (.slice ba b bc)) ((first | exact HKP.out _ (below4 (X1.mono LR) (Nat.le_refl _) _ _ _ _) | exact HKP.out _ (below2 (X1.mono LR) (Nat.le_refl _) _ _) | exact HKP.out _ (X1.mono LR) | exact HKP.out _ ((Below.refl _ _).drew.mono LR)))
    (first | (go_at_call 67; refine (den_any _ _ _ _ _ _ _ _ _ _ _ n x d (((H.out).below HBW.out).below (Below.refl _ _).drew)).mono ?_; rintro e v1 ⟨s1, a1, m1, k1, z1, rfl, i1, g1, u1⟩; have X1 : Below w2.heap.size w2 v1 := (Below.refl _ _).drew.trans u1; have I1 := Lib.hid i1; clear i1; have r9 := (X1.block _ l2).trans R2.out; obtain ⟨p0, p1, p2, p3⟩ := blk4 r9; obtain ⟨pf0, pf1, pf2, pf3⟩ := blk4f r9))
  have hr9 := (X1.block _ l2).trans R2.out
  have HQ := Lib.hid (rat_stored (⟨I1.out, ((H.out.top.below HBW.out).below X1), .inl rfl, HL.out⟩) hr9 (.bool s1) (.slice a1 m1 k1) (.bool tn) (.slice ta t tc))
  have HB := Lib.hid (below4 (HBW.out.trans (X1.mono HBW.out.size)) (B := P + 1) (by have := HP.out; omega) (.bool s1) (.slice a1 m1 k1) (.bool tn) (.slice ta t tc))
  clear hr9
  go_wp2_with fail
  refine bodyPost_ret (v := .agg #[.bool s1, .slice a1 m1 k1, .bool tn, .slice ta t tc]) (by simp [results, Tryz.results88, go_sem, p0, p1, p2, p3]) rfl ?_
  exact ⟨_, _, _, _, _, _, _, _, _, _, _, rfl, HQ.out, by omega, by omega, HB.out⟩


set_option maxRecDepth 100000 in
set_option maxHeartbeats 4000000 in
theorem mulq_a (w : World) (tn : Bool) (ta : Option Addr) (t tc : Nat) (zt : List Int) (bn : Bool) (ba : Option Addr) (b bc : Nat) (zb : List Int) (n x d : Int) (ytn : Bool) (yta : Option Addr) (yt ytc : Nat) (yzt : List Int) (ybn : Bool) (yba : Option Addr) (yb ybc : Nat) (yzb : List Int) (m u f : Int) (h : RatAt w tn ta t tc zt bn ba b bc zb n x d) (hy : RatAt w ytn yta yt ytc yzt ybn yba yb ybc yzb m u f) (K : Nat) (h1 : t ≤ K) (h2 : b ≤ K) (h3 : yt ≤ K) (h4 : yb ≤ K) (hK : K ≤ 40000) (hd : ¬ d = 1) :
    Calls Tryz.prog 44 #[.agg #[.bool tn, .slice ta t tc, .bool bn, .slice ba b bc], .agg #[.bool ytn, .slice yta yt ytc, .bool ybn, .slice yba yb ybc]] w (RetRat w (qn (n * m) (d * f)) (qd (n * m) (d * f)) (2 * K + 4) (2 * K + 4)) := by
  have H := Lib.hid h
  have HY := Lib.hid hy
  have HD0 : Hid (d * f ≠ 0) := Lib.hid (by have := Int.mul_pos h.low.1 hy.low.1; omega)
  have E1 : Hid (decide (d = 1) = false) := Lib.hid (decide_eq_false hd)
  clear h hy hd
  go_enter Tryz.func44, Tryz.ntmps44
  go_upto_region 1 with (fail)
  obtain ⟨w1, hw1⟩ : ∃ w1, w1 = ((w.alloc (.cells #[.bool tn, .slice ta t tc, .bool bn, .slice ba b bc] 38)).alloc (.cells #[.bool ytn, .slice yta yt ytc, .bool ybn, .slice yba yb ybc] 38)).alloc (.cells #[.bool false, .slice none 0 0, .bool false, .slice none 0 0] 38) := ⟨_, rfl⟩
  have hbw : Below w.heap.size w w1 := by rw [hw1]; go_grown
  have r0 : w1.heap[w.heap.size]? = some (.cells #[.bool tn, .slice ta t tc, .bool bn, .slice ba b bc] 38 (0, 0)) := by
    rw [hw1, heap_alloc_old _ _ (by simp <;> omega), heap_alloc_old _ _ (by simp <;> omega)]
    have := heap_alloc_new w (.cells #[.bool tn, .slice ta t tc, .bool bn, .slice ba b bc] 38)
    simpa using this
  have r1 : w1.heap[w.heap.size + 1]? = some (.cells #[.bool ytn, .slice yta yt ytc, .bool ybn, .slice yba yb ybc] 38 (0, 0)) := by
    rw [hw1, heap_alloc_old _ _ (by simp <;> omega)]
    have := heap_alloc_new (w.alloc (.cells #[.bool tn, .slice ta t tc, .bool bn, .slice ba b bc] 38)) (.cells #[.bool ytn, .slice yta yt ytc, .bool ybn, .slice yba yb ybc] 38)
    simpa using this
  have r2 : w1.heap[w.heap.size + 1 + 1]? = some (.cells #[.bool false, .slice none 0 0, .bool false, .slice none 0 0] 38 (0, 0)) := by
    rw [hw1]
    have := heap_alloc_new ((w.alloc (.cells #[.bool tn, .slice ta t tc, .bool bn, .slice ba b bc] 38)).alloc (.cells #[.bool ytn, .slice yta yt ytc, .bool ybn, .slice yba yb ybc] 38)) (.cells #[.bool false, .slice none 0 0, .bool false, .slice none 0 0] 38)
    simpa using this
  rw [← hw1]
  clear hw1
  obtain ⟨P, hP⟩ : ∃ P, P = w.heap.size := ⟨_, rfl⟩
  rw [← hP] at r0 r1 r2 ⊢
  have HP := Lib.hid hP
  have l2 : P + 1 + 1 < w1.heap.size := (Array.getElem?_eq_some_iff.1 r2).1
  have LR : P + 1 + 1 ≤ w1.heap.size := by omega
  obtain ⟨x00, x01, x02, x03⟩ := blk4 r0
  obtain ⟨x10, x11, x12, x13⟩ := blk4 r1
  have HKP : Hid (∀ w', Below (P + 1 + 1) w1 w' → w'.cell? ⟨P, 0, none⟩ = some (.bool tn) ∧ w'.cell? ⟨P, 1, none⟩ = some (.slice ta t tc) ∧ w'.cell? ⟨P, 2, none⟩ = some (.bool bn) ∧ w'.cell? ⟨P, 3, none⟩ = some (.slice ba b bc) ∧ w'.cell? ⟨P + 1, 0, none⟩ = some (.bool ytn) ∧ w'.cell? ⟨P + 1, 1, none⟩ = some (.slice yta yt ytc) ∧ w'.cell? ⟨P + 1, 2, none⟩ = some (.bool ybn) ∧ w'.cell? ⟨P + 1, 3, none⟩ = some (.slice yba yb ybc)) := Lib.hid (fun w' hb => ⟨(hb.cell (p := ⟨P, 0, none⟩) (by dsimp only; omega)).trans x00, (hb.cell (p := ⟨P, 1, none⟩) (by dsimp only; omega)).trans x01, (hb.cell (p := ⟨P, 2, none⟩) (by dsimp only; omega)).trans x02, (hb.cell (p := ⟨P, 3, none⟩) (by dsimp only; omega)).trans x03, (hb.cell (p := ⟨P + 1, 0, none⟩) (by dsimp only; omega)).trans x10, (hb.cell (p := ⟨P + 1, 1, none⟩) (by dsimp only; omega)).trans x11, (hb.cell (p := ⟨P + 1, 2, none⟩) (by dsimp only; omega)).trans x12, (hb.cell (p := ⟨P + 1, 3, none⟩) (by dsimp only; omega)).trans x13⟩)
  have R2 := Lib.hid r2
  have HBW := Lib.hid hbw
  clear r0 r1 r2 hbw hP
  go_wp2_with fail
  refine (whole_any w1 _ _ _ _ _ _ _ _ _ _ n x d (H.out.below HBW.out)).mono ?_
  rintro e w2 ⟨rfl, u0⟩
  rw [E1.out]
  replace HKP : Hid (∀ w', Below (P + 1 + 1) w2 w' → w'.cell? ⟨P, 0, none⟩ = some (.bool tn) ∧ w'.cell? ⟨P, 1, none⟩ = some (.slice ta t tc) ∧ w'.cell? ⟨P, 2, none⟩ = some (.bool bn) ∧ w'.cell? ⟨P, 3, none⟩ = some (.slice ba b bc) ∧ w'.cell? ⟨P + 1, 0, none⟩ = some (.bool ytn) ∧ w'.cell? ⟨P + 1, 1, none⟩ = some (.slice yta yt ytc) ∧ w'.cell? ⟨P + 1, 2, none⟩ = some (.bool ybn) ∧ w'.cell? ⟨P + 1, 3, none⟩ = some (.slice yba yb ybc)) := Lib.hid (fun w' hb => HKP.out w' ((u0.mono LR).trans hb))
  replace R2 := Lib.hid ((u0.block _ l2).trans R2.out)
  replace HBW := Lib.hid (HBW.out.trans (u0.mono HBW.out.size))
  replace l2 : P + 1 + 1 < w2.heap.size := (Array.getElem?_eq_some_iff.1 R2.out).1
  replace LR : P + 1 + 1 ≤ w2.heap.size := by omega
  clear u0 x00 x01 x02 x03 x10 x11 x12 x13
  obtain ⟨x00, x01, x02, x03, x10, x11, x12, x13⟩ := HKP.out _ (Below.refl _ _)
  clear x00 x01 x02 x03 x10 x11 x12 x13
  go_wp2_with fail
  go_region_held3 (fun w' => w'.cell? ⟨P, 0, none⟩ = some (.bool tn) ∧ w'.cell? ⟨P, 1, none⟩ = some (.slice ta t tc) ∧ w'.cell? ⟨P, 2, none⟩ = some (.bool bn) ∧ w'.cell? ⟨P, 3, none⟩ = some (.slice ba b bc) ∧ w'.cell? ⟨P + 1, 0, none⟩ = some (.bool ytn) ∧ w'.cell? ⟨P + 1, 1, none⟩ = some (.slice yta yt ytc) ∧ w'.cell? ⟨P + 1, 2, none⟩ = some (.bool ybn) ∧ w'.cell? ⟨P + 1, 3, none⟩ = some (.slice yba yb ybc)) ((first | exact HKP.out _ (below4 (X5.mono LR) (Nat.le_refl _) _ _ _ _) | exact HKP.out _ (below2 (X5.mono LR) (Nat.le_refl _) _ _) | exact HKP.out _ (X5.mono LR) | exact HKP.out _ (X4.mono LR) | exact HKP.out _ (X3.mono LR) | exact HKP.out _ (X2.mono LR) | exact HKP.out _ (X1.mono LR) | exact HKP.out _ ((Below.refl _ _).drew.mono LR)))
    (first | (go_at_call 76; have T5 := X4; clear T5; refine (lowest_any _ _ _ _ _ _ _ _ _ _ _ (n * m) (d * f) I1.out I4.out HD0.out (2 * K + 4) (by omega) (by omega) (by omega)).mono ?_; rintro e v5 ⟨rtn, rta, rt, rtc, rzt, rbn, rba, rb, rbc, rzb, rx, rfl, iq, grt, grb, u5⟩; have X5 : Below w2.heap.size w2 v5 := X4.trans (u5.mono X4.size); have IQ := Lib.hid iq; clear iq; have r9 := (X5.block _ l2).trans R2.out; obtain ⟨p0, p1, p2, p3⟩ := blk4 r9; obtain ⟨pf0, pf1, pf2, pf3⟩ := blk4f r9) | (go_at_call 84; have T4 := X3; clear T4; refine (mul_int _ _ _ _ _ _ _ _ _ _ _ d f I2.out I3.out (by omega) (by omega)).mono ?_; rintro e v4 ⟨s4, a4, m4, k4, z4, rfl, i4, g4, u4⟩; have X4 : Below w2.heap.size w2 v4 := X3.trans (u4.mono X3.size); have I4 := Lib.hid i4; clear i4 I2 I3; replace I1 := Lib.hid (I1.out.below u4)) | (go_at_call 67; have T3 := X2; clear T3; refine (den_any _ _ _ _ _ _ _ _ _ _ _ m u f (((HY.out).below HBW.out).below X2)).mono ?_; rintro e v3 ⟨s3, a3, m3, k3, z3, rfl, i3, g3, u3⟩; have X3 : Below w2.heap.size w2 v3 := X2.trans (u3.mono X2.size); have I3 := Lib.hid i3; clear i3; replace I1 := Lib.hid (I1.out.below u3); replace I2 := Lib.hid (I2.out.below u3)) | (go_at_call 67; have T2 := X1; clear T2; refine (den_any _ _ _ _ _ _ _ _ _ _ _ n x d (((H.out).below HBW.out).below X1)).mono ?_; rintro e v2 ⟨s2, a2, m2, k2, z2, rfl, i2, g2, u2⟩; have X2 : Below w2.heap.size w2 v2 := X1.trans (u2.mono X1.size); have I2 := Lib.hid i2; clear i2; replace I1 := Lib.hid (I1.out.below u2)) | (go_at_call 84; refine (mul_int _ _ _ _ _ _ _ _ _ _ _ n m (((H.out.top).below HBW.out).below (Below.refl _ _).drew) (((HY.out.top).below HBW.out).below (Below.refl _ _).drew) (by omega) (by omega)).mono ?_; rintro e v1 ⟨s1, a1, m1, k1, z1, rfl, i1, g1, u1⟩; have X1 : Below w2.heap.size w2 v1 := (Below.refl _ _).drew.trans u1; have I1 := Lib.hid i1; clear i1))
  have hr9 := (X5.block _ l2).trans R2.out
  have HQ := Lib.hid (rat_stored (IQ.out) hr9 (.bool rtn) (.slice rta rt rtc) (.bool rbn) (.slice rba rb rbc))
  have HB := Lib.hid (below4 (HBW.out.trans (X5.mono HBW.out.size)) (B := P + 1 + 1) (by have := HP.out; omega) (.bool rtn) (.slice rta rt rtc) (.bool rbn) (.slice rba rb rbc))
  clear hr9
  go_wp2_with fail
  refine bodyPost_ret (v := .agg #[.bool rtn, .slice rta rt rtc, .bool rbn, .slice rba rb rbc]) (by simp [results, Tryz.results44, go_sem, p0, p1, p2, p3]) rfl ?_
  exact ⟨_, _, _, _, _, _, _, _, _, _, _, rfl, HQ.out, grt, grb, HB.out⟩


set_option maxRecDepth 100000 in
set_option maxHeartbeats 4000000 in
theorem mulq_b (w : World) (tn : Bool) (ta : Option Addr) (t tc : Nat) (zt : List Int) (bn : Bool) (ba : Option Addr) (b bc : Nat) (zb : List Int) (n x d : Int) (ytn : Bool) (yta : Option Addr) (yt ytc : Nat) (yzt : List Int) (ybn : Bool) (yba : Option Addr) (yb ybc : Nat) (yzb : List Int) (m u f : Int) (h : RatAt w tn ta t tc zt bn ba b bc zb n x d) (hy : RatAt w ytn yta yt ytc yzt ybn yba yb ybc yzb m u f) (K : Nat) (h1 : t ≤ K) (h2 : b ≤ K) (h3 : yt ≤ K) (h4 : yb ≤ K) (hK : K ≤ 40000) (hd : d = 1) (hf : ¬ f = 1) :
    Calls Tryz.prog 44 #[.agg #[.bool tn, .slice ta t tc, .bool bn, .slice ba b bc], .agg #[.bool ytn, .slice yta yt ytc, .bool ybn, .slice yba yb ybc]] w (RetRat w (qn (n * m) (d * f)) (qd (n * m) (d * f)) (2 * K + 4) (2 * K + 4)) := by
  have H := Lib.hid h
  have HY := Lib.hid hy
  have HD0 : Hid (d * f ≠ 0) := Lib.hid (by have := Int.mul_pos h.low.1 hy.low.1; omega)
  have E1 : Hid (decide (d = 1) = true) := Lib.hid (decide_eq_true hd)
  have E2 : Hid (decide (f = 1) = false) := Lib.hid (decide_eq_false hf)
  clear h hy hd hf
  go_enter Tryz.func44, Tryz.ntmps44
  go_upto_region 1 with (fail)
  obtain ⟨w1, hw1⟩ : ∃ w1, w1 = ((w.alloc (.cells #[.bool tn, .slice ta t tc, .bool bn, .slice ba b bc] 38)).alloc (.cells #[.bool ytn, .slice yta yt ytc, .bool ybn, .slice yba yb ybc] 38)).alloc (.cells #[.bool false, .slice none 0 0, .bool false, .slice none 0 0] 38) := ⟨_, rfl⟩
  have hbw : Below w.heap.size w w1 := by rw [hw1]; go_grown
  have r0 : w1.heap[w.heap.size]? = some (.cells #[.bool tn, .slice ta t tc, .bool bn, .slice ba b bc] 38 (0, 0)) := by
    rw [hw1, heap_alloc_old _ _ (by simp <;> omega), heap_alloc_old _ _ (by simp <;> omega)]
    have := heap_alloc_new w (.cells #[.bool tn, .slice ta t tc, .bool bn, .slice ba b bc] 38)
    simpa using this
  have r1 : w1.heap[w.heap.size + 1]? = some (.cells #[.bool ytn, .slice yta yt ytc, .bool ybn, .slice yba yb ybc] 38 (0, 0)) := by
    rw [hw1, heap_alloc_old _ _ (by simp <;> omega)]
    have := heap_alloc_new (w.alloc (.cells #[.bool tn, .slice ta t tc, .bool bn, .slice ba b bc] 38)) (.cells #[.bool ytn, .slice yta yt ytc, .bool ybn, .slice yba yb ybc] 38)
    simpa using this
  have r2 : w1.heap[w.heap.size + 1 + 1]? = some (.cells #[.bool false, .slice none 0 0, .bool false, .slice none 0 0] 38 (0, 0)) := by
    rw [hw1]
    have := heap_alloc_new ((w.alloc (.cells #[.bool tn, .slice ta t tc, .bool bn, .slice ba b bc] 38)).alloc (.cells #[.bool ytn, .slice yta yt ytc, .bool ybn, .slice yba yb ybc] 38)) (.cells #[.bool false, .slice none 0 0, .bool false, .slice none 0 0] 38)
    simpa using this
  rw [← hw1]
  clear hw1
  obtain ⟨P, hP⟩ : ∃ P, P = w.heap.size := ⟨_, rfl⟩
  rw [← hP] at r0 r1 r2 ⊢
  have HP := Lib.hid hP
  have l2 : P + 1 + 1 < w1.heap.size := (Array.getElem?_eq_some_iff.1 r2).1
  have LR : P + 1 + 1 ≤ w1.heap.size := by omega
  obtain ⟨x00, x01, x02, x03⟩ := blk4 r0
  obtain ⟨x10, x11, x12, x13⟩ := blk4 r1
  have HKP : Hid (∀ w', Below (P + 1 + 1) w1 w' → w'.cell? ⟨P, 0, none⟩ = some (.bool tn) ∧ w'.cell? ⟨P, 1, none⟩ = some (.slice ta t tc) ∧ w'.cell? ⟨P, 2, none⟩ = some (.bool bn) ∧ w'.cell? ⟨P, 3, none⟩ = some (.slice ba b bc) ∧ w'.cell? ⟨P + 1, 0, none⟩ = some (.bool ytn) ∧ w'.cell? ⟨P + 1, 1, none⟩ = some (.slice yta yt ytc) ∧ w'.cell? ⟨P + 1, 2, none⟩ = some (.bool ybn) ∧ w'.cell? ⟨P + 1, 3, none⟩ = some (.slice yba yb ybc)) := Lib.hid (fun w' hb => ⟨(hb.cell (p := ⟨P, 0, none⟩) (by dsimp only; omega)).trans x00, (hb.cell (p := ⟨P, 1, none⟩) (by dsimp only; omega)).trans x01, (hb.cell (p := ⟨P, 2, none⟩) (by dsimp only; omega)).trans x02, (hb.cell (p := ⟨P, 3, none⟩) (by dsimp only; omega)).trans x03, (hb.cell (p := ⟨P + 1, 0, none⟩) (by dsimp only; omega)).trans x10, (hb.cell (p := ⟨P + 1, 1, none⟩) (by dsimp only; omega)).trans x11, (hb.cell (p := ⟨P + 1, 2, none⟩) (by dsimp only; omega)).trans x12, (hb.cell (p := ⟨P + 1, 3, none⟩) (by dsimp only; omega)).trans x13⟩)
  have R2 := Lib.hid r2
  have HBW := Lib.hid hbw
  clear r0 r1 r2 hbw hP
  go_wp2_with fail
  refine (whole_any w1 _ _ _ _ _ _ _ _ _ _ n x d (H.out.below HBW.out)).mono ?_
  rintro e w2 ⟨rfl, u0⟩
  rw [E1.out]
  replace HKP : Hid (∀ w', Below (P + 1 + 1) w2 w' → w'.cell? ⟨P, 0, none⟩ = some (.bool tn) ∧ w'.cell? ⟨P, 1, none⟩ = some (.slice ta t tc) ∧ w'.cell? ⟨P, 2, none⟩ = some (.bool bn) ∧ w'.cell? ⟨P, 3, none⟩ = some (.slice ba b bc) ∧ w'.cell? ⟨P + 1, 0, none⟩ = some (.bool ytn) ∧ w'.cell? ⟨P + 1, 1, none⟩ = some (.slice yta yt ytc) ∧ w'.cell? ⟨P + 1, 2, none⟩ = some (.bool ybn) ∧ w'.cell? ⟨P + 1, 3, none⟩ = some (.slice yba yb ybc)) := Lib.hid (fun w' hb => HKP.out w' ((u0.mono LR).trans hb))
  replace R2 := Lib.hid ((u0.block _ l2).trans R2.out)
  replace HBW := Lib.hid (HBW.out.trans (u0.mono HBW.out.size))
  replace l2 : P + 1 + 1 < w2.heap.size := (Array.getElem?_eq_some_iff.1 R2.out).1
  replace LR : P + 1 + 1 ≤ w2.heap.size := by omega
  clear u0 x00 x01 x02 x03 x10 x11 x12 x13
  obtain ⟨x00, x01, x02, x03, x10, x11, x12, x13⟩ := HKP.out _ (Below.refl _ _)
  go_wp2_with fail
  refine (whole_any w2 _ _ _ _ _ _ _ _ _ _ m u f (HY.out.below HBW.out)).mono ?_
  rintro e w3 ⟨rfl, u0⟩
  rw [E2.out]
  replace HKP : Hid (∀ w', Below (P + 1 + 1) w3 w' → w'.cell? ⟨P, 0, none⟩ = some (.bool tn) ∧ w'.cell? ⟨P, 1, none⟩ = some (.slice ta t tc) ∧ w'.cell? ⟨P, 2, none⟩ = some (.bool bn) ∧ w'.cell? ⟨P, 3, none⟩ = some (.slice ba b bc) ∧ w'.cell? ⟨P + 1, 0, none⟩ = some (.bool ytn) ∧ w'.cell? ⟨P + 1, 1, none⟩ = some (.slice yta yt ytc) ∧ w'.cell? ⟨P + 1, 2, none⟩ = some (.bool ybn) ∧ w'.cell? ⟨P + 1, 3, none⟩ = some (.slice yba yb ybc)) := Lib.hid (fun w' hb => HKP.out w' ((u0.mono LR).trans hb))
  replace R2 := Lib.hid ((u0.block _ l2).trans R2.out)
  replace HBW := Lib.hid (HBW.out.trans (u0.mono HBW.out.size))
  replace l2 : P + 1 + 1 < w3.heap.size := (Array.getElem?_eq_some_iff.1 R2.out).1
  replace LR : P + 1 + 1 ≤ w3.heap.size := by omega
  clear u0 x00 x01 x02 x03 x10 x11 x12 x13
  obtain ⟨x00, x01, x02, x03, x10, x11, x12, x13⟩ := HKP.out _ (Below.refl _ _)
  clear x00 x01 x02 x03 x10 x11 x12 x13
  go_wp2_with fail
  go_region_held3 (fun w' => w'.cell? ⟨P, 0, none⟩ = some (.bool tn) ∧ w'.cell? ⟨P, 1, none⟩ = some (.slice ta t tc) ∧ w'.cell? ⟨P, 2, none⟩ = some (.bool bn) ∧ w'.cell? ⟨P, 3, none⟩ = some (.slice ba b bc) ∧ w'.cell? ⟨P + 1, 0, none⟩ = some (.bool ytn) ∧ w'.cell? ⟨P + 1, 1, none⟩ = some (.slice yta yt ytc) ∧ w'.cell? ⟨P + 1, 2, none⟩ = some (.bool ybn) ∧ w'.cell? ⟨P + 1, 3, none⟩ = some (.slice yba yb ybc)) ((first | exact HKP.out _ (below4 (X5.mono LR) (Nat.le_refl _) _ _ _ _) | exact HKP.out _ (below2 (X5.mono LR) (Nat.le_refl _) _ _) | exact HKP.out _ (X5.mono LR) | exact HKP.out _ (X4.mono LR) | exact HKP.out _ (X3.mono LR) | exact HKP.out _ (X2.mono LR) | exact HKP.out _ (X1.mono LR) | exact HKP.out _ ((Below.refl _ _).drew.mono LR)))
    (first | (go_at_call 76; have T5 := X4; clear T5; refine (lowest_any _ _ _ _ _ _ _ _ _ _ _ (n * m) (d * f) I1.out I4.out HD0.out (2 * K + 4) (by omega) (by omega) (by omega)).mono ?_; rintro e v5 ⟨rtn, rta, rt, rtc, rzt, rbn, rba, rb, rbc, rzb, rx, rfl, iq, grt, grb, u5⟩; have X5 : Below w3.heap.size w3 v5 := X4.trans (u5.mono X4.size); have IQ := Lib.hid iq; clear iq; have r9 := (X5.block _ l2).trans R2.out; obtain ⟨p0, p1, p2, p3⟩ := blk4 r9; obtain ⟨pf0, pf1, pf2, pf3⟩ := blk4f r9) | (go_at_call 84; have T4 := X3; clear T4; refine (mul_int _ _ _ _ _ _ _ _ _ _ _ d f I2.out I3.out (by omega) (by omega)).mono ?_; rintro e v4 ⟨s4, a4, m4, k4, z4, rfl, i4, g4, u4⟩; have X4 : Below w3.heap.size w3 v4 := X3.trans (u4.mono X3.size); have I4 := Lib.hid i4; clear i4 I2 I3; replace I1 := Lib.hid (I1.out.below u4)) | (go_at_call 67; have T3 := X2; clear T3; refine (den_any _ _ _ _ _ _ _ _ _ _ _ m u f (((HY.out).below HBW.out).below X2)).mono ?_; rintro e v3 ⟨s3, a3, m3, k3, z3, rfl, i3, g3, u3⟩; have X3 : Below w3.heap.size w3 v3 := X2.trans (u3.mono X2.size); have I3 := Lib.hid i3; clear i3; replace I1 := Lib.hid (I1.out.below u3); replace I2 := Lib.hid (I2.out.below u3)) | (go_at_call 67; have T2 := X1; clear T2; refine (den_any _ _ _ _ _ _ _ _ _ _ _ n x d (((H.out).below HBW.out).below X1)).mono ?_; rintro e v2 ⟨s2, a2, m2, k2, z2, rfl, i2, g2, u2⟩; have X2 : Below w3.heap.size w3 v2 := X1.trans (u2.mono X1.size); have I2 := Lib.hid i2; clear i2; replace I1 := Lib.hid (I1.out.below u2)) | (go_at_call 84; refine (mul_int _ _ _ _ _ _ _ _ _ _ _ n m (((H.out.top).below HBW.out).below (Below.refl _ _).drew) (((HY.out.top).below HBW.out).below (Below.refl _ _).drew) (by omega) (by omega)).mono ?_; rintro e v1 ⟨s1, a1, m1, k1, z1, rfl, i1, g1, u1⟩; have X1 : Below w3.heap.size w3 v1 := (Below.refl _ _).drew.trans u1; have I1 := Lib.hid i1; clear i1))
  have hr9 := (X5.block _ l2).trans R2.out
  have HQ := Lib.hid (rat_stored (IQ.out) hr9 (.bool rtn) (.slice rta rt rtc) (.bool rbn) (.slice rba rb rbc))
  have HB := Lib.hid (below4 (HBW.out.trans (X5.mono HBW.out.size)) (B := P + 1 + 1) (by have := HP.out; omega) (.bool rtn) (.slice rta rt rtc) (.bool rbn) (.slice rba rb rbc))
  clear hr9
  go_wp2_with fail
  refine bodyPost_ret (v := .agg #[.bool rtn, .slice rta rt rtc, .bool rbn, .slice rba rb rbc]) (by simp [results, Tryz.results44, go_sem, p0, p1, p2, p3]) rfl ?_
  exact ⟨_, _, _, _, _, _, _, _, _, _, _, rfl, HQ.out, grt, grb, HB.out⟩


set_option maxRecDepth 100000 in
set_option maxHeartbeats 4000000 in
theorem mulq_c (w : World) (tn : Bool) (ta : Option Addr) (t tc : Nat) (zt : List Int) (bn : Bool) (ba : Option Addr) (b bc : Nat) (zb : List Int) (n x d : Int) (ytn : Bool) (yta : Option Addr) (yt ytc : Nat) (yzt : List Int) (ybn : Bool) (yba : Option Addr) (yb ybc : Nat) (yzb : List Int) (m u f : Int) (h : RatAt w tn ta t tc zt bn ba b bc zb n x d) (hy : RatAt w ytn yta yt ytc yzt ybn yba yb ybc yzb m u f) (K : Nat) (h1 : t ≤ K) (h2 : b ≤ K) (h3 : yt ≤ K) (h4 : yb ≤ K) (hK : K ≤ 40000) (hd : d = 1) (hf : f = 1) :
    Calls Tryz.prog 44 #[.agg #[.bool tn, .slice ta t tc, .bool bn, .slice ba b bc], .agg #[.bool ytn, .slice yta yt ytc, .bool ybn, .slice yba yb ybc]] w (RetRat w (qn (n * m) (d * f)) (qd (n * m) (d * f)) (2 * K + 4) (2 * K + 4)) := by
  have H := Lib.hid h
  have HY := Lib.hid hy
  have E1 : Hid (decide (d = 1) = true) := Lib.hid (decide_eq_true hd)
  have E2 : Hid (decide (f = 1) = true) := Lib.hid (decide_eq_true hf)
  have E3 : Hid (qn (n * m) (d * f) = n * m) := Lib.hid (by rw [hd, hf]; exact qn_low (low_one _))
  have E4 : Hid (qd (n * m) (d * f) = 1) := Lib.hid (by rw [hd, hf]; exact qd_low (low_one _))
  rw [E3.out, E4.out]
  clear h hy hd hf
  go_enter Tryz.func44, Tryz.ntmps44
  go_upto_region 1 with (fail)
  obtain ⟨w1, hw1⟩ : ∃ w1, w1 = ((w.alloc (.cells #[.bool tn, .slice ta t tc, .bool bn, .slice ba b bc] 38)).alloc (.cells #[.bool ytn, .slice yta yt ytc, .bool ybn, .slice yba yb ybc] 38)).alloc (.cells #[.bool false, .slice none 0 0, .bool false, .slice none 0 0] 38) := ⟨_, rfl⟩
  have hbw : Below w.heap.size w w1 := by rw [hw1]; go_grown
  have r0 : w1.heap[w.heap.size]? = some (.cells #[.bool tn, .slice ta t tc, .bool bn, .slice ba b bc] 38 (0, 0)) := by
    rw [hw1, heap_alloc_old _ _ (by simp <;> omega), heap_alloc_old _ _ (by simp <;> omega)]
    have := heap_alloc_new w (.cells #[.bool tn, .slice ta t tc, .bool bn, .slice ba b bc] 38)
    simpa using this
  have r1 : w1.heap[w.heap.size + 1]? = some (.cells #[.bool ytn, .slice yta yt ytc, .bool ybn, .slice yba yb ybc] 38 (0, 0)) := by
    rw [hw1, heap_alloc_old _ _ (by simp <;> omega)]
    have := heap_alloc_new (w.alloc (.cells #[.bool tn, .slice ta t tc, .bool bn, .slice ba b bc] 38)) (.cells #[.bool ytn, .slice yta yt ytc, .bool ybn, .slice yba yb ybc] 38)
    simpa using this
  have r2 : w1.heap[w.heap.size + 1 + 1]? = some (.cells #[.bool false, .slice none 0 0, .bool false, .slice none 0 0] 38 (0, 0)) := by
    rw [hw1]
    have := heap_alloc_new ((w.alloc (.cells #[.bool tn, .slice ta t tc, .bool bn, .slice ba b bc] 38)).alloc (.cells #[.bool ytn, .slice yta yt ytc, .bool ybn, .slice yba yb ybc] 38)) (.cells #[.bool false, .slice none 0 0, .bool false, .slice none 0 0] 38)
    simpa using this
  rw [← hw1]
  clear hw1
  obtain ⟨P, hP⟩ : ∃ P, P = w.heap.size := ⟨_, rfl⟩
  rw [← hP] at r0 r1 r2 ⊢
  have HP := Lib.hid hP
  have l2 : P + 1 + 1 < w1.heap.size := (Array.getElem?_eq_some_iff.1 r2).1
  have LR : P + 1 + 1 ≤ w1.heap.size := by omega
  obtain ⟨x00, x01, x02, x03⟩ := blk4 r0
  obtain ⟨x10, x11, x12, x13⟩ := blk4 r1
  have HKP : Hid (∀ w', Below (P + 1 + 1) w1 w' → w'.cell? ⟨P, 0, none⟩ = some (.bool tn) ∧ w'.cell? ⟨P, 1, none⟩ = some (.slice ta t tc) ∧ w'.cell? ⟨P, 2, none⟩ = some (.bool bn) ∧ w'.cell? ⟨P, 3, none⟩ = some (.slice ba b bc) ∧ w'.cell? ⟨P + 1, 0, none⟩ = some (.bool ytn) ∧ w'.cell? ⟨P + 1, 1, none⟩ = some (.slice yta yt ytc) ∧ w'.cell? ⟨P + 1, 2, none⟩ = some (.bool ybn) ∧ w'.cell? ⟨P + 1, 3, none⟩ = some (.slice yba yb ybc)) := Lib.hid (fun w' hb => ⟨(hb.cell (p := ⟨P, 0, none⟩) (by dsimp only; omega)).trans x00, (hb.cell (p := ⟨P, 1, none⟩) (by dsimp only; omega)).trans x01, (hb.cell (p := ⟨P, 2, none⟩) (by dsimp only; omega)).trans x02, (hb.cell (p := ⟨P, 3, none⟩) (by dsimp only; omega)).trans x03, (hb.cell (p := ⟨P + 1, 0, none⟩) (by dsimp only; omega)).trans x10, (hb.cell (p := ⟨P + 1, 1, none⟩) (by dsimp only; omega)).trans x11, (hb.cell (p := ⟨P + 1, 2, none⟩) (by dsimp only; omega)).trans x12, (hb.cell (p := ⟨P + 1, 3, none⟩) (by dsimp only; omega)).trans x13⟩)
  have R2 := Lib.hid r2
  have HBW := Lib.hid hbw
  clear r0 r1 r2 hbw hP
  go_wp2_with fail
  refine (whole_any w1 _ _ _ _ _ _ _ _ _ _ n x d (H.out.below HBW.out)).mono ?_
  rintro e w2 ⟨rfl, u0⟩
  rw [E1.out]
  replace HKP : Hid (∀ w', Below (P + 1 + 1) w2 w' → w'.cell? ⟨P, 0, none⟩ = some (.bool tn) ∧ w'.cell? ⟨P, 1, none⟩ = some (.slice ta t tc) ∧ w'.cell? ⟨P, 2, none⟩ = some (.bool bn) ∧ w'.cell? ⟨P, 3, none⟩ = some (.slice ba b bc) ∧ w'.cell? ⟨P + 1, 0, none⟩ = some (.bool ytn) ∧ w'.cell? ⟨P + 1, 1, none⟩ = some (.slice yta yt ytc) ∧ w'.cell? ⟨P + 1, 2, none⟩ = some (.bool ybn) ∧ w'.cell? ⟨P + 1, 3, none⟩ = some (.slice yba yb ybc)) := Lib.hid (fun w' hb => HKP.out w' ((u0.mono LR).trans hb))
  replace R2 := Lib.hid ((u0.block _ l2).trans R2.out)
  replace HBW := Lib.hid (HBW.out.trans (u0.mono HBW.out.size))
  replace l2 : P + 1 + 1 < w2.heap.size := (Array.getElem?_eq_some_iff.1 R2.out).1
  replace LR : P + 1 + 1 ≤ w2.heap.size := by omega
  clear u0 x00 x01 x02 x03 x10 x11 x12 x13
  obtain ⟨x00, x01, x02, x03, x10, x11, x12, x13⟩ := HKP.out _ (Below.refl _ _)
  go_wp2_with fail
  refine (whole_any w2 _ _ _ _ _ _ _ _ _ _ m u f (HY.out.below HBW.out)).mono ?_
  rintro e w3 ⟨rfl, u0⟩
  rw [E2.out]
  replace HKP : Hid (∀ w', Below (P + 1 + 1) w3 w' → w'.cell? ⟨P, 0, none⟩ = some (.bool tn) ∧ w'.cell? ⟨P, 1, none⟩ = some (.slice ta t tc) ∧ w'.cell? ⟨P, 2, none⟩ = some (.bool bn) ∧ w'.cell? ⟨P, 3, none⟩ = some (.slice ba b bc) ∧ w'.cell? ⟨P + 1, 0, none⟩ = some (.bool ytn) ∧ w'.cell? ⟨P + 1, 1, none⟩ = some (.slice yta yt ytc) ∧ w'.cell? ⟨P + 1, 2, none⟩ = some (.bool ybn) ∧ w'.cell? ⟨P + 1, 3, none⟩ = some (.slice yba yb ybc)) := Lib.hid (fun w' hb => HKP.out w' ((u0.mono LR).trans hb))
  replace R2 := Lib.hid ((u0.block _ l2).trans R2.out)
  replace HBW := Lib.hid (HBW.out.trans (u0.mono HBW.out.size))
  replace l2 : P + 1 + 1 < w3.heap.size := (Array.getElem?_eq_some_iff.1 R2.out).1
  replace LR : P + 1 + 1 ≤ w3.heap.size := by omega
  clear u0 x00 x01 x02 x03 x10 x11 x12 x13
  obtain ⟨x00, x01, x02, x03, x10, x11, x12, x13⟩ := HKP.out _ (Below.refl _ _)
  go_wp2_with fail
  refine (mul_int w3 _ _ _ _ _ _ _ _ _ _ n m (H.out.top.below HBW.out) (HY.out.top.below HBW.out) (by omega) (by omega)).mono ?_
  rintro e w4 ⟨s1, a1, m1, k1, z1, rfl, i1, g1, u0⟩
  have I1 := Lib.hid i1
  clear i1
  replace HKP : Hid (∀ w', Below (P + 1 + 1) w4 w' → w'.cell? ⟨P, 0, none⟩ = some (.bool tn) ∧ w'.cell? ⟨P, 1, none⟩ = some (.slice ta t tc) ∧ w'.cell? ⟨P, 2, none⟩ = some (.bool bn) ∧ w'.cell? ⟨P, 3, none⟩ = some (.slice ba b bc) ∧ w'.cell? ⟨P + 1, 0, none⟩ = some (.bool ytn) ∧ w'.cell? ⟨P + 1, 1, none⟩ = some (.slice yta yt ytc) ∧ w'.cell? ⟨P + 1, 2, none⟩ = some (.bool ybn) ∧ w'.cell? ⟨P + 1, 3, none⟩ = some (.slice yba yb ybc)) := Lib.hid (fun w' hb => HKP.out w' ((u0.mono LR).trans hb))
  replace R2 := Lib.hid ((u0.block _ l2).trans R2.out)
  replace HBW := Lib.hid (HBW.out.trans (u0.mono HBW.out.size))
  replace l2 : P + 1 + 1 < w4.heap.size := (Array.getElem?_eq_some_iff.1 R2.out).1
  replace LR : P + 1 + 1 ≤ w4.heap.size := by omega
  clear u0 x00 x01 x02 x03 x10 x11 x12 x13
  obtain ⟨x00, x01, x02, x03, x10, x11, x12, x13⟩ := HKP.out _ (Below.refl _ _)
  go_wp2_with fail
  refine (qof_any w4 _ _ _ _ _ (n * m) I1.out).mono ?_
  rintro e w5 ⟨rtn, rta, rt, rtc, rzt, rbn, rba, rb, rbc, rzb, rx, rfl, iq, grt, grb, u5⟩
  have IQ := Lib.hid iq
  have r9 := (u5.block _ l2).trans R2.out
  obtain ⟨p0, p1, p2, p3⟩ := blk4 r9
  obtain ⟨pf0, pf1, pf2, pf3⟩ := blk4f r9
  clear iq r9 x00 x01 x02 x03 x10 x11 x12 x13

  have hr9 := (u5.block _ l2).trans R2.out
  have HQ := Lib.hid (rat_stored (IQ.out) hr9 (.bool rtn) (.slice rta rt rtc) (.bool rbn) (.slice rba rb rbc))
  have HB := Lib.hid (below4 (HBW.out.trans (u5.mono HBW.out.size)) (B := P + 1 + 1) (by have := HP.out; omega) (.bool rtn) (.slice rta rt rtc) (.bool rbn) (.slice rba rb rbc))
  clear hr9
  go_wp2_with fail
  refine bodyPost_ret (v := .agg #[.bool rtn, .slice rta rt rtc, .bool rbn, .slice rba rb rbc]) (by simp [results, Tryz.results44, go_sem, p0, p1, p2, p3]) rfl ?_
  exact ⟨_, _, _, _, _, _, _, _, _, _, _, rfl, HQ.out, by omega, by omega, HB.out⟩


theorem mulq_any (w : World) (tn : Bool) (ta : Option Addr) (t tc : Nat) (zt : List Int) (bn : Bool) (ba : Option Addr) (b bc : Nat) (zb : List Int) (n x d : Int) (ytn : Bool) (yta : Option Addr) (yt ytc : Nat) (yzt : List Int) (ybn : Bool) (yba : Option Addr) (yb ybc : Nat) (yzb : List Int) (m u f : Int) (h : RatAt w tn ta t tc zt bn ba b bc zb n x d) (hy : RatAt w ytn yta yt ytc yzt ybn yba yb ybc yzb m u f) (K : Nat) (h1 : t ≤ K) (h2 : b ≤ K) (h3 : yt ≤ K) (h4 : yb ≤ K) (hK : K ≤ 40000)  :
    Calls Tryz.prog 44 #[.agg #[.bool tn, .slice ta t tc, .bool bn, .slice ba b bc], .agg #[.bool ytn, .slice yta yt ytc, .bool ybn, .slice yba yb ybc]] w (RetRat w (qn (n * m) (d * f)) (qd (n * m) (d * f)) (2 * K + 4) (2 * K + 4)) := by
  by_cases hd : d = 1
  · by_cases hf : f = 1
    · exact mulq_c w tn ta t tc zt bn ba b bc zb n x d ytn yta yt ytc yzt ybn yba yb ybc yzb m u f h hy K h1 h2 h3 h4 hK hd hf
    · exact mulq_b w tn ta t tc zt bn ba b bc zb n x d ytn yta yt ytc yzt ybn yba yb ybc yzb m u f h hy K h1 h2 h3 h4 hK hd hf
  · exact mulq_a w tn ta t tc zt bn ba b bc zb n x d ytn yta yt ytc yzt ybn yba yb ybc yzb m u f h hy K h1 h2 h3 h4 hK hd

end Go.Proofs.YtdfepdhflnnjpaaGreat
