/- The reference's fractions: Of, Int, Whole, Sign, Neg. -/
import Derived.Test.YtdfepdhflnnjpaaGreatQ3
namespace Go.Proofs.YtdfepdhflnnjpaaGreat
open Go.RowKit
set_option autoImplicit false
set_option linter.unusedVariables false


set_option maxRecDepth 100000 in
set_option maxHeartbeats 4000000 in
theorem rof_any (w : World) (sn : Bool) (sa : Option Addr) (sl sc : Nat) (sz : List Int) (n : Int) (h : RefAt w sn sa sl sc sz n) :
    Calls Tryz.prog 21 #[.agg #[.bool sn, .slice sa sl sc]] w (RetFrac w n 1 sl 4) := by
  have H := Lib.hid h
  clear h
  go_enter Tryz.func21, Tryz.ntmps21
  go_upto_region 1 with (fail)
  obtain ⟨w1, hw1⟩ : ∃ w1, w1 = (w.alloc (.cells #[.bool sn, .slice sa sl sc] 34)).alloc (.cells #[.bool false, .slice none 0 0, .bool false, .slice none 0 0] 43) := ⟨_, rfl⟩
  have hbw : Below w.heap.size w w1 := by rw [hw1]; go_grown
  have r0 : w1.heap[w.heap.size]? = some (.cells #[.bool sn, .slice sa sl sc] 34 (0, 0)) := by rw [hw1]; exact (heap_alloc2 w _ _).2
  have r1 : w1.heap[w.heap.size + 1]? = some (.cells #[.bool false, .slice none 0 0, .bool false, .slice none 0 0] 43 (0, 0)) := by rw [hw1]; exact (heap_alloc2 w _ _).1
  rw [← hw1]
  clear hw1
  obtain ⟨P, hP⟩ : ∃ P, P = w.heap.size := ⟨_, rfl⟩
  rw [← hP] at r0 r1 ⊢
  have HP := Lib.hid hP
  have l1 : P + 1 < w1.heap.size := (Array.getElem?_eq_some_iff.1 r1).1
  have LR : P + 1 ≤ w1.heap.size := by omega
  obtain ⟨x0, x1, -, -⟩ := blk2 r0
  have HKP : Hid (∀ w', Below (P + 1) w1 w' → w'.cell? ⟨P, 0, none⟩ = some (.bool sn) ∧ w'.cell? ⟨P, 1, none⟩ = some (.slice sa sl sc)) := Lib.hid (fun w' hb => ⟨(hb.cell (p := ⟨P, 0, none⟩) (by dsimp only; omega)).trans x0, (hb.cell (p := ⟨P, 1, none⟩) (by dsimp only; omega)).trans x1⟩)
  have R1 := Lib.hid r1
  have HBW := Lib.hid hbw
  clear r0 r1 hbw hP x0 x1
  go_region_held3 (fun w' => w'.cell? ⟨P, 0, none⟩ = some (.bool sn) ∧ w'.cell? ⟨P, 1, none⟩ = some (.slice sa sl sc)) ((first | exact HKP.out _ (below4 (X1.mono LR) (Nat.le_refl _) _ _ _ _) | exact HKP.out _ (below2 (X1.mono LR) (Nat.le_refl _) _ _) | exact HKP.out _ (X1.mono LR) | exact HKP.out _ ((Below.refl _ _).drew.mono LR)))
    (first | (go_at_call 82; refine (rone_any _).mono ?_; rintro e v1 ⟨s2, a2, m2, k2, z2, rfl, i2, g2, u1⟩; have X1 : Below w1.heap.size w1 v1 := (Below.refl _ _).drew.trans u1; have I2 := Lib.hid i2; clear i2; have r9 := (X1.block _ l1).trans R1.out; obtain ⟨p0, p1, p2, p3⟩ := blk4 r9; obtain ⟨pf0, pf1, pf2, pf3⟩ := blk4f r9))
  have hr := (X1.block _ l1).trans R1.out
  have HT := Lib.hid (rstored4 ((H.out.below HBW.out).below X1) hr (.bool sn) (.slice sa sl sc) (.bool s2) (.slice a2 m2 k2))
  have HD := Lib.hid (rstored4 I2.out hr (.bool sn) (.slice sa sl sc) (.bool s2) (.slice a2 m2 k2))
  have HB := Lib.hid (below4 (HBW.out.trans (X1.mono HBW.out.size)) (B := P + 1) (by have := HP.out; omega) (.bool sn) (.slice sa sl sc) (.bool s2) (.slice a2 m2 k2))
  clear hr
  go_wp2_with fail
  refine bodyPost_ret (v := .agg #[.bool sn, .slice sa sl sc, .bool s2, .slice a2 m2 k2]) (by simp [results, Tryz.results21, go_sem, p0, p1, p2, p3]) rfl ?_
  exact ⟨_, _, _, _, _, _, _, _, _, _, rfl, ⟨HT.out, HD.out, low_one n⟩, Nat.le_refl _, g2, HB.out⟩

set_option maxRecDepth 100000 in
theorem rint_any (w : World) (n : Int) (h0 : -9223372036854775808 ≤ n) (h1 : n ≤ 9223372036854775807) :
    Calls Tryz.prog 78 #[.int .i64 n] w (RetFrac w n 1 4 4) := by
  go_enter Tryz.func78, Tryz.ntmps78
  go_wp2_with fail
  refine (rnew_any _ n h0 h1).mono ?_
  rintro e w2 ⟨s, a, m, k, z, rfl, i, g, b2⟩
  have r := (b2.block w.heap.size (by go_size)).trans (heap_alloc_new w _)
  have b3 : Below w.heap.size w w2 := Below.trans (by go_grown) (b2.mono (by go_size))
  have hl : w.heap.size < w2.heap.size := (Array.getElem?_eq_some_iff.1 r).1
  have I := Lib.hid i
  clear i b2
  go_wp2_with fail
  refine (rof_any _ _ _ _ _ _ n I.out).mono ?_
  rintro e w3 ⟨tn, ta, t, tc, zt, bn, ba, b, bc, zb, rfl, hr, ht, hb, b4⟩
  have r3 := (b4.block _ hl).trans r
  obtain ⟨p0, p1, p2, p3⟩ := blk4 r3
  obtain ⟨pf0, pf1, pf2, pf3⟩ := blk4f r3
  have HR := Lib.hid (q_stored hr r3 (.bool tn) (.slice ta t tc) (.bool bn) (.slice ba b bc))
  have HB := Lib.hid (below4 (b3.trans (b4.mono b3.size)) (B := w.heap.size) (Nat.le_refl _) (.bool tn) (.slice ta t tc) (.bool bn) (.slice ba b bc))
  clear hr r3 r b3 b4
  go_wp2_with fail
  refine bodyPost_ret (v := .agg #[.bool tn, .slice ta t tc, .bool bn, .slice ba b bc]) (by simp [results, Tryz.results78, go_sem, p0, p1, p2, p3]) rfl ?_
  exact ⟨_, _, _, _, _, _, _, _, _, _, rfl, HR.out, by omega, by omega, HB.out⟩

set_option maxRecDepth 100000 in
theorem rsignq_any (w : World) (tn : Bool) (ta : Option Addr) (t tc : Nat) (zt : List Int) (bn : Bool) (ba : Option Addr) (b bc : Nat) (n : Int) (h : RefAt w tn ta t tc zt n) :
    Calls Tryz.prog 25 #[.agg #[.bool tn, .slice ta t tc, .bool bn, .slice ba b bc]] w (RetV w (.int .i64 (cmpI n 0))) := by
  have H := Lib.hid h
  clear h
  go_enter Tryz.func25, Tryz.ntmps25
  go_wp2_with fail
  refine (rsign_any _ _ _ _ _ _ n (H.out.below (by go_grown))).mono ?_
  rintro e w2 ⟨rfl, b2⟩
  have b3 : Below w.heap.size w w2 := Below.trans (by go_grown) (b2.mono (by go_size))
  clear b2
  go_wp2_with fail
  go_ret
  exact ⟨rfl, b3⟩


set_option maxRecDepth 100000 in
set_option maxHeartbeats 4000000 in
theorem rwhole_any (w : World) (tn : Bool) (ta : Option Addr) (t tc : Nat) (bn : Bool) (ba : Option Addr) (b bc : Nat) (zb : List Int) (d : Int) (h : RefAt w bn ba b bc zb d) (hb0 : b ≤ 4294967296) :
    Calls Tryz.prog 23 #[.agg #[.bool tn, .slice ta t tc, .bool bn, .slice ba b bc]] w (RetV w (.bool (decide (d = 1)))) := by
  have H := Lib.hid h
  clear h
  obtain ⟨c, hc⟩ : ∃ c, cmpI d 1 = c := ⟨_, rfl⟩
  have HC := Lib.hid hc
  have hb : (c == 0) = decide (d = 1) := by
    rw [← hc]; unfold cmpI
    by_cases h1 : d < 1
    · simp [h1]; omega
    · by_cases h2 : 1 < d
      · simp [h1, h2]; omega
      · simp [h1, h2]; omega
  rw [← hb]
  clear hb hc
  go_enter Tryz.func23, Tryz.ntmps23
  go_upto_region 1 with (fail)
  obtain ⟨w1, hw1⟩ : ∃ w1, w1 = w.alloc (.cells #[.bool tn, .slice ta t tc, .bool bn, .slice ba b bc] 43) := ⟨_, rfl⟩
  have hbw : Below w.heap.size w w1 := by rw [hw1]; go_grown
  have r0 : w1.heap[w.heap.size]? = some (.cells #[.bool tn, .slice ta t tc, .bool bn, .slice ba b bc] 43 (0, 0)) := by rw [hw1]; exact heap_alloc_new w _
  rw [← hw1]
  clear hw1
  obtain ⟨P, hP⟩ : ∃ P, P = w.heap.size := ⟨_, rfl⟩
  rw [← hP] at r0 ⊢
  have l0 : P < w1.heap.size := (Array.getElem?_eq_some_iff.1 r0).1
  have LR : P + 1 ≤ w1.heap.size := by omega
  obtain ⟨x0, x1, x2, x3⟩ := blk4 r0
  have HKP : Hid (∀ w', Below (P + 1) w1 w' → w'.cell? ⟨P, 2, none⟩ = some (.bool bn) ∧ w'.cell? ⟨P, 3, none⟩ = some (.slice ba b bc)) := Lib.hid (fun w' hb => ⟨(hb.cell (p := ⟨P, 2, none⟩) (by dsimp only; omega)).trans x2, (hb.cell (p := ⟨P, 3, none⟩) (by dsimp only; omega)).trans x3⟩)
  have HBW := Lib.hid hbw
  clear r0 hbw hP x0 x1 x2 x3
  go_region_held3 (fun w' => w'.cell? ⟨P, 2, none⟩ = some (.bool bn) ∧ w'.cell? ⟨P, 3, none⟩ = some (.slice ba b bc)) ((first | exact HKP.out _ (below4 (X2.mono LR) (Nat.le_refl _) _ _ _ _) | exact HKP.out _ (below2 (X2.mono LR) (Nat.le_refl _) _ _) | exact HKP.out _ (X2.mono LR) | exact HKP.out _ (X1.mono LR) | exact HKP.out _ ((Below.refl _ _).drew.mono LR)))
    (first | (go_at_call 83; have T2 := X1; clear T2; refine (rcmp_any _ _ _ _ _ _ _ _ _ _ _ d 1 ((H.out.below HBW.out).below X1) I2.out (by omega) (by omega)).mono ?_; rintro e v2 ⟨rfl, u2⟩; have X2 : Below w1.heap.size w1 v2 := X1.trans (u2.mono X1.size); rw [HC.out]) | (go_at_call 82; refine (rone_any _).mono ?_; rintro e v1 ⟨s2, a2, m2, k2, z2, rfl, i2, g2, u1⟩; have X1 : Below w1.heap.size w1 v1 := (Below.refl _ _).drew.trans u1; have I2 := Lib.hid i2; clear i2))
  go_wp2_with fail
  go_ret
  exact ⟨rfl, HBW.out.trans (X2.mono HBW.out.size)⟩


set_option maxRecDepth 100000 in
set_option maxHeartbeats 4000000 in
theorem rnegq_any (w : World) (tn : Bool) (ta : Option Addr) (t tc : Nat) (zt : List Int) (bn : Bool) (ba : Option Addr) (b bc : Nat) (zb : List Int) (n d : Int) (h : QAt w tn ta t tc zt bn ba b bc zb n d) :
    Calls Tryz.prog 37 #[.agg #[.bool tn, .slice ta t tc, .bool bn, .slice ba b bc]] w (RetFrac w (-n) d t b) := by
  have H := Lib.hid h
  clear h
  go_enter Tryz.func37, Tryz.ntmps37
  go_upto_region 1 with (fail)
  obtain ⟨w1, hw1⟩ : ∃ w1, w1 = (w.alloc (.cells #[.bool tn, .slice ta t tc, .bool bn, .slice ba b bc] 43)).alloc (.cells #[.bool false, .slice none 0 0, .bool false, .slice none 0 0] 43) := ⟨_, rfl⟩
  have hbw : Below w.heap.size w w1 := by rw [hw1]; go_grown
  have r0 : w1.heap[w.heap.size]? = some (.cells #[.bool tn, .slice ta t tc, .bool bn, .slice ba b bc] 43 (0, 0)) := by rw [hw1]; exact (heap_alloc2 w _ _).2
  have r1 : w1.heap[w.heap.size + 1]? = some (.cells #[.bool false, .slice none 0 0, .bool false, .slice none 0 0] 43 (0, 0)) := by rw [hw1]; exact (heap_alloc2 w _ _).1
  rw [← hw1]
  clear hw1
  obtain ⟨P, hP⟩ : ∃ P, P = w.heap.size := ⟨_, rfl⟩
  rw [← hP] at r0 r1 ⊢
  have HP := Lib.hid hP
  have l1 : P + 1 < w1.heap.size := (Array.getElem?_eq_some_iff.1 r1).1
  have LR : P + 1 ≤ w1.heap.size := by omega
  obtain ⟨x0, x1, x2, x3⟩ := blk4 r0
  have HKP : Hid (∀ w', Below (P + 1) w1 w' → w'.cell? ⟨P, 0, none⟩ = some (.bool tn) ∧ w'.cell? ⟨P, 1, none⟩ = some (.slice ta t tc) ∧ w'.cell? ⟨P, 2, none⟩ = some (.bool bn) ∧ w'.cell? ⟨P, 3, none⟩ = some (.slice ba b bc)) := Lib.hid (fun w' hb => ⟨(hb.cell (p := ⟨P, 0, none⟩) (by dsimp only; omega)).trans x0, (hb.cell (p := ⟨P, 1, none⟩) (by dsimp only; omega)).trans x1, (hb.cell (p := ⟨P, 2, none⟩) (by dsimp only; omega)).trans x2, (hb.cell (p := ⟨P, 3, none⟩) (by dsimp only; omega)).trans x3⟩)
  have R1 := Lib.hid r1
  have HBW := Lib.hid hbw
  clear r0 r1 hbw hP x0 x1 x2 x3
  go_region_held3 (fun w' => w'.cell? ⟨P, 0, none⟩ = some (.bool tn) ∧ w'.cell? ⟨P, 1, none⟩ = some (.slice ta t tc) ∧ w'.cell? ⟨P, 2, none⟩ = some (.bool bn) ∧ w'.cell? ⟨P, 3, none⟩ = some (.slice ba b bc)) ((first | exact HKP.out _ (below4 (X1.mono LR) (Nat.le_refl _) _ _ _ _) | exact HKP.out _ (below2 (X1.mono LR) (Nat.le_refl _) _ _) | exact HKP.out _ (X1.mono LR) | exact HKP.out _ ((Below.refl _ _).drew.mono LR)))
    (first | (go_at_call 79; refine (rneg_any _ _ _ _ _ _ n ((H.out.top.below HBW.out).below (Below.refl _ _).drew)).mono ?_; rintro e v1 ⟨s2, a2, m2, k2, z2, rfl, i2, g2, u1⟩; have X1 : Below w1.heap.size w1 v1 := (Below.refl _ _).drew.trans u1; have I2 := Lib.hid i2; clear i2; have r9 := (X1.block _ l1).trans R1.out; obtain ⟨p0, p1, p2, p3⟩ := blk4 r9; obtain ⟨pf0, pf1, pf2, pf3⟩ := blk4f r9))
  have hr := (X1.block _ l1).trans R1.out
  have HT := Lib.hid (rstored4 I2.out hr (.bool s2) (.slice a2 m2 k2) (.bool bn) (.slice ba b bc))
  have HD := Lib.hid (rstored4 ((H.out.bot.below HBW.out).below X1) hr (.bool s2) (.slice a2 m2 k2) (.bool bn) (.slice ba b bc))
  have HB := Lib.hid (below4 (HBW.out.trans (X1.mono HBW.out.size)) (B := P + 1) (by have := HP.out; omega) (.bool s2) (.slice a2 m2 k2) (.bool bn) (.slice ba b bc))
  clear hr
  go_wp2_with fail
  refine bodyPost_ret (v := .agg #[.bool s2, .slice a2 m2 k2, .bool bn, .slice ba b bc]) (by simp [results, Tryz.results37, go_sem, p0, p1, p2, p3]) rfl ?_
  exact ⟨_, _, _, _, _, _, _, _, _, _, rfl, ⟨HT.out, HD.out, low_neg H.out.low⟩, g2, Nat.le_refl _, HB.out⟩

end Go.Proofs.YtdfepdhflnnjpaaGreat
