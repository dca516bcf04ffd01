/- Simplest of two fractions above 0; what simplest answers is a hypothesis. -/
import Derived.Test.YtdfepdhflnnjpaaGreatQ13
namespace Go.Proofs.YtdfepdhflnnjpaaGreat
open Go.RowKit
set_option autoImplicit false
set_option linter.unusedVariables false

set_option maxRecDepth 100000 in
set_option maxHeartbeats 4000000 in
theorem simplest_up (w : World) (tn : Bool) (ta : Option Addr) (t tc : Nat) (zt : List Int) (bn : Bool) (ba : Option Addr) (b bc : Nat) (zb : List Int) (n x d : Int) (ytn : Bool) (yta : Option Addr) (yt ytc : Nat) (yzt : List Int) (ybn : Bool) (yba : Option Addr) (yb ybc : Nat) (yzb : List Int) (m u f : Int)
    (h : RatAt w tn ta t tc zt bn ba b bc zb n x d) (hy : RatAt w ytn yta yt ytc yzt ybn yba yb ybc yzb m u f) (ht : t ≤ 100000) (hb : b ≤ 100000) (hyt : yt ≤ 100000) (hyb : yb ≤ 100000) (hlt : n * f < m * d) (hn : 0 < n) (N D : Int) (K M : Nat)
    (hs : ∀ w1, Below w.heap.size w w1 → Calls Tryz.prog 104 #[.agg #[.bool tn, .slice ta t tc, .bool bn, .slice ba b bc], .agg #[.bool ytn, .slice yta yt ytc, .bool ybn, .slice yba yb ybc]] w1 (RetRat w1 N D K M)) :
    Calls Tryz.prog 54 #[.agg #[.bool tn, .slice ta t tc, .bool bn, .slice ba b bc], .agg #[.bool ytn, .slice yta yt ytc, .bool ybn, .slice yba yb ybc]] w (RetRatE w N D K M 0) := by
  have H := Lib.hid h
  have HY := Lib.hid hy
  have HS := Lib.hid hs
  have HLT := Lib.hid hlt
  have HN := Lib.hid hn
  clear h hy hs hlt hn
  go_enter Tryz.func54, Tryz.ntmps54
  go_upto_region 1 with (fail)
  obtain ⟨w1, hw1⟩ : ∃ w1, w1 = ((w.alloc (.cells #[.bool tn, .slice ta t tc, .bool bn, .slice ba b bc] 38)).alloc (.cells #[.bool ytn, .slice yta yt ytc, .bool ybn, .slice yba yb ybc] 38)).alloc (.cells #[.bool false, .slice none 0 0, .bool false, .slice none 0 0] 38) := ⟨_, rfl⟩
  have hbw : Below w.heap.size w w1 := by rw [hw1]; go_grown
  have r0 : w1.heap[w.heap.size]? = some (.cells #[.bool tn, .slice ta t tc, .bool bn, .slice ba b bc] 38 (0, 0)) := by rw [hw1, heap_alloc_old _ _ (by simp; omega)]; exact (heap_alloc2 w _ _).2
  have r1 : w1.heap[w.heap.size + 1]? = some (.cells #[.bool ytn, .slice yta yt ytc, .bool ybn, .slice yba yb ybc] 38 (0, 0)) := by rw [hw1, heap_alloc_old _ _ (by simp)]; exact (heap_alloc2 w _ _).1
  have r2 : w1.heap[w.heap.size + 1 + 1]? = some (.cells #[.bool false, .slice none 0 0, .bool false, .slice none 0 0] 38 (0, 0)) := by
    rw [hw1]
    have := heap_alloc_new ((w.alloc (.cells #[.bool tn, .slice ta t tc, .bool bn, .slice ba b bc] 38)).alloc (.cells #[.bool ytn, .slice yta yt ytc, .bool ybn, .slice yba yb ybc] 38)) (.cells #[.bool false, .slice none 0 0, .bool false, .slice none 0 0] 38)
    simpa using this
  rw [← hw1]
  clear hw1
  obtain ⟨P, hP⟩ : ∃ P, P = w.heap.size := ⟨_, rfl⟩
  rw [← hP] at r0 r1 r2 ⊢
  obtain ⟨x0, x1, x2, x3⟩ := blk4 r0
  obtain ⟨y0, y1, y2, y3⟩ := blk4 r1
  have HP := Lib.hid hP
  have R0 := Lib.hid r0
  have R1 := Lib.hid r1
  have R2 := Lib.hid r2
  have HB := Lib.hid hbw
  clear r0 r1 r2 hbw hP
  go_wp2_with fail
  refine (cmpq_any _ _ _ _ _ _ _ _ _ _ _ n x d _ _ _ _ _ _ _ _ _ _ m u f (H.out.below HB.out) (HY.out.below HB.out) ht hb hyt hyb).mono ?_
  rintro e w2 ⟨rfl, ub⟩
  rw [cmpI_lt HLT.out]
  replace R0 := Lib.hid ((ub.block P (Array.getElem?_eq_some_iff.1 R0.out).1).trans R0.out)
  replace R1 := Lib.hid ((ub.block (P + 1) (Array.getElem?_eq_some_iff.1 R1.out).1).trans R1.out)
  replace R2 := Lib.hid ((ub.block (P + 1 + 1) (Array.getElem?_eq_some_iff.1 R2.out).1).trans R2.out)
  replace HB := Lib.hid (HB.out.trans (ub.mono HB.out.size))
  clear ub x0 x1 x2 x3 y0 y1 y2 y3
  obtain ⟨x0, x1, x2, x3⟩ := blk4 R0.out
  go_wp2_with fail
  refine (signq_any _ _ _ _ _ _ _ _ _ _ _ n x d (H.out.below HB.out)).mono ?_
  rintro e w3 ⟨rfl, ub⟩
  rw [cmpI_gt HN.out]
  replace R0 := Lib.hid ((ub.block P (Array.getElem?_eq_some_iff.1 R0.out).1).trans R0.out)
  replace R1 := Lib.hid ((ub.block (P + 1) (Array.getElem?_eq_some_iff.1 R1.out).1).trans R1.out)
  replace R2 := Lib.hid ((ub.block (P + 1 + 1) (Array.getElem?_eq_some_iff.1 R2.out).1).trans R2.out)
  replace HB := Lib.hid (HB.out.trans (ub.mono HB.out.size))
  clear ub x0 x1 x2 x3
  obtain ⟨x0, x1, x2, x3⟩ := blk4 R0.out
  obtain ⟨y0, y1, y2, y3⟩ := blk4 R1.out
  go_wp2_with fail
  refine (HS.out _ HB.out).mono ?_
  rintro e w4 ⟨sn, sa, s, sc, zs, cn, ca, c, cc, zc, g, rfl, hr, hs, hc, ub⟩
  replace R0 := Lib.hid ((ub.block P (Array.getElem?_eq_some_iff.1 R0.out).1).trans R0.out)
  replace R1 := Lib.hid ((ub.block (P + 1) (Array.getElem?_eq_some_iff.1 R1.out).1).trans R1.out)
  replace R2 := Lib.hid ((ub.block (P + 1 + 1) (Array.getElem?_eq_some_iff.1 R2.out).1).trans R2.out)
  replace HB := Lib.hid (HB.out.trans (ub.mono HB.out.size))
  clear ub x0 x1 x2 x3 y0 y1 y2 y3
  obtain ⟨p0, p1, p2, p3⟩ := blk4 R2.out
  obtain ⟨pf0, pf1, pf2, pf3⟩ := blk4f R2.out
  have HX := Lib.hid (rat_stored hr R2.out (.bool sn) (.slice sa s sc) (.bool cn) (.slice ca c cc))
  have HZ := Lib.hid (below4 HB.out (B := P + 1 + 1) (by have := HP.out; omega) (.bool sn) (.slice sa s sc) (.bool cn) (.slice ca c cc))
  clear hr
  go_wp2_with fail
  refine bodyPost_ret (v := .tuple #[.agg #[.bool sn, .slice sa s sc, .bool cn, .slice ca c cc], .int .i64 0]) (by simp [results, Tryz.results54, go_sem, p0, p1, p2, p3]) rfl ?_
  exact ⟨_, _, _, _, _, _, _, _, _, _, _, rfl, HX.out, hs, hc, HZ.out⟩

end Go.Proofs.YtdfepdhflnnjpaaGreat
