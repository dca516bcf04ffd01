/- Fractions: powers below 0. -/
import Derived.Test.YtdfepdhflnnjpaaGreatQR2
namespace Go.Proofs.YtdfepdhflnnjpaaGreat
open Go.RowKit
set_option autoImplicit false
set_option linter.unusedVariables false

theorem bits_one : ∀ k : Fin 21, 0 ≤ bits BinOp.and IntKind.i64 (-(k.val : Int)) 1 ∧ bits BinOp.and IntKind.i64 (-(k.val : Int)) 1 ≤ 1 := by decide +kernel
theorem neg_max (k : Nat) (hk : k ≤ 20) : (if -(k : Int) < wrap64 (-131072 - bits BinOp.and IntKind.i64 (-(k : Int)) 1) then wrap64 (-131072 - bits BinOp.and IntKind.i64 (-(k : Int)) 1) else -(k : Int)) = -(k : Int) := by
  obtain ⟨h1, h2⟩ := bits_one ⟨k, by omega⟩
  simp only at h1 h2
  obtain ⟨b, hb⟩ : ∃ b, bits BinOp.and IntKind.i64 (-(k : Int)) 1 = b := ⟨_, rfl⟩
  rw [hb] at h1 h2 ⊢
  have h3 : wrap64 (-131072 - b) = -131072 - b := by unfold wrap64; omega
  rw [h3, if_neg (by omega)]
theorem neg_wrap (k : Nat) (hk : k ≤ 20) : wrap64 (-(-(k : Int))) = (k : Int) := by unfold wrap64; omega
theorem row_stored4 {w : World} {P : Nat} {a b c d : Value} {t : TypeId} (h : w.heap[P]? = some (.cells #[a, b, c, d] t (0, 0))) (u v x y : Value) :
    ((((w.setCell ⟨P, 0, none⟩ u).setCell ⟨P, 1, none⟩ v).setCell ⟨P, 2, none⟩ x).setCell ⟨P, 3, none⟩ y).heap[P]? = some (.cells #[u, v, x, y] t (0, 0)) := by
  have h1 := heap_setCell_same w P 0 _ t u h
  have h2 := heap_setCell_same _ P 1 _ t v h1
  have h3 := heap_setCell_same _ P 2 _ t x h2
  have h4 := heap_setCell_same _ P 3 _ t y h3
  simpa using h4
theorem heap_stored4 {w : World} {P Q : Nat} (h : Q ≠ P) (u v x y : Value) :
    ((((w.setCell ⟨P, 0, none⟩ u).setCell ⟨P, 1, none⟩ v).setCell ⟨P, 2, none⟩ x).setCell ⟨P, 3, none⟩ y).heap[Q]? = w.heap[Q]? := by
  rw [Below.heap_setCell _ _ _ _ h, Below.heap_setCell _ _ _ _ h, Below.heap_setCell _ _ _ _ h, Below.heap_setCell _ _ _ _ h]


set_option maxRecDepth 100000 in
set_option maxHeartbeats 4000000 in
theorem powq_neg (w : World) (tn : Bool) (ta : Option Addr) (t tc : Nat) (zt : List Int) (bn : Bool) (ba : Option Addr) (b bc : Nat) (zb : List Int) (n x d : Int) (h : RatAt w tn ta t tc zt bn ba b bc zb n x d) (hn : n < 0) (k : Nat) (hk1 : 1 ≤ k) (hk : k ≤ 20) (ht : t ≤ 100) (hb : b ≤ 100) :
    Calls Tryz.prog 32 #[.agg #[.bool tn, .slice ta t tc, .bool bn, .slice ba b bc], .int .i64 (-(k : Int))] w (RetRatE w ((-d) ^ k) ((-n) ^ k) 2001 2001 0) := by
  have hk0 : -(k : Int) < 0 := by omega
  have H := Lib.hid h
  have HN := Lib.hid hn
  have HL : Hid (Low ((-d) ^ k) ((-n) ^ k)) := Lib.hid (pow_low (⟨by omega, by rw [Int.natAbs_neg, Int.natAbs_neg, Nat.gcd_comm]; exact h.low.2⟩) k)
  have hb2 : max b 2 ≤ 100 := by omega
  have HK1 : Hid (∀ q, q ≤ max b 2 → 32 * q * k < 65536) := Lib.hid (fun q hq => by have := Nat.mul_le_mul (Nat.mul_le_mul (Nat.le_refl 32) (show q ≤ 100 by omega)) hk; omega)
  have HK2 : Hid (∀ q, q ≤ max t 2 → 32 * q * k < 65536) := Lib.hid (fun q hq => by have := Nat.mul_le_mul (Nat.mul_le_mul (Nat.le_refl 32) (show q ≤ 100 by omega)) hk; omega)
  have HG1 : Hid (∀ q m, q ≤ max b 2 → m ≤ q * k + 1 → m ≤ 2001) := Lib.hid (fun q m hq hm => by have := Nat.mul_le_mul (show q ≤ 100 by omega) hk; omega)
  have HG2 : Hid (∀ q m, q ≤ max t 2 → m ≤ q * k + 1 → m ≤ 2001) := Lib.hid (fun q m hq hm => by have := Nat.mul_le_mul (show q ≤ 100 by omega) hk; omega)
  clear h hn
  go_enter Tryz.func32, Tryz.ntmps32
  go_upto_region 1 with (fail)
  obtain ⟨w1, hw1⟩ : ∃ w1, w1 = (w.alloc (.cells #[.bool tn, .slice ta t tc, .bool bn, .slice ba b bc] 38)).alloc (.cells #[.bool false, .slice none 0 0, .bool false, .slice none 0 0] 38) := ⟨_, rfl⟩
  have hbw : Below w.heap.size w w1 := by rw [hw1]; go_grown
  have r0 : w1.heap[w.heap.size]? = some (.cells #[.bool tn, .slice ta t tc, .bool bn, .slice ba b bc] 38 (0, 0)) := by rw [hw1]; exact (heap_alloc2 w _ _).2
  have r1 : w1.heap[w.heap.size + 1]? = some (.cells #[.bool false, .slice none 0 0, .bool false, .slice none 0 0] 38 (0, 0)) := by rw [hw1]; exact (heap_alloc2 w _ _).1
  rw [← hw1]
  clear hw1
  obtain ⟨P, hP⟩ : ∃ P, P = w.heap.size := ⟨_, rfl⟩
  rw [← hP] at r0 r1 ⊢
  have HP := Lib.hid hP
  have R0 := Lib.hid r0
  have R1 := Lib.hid r1
  have HBW := Lib.hid hbw
  obtain ⟨x0, x1, x2, x3⟩ := blk4 r0
  clear r0 r1 hbw hP
  go_wp2_with fail
  refine (signq_any w1 _ _ _ _ _ _ _ _ _ _ n x d (H.out.below HBW.out)).mono ?_
  rintro e w2 ⟨rfl, u0⟩
  rw [cmpI_lt HN.out]
  replace R0 := Lib.hid ((u0.block _ (Array.getElem?_eq_some_iff.1 R0.out).1).trans R0.out)
  replace R1 := Lib.hid ((u0.block _ (Array.getElem?_eq_some_iff.1 R1.out).1).trans R1.out)
  replace HBW := Lib.hid (HBW.out.trans (u0.mono HBW.out.size))
  clear u0 x0 x1 x2 x3
  obtain ⟨x0, x1, x2, x3⟩ := blk4 R0.out
  obtain ⟨f0, f1, f2, f3⟩ := blk4f R0.out
  go_wp2_with fail
  refine (invq_neg w2 _ _ _ _ _ _ _ _ _ _ n x d (H.out.below HBW.out) (by omega) (by omega) HN.out).mono ?_
  rintro e w3 ⟨rtn, rta, rt, rtc, rzt, rbn, rba, rb, rbc, rzb, rx, rfl, iq, grt, grb, u0⟩
  have IQ := Lib.hid iq
  replace R0 := Lib.hid ((u0.block _ (Array.getElem?_eq_some_iff.1 R0.out).1).trans R0.out)
  replace R1 := Lib.hid ((u0.block _ (Array.getElem?_eq_some_iff.1 R1.out).1).trans R1.out)
  replace HBW := Lib.hid (HBW.out.trans (u0.mono HBW.out.size))
  clear u0 iq x0 x1 x2 x3 f0 f1 f2 f3
  obtain ⟨x0, x1, x2, x3⟩ := blk4 R0.out
  obtain ⟨f0, f1, f2, f3⟩ := blk4f R0.out
  go_upto_region 5 with (fail)
  rw [neg_max k hk, neg_wrap k hk]
  clear x0 x1 x2 x3 f0 f1 f2 f3 hk0
  obtain ⟨w4, hw4⟩ : ∃ x, x = (((w3.setCell ⟨P, 0, none⟩ (.bool rtn)).setCell ⟨P, 1, none⟩ (.slice rta rt rtc)).setCell ⟨P, 2, none⟩ (.bool rbn)).setCell ⟨P, 3, none⟩ (.slice rba rb rbc) := ⟨_, rfl⟩
  have iq := rat_stored IQ.out R0.out (.bool rtn) (.slice rta rt rtc) (.bool rbn) (.slice rba rb rbc)
  have hb9 := below4 HBW.out (B := P) (by have := HP.out; omega) (.bool rtn) (.slice rta rt rtc) (.bool rbn) (.slice rba rb rbc)
  have r0 := row_stored4 R0.out (.bool rtn) (.slice rta rt rtc) (.bool rbn) (.slice rba rb rbc)
  have r1 := (heap_stored4 (w := w3) (P := P) (Q := P + 1) (by omega) (.bool rtn) (.slice rta rt rtc) (.bool rbn) (.slice rba rb rbc)).trans R1.out
  rw [← hw4] at iq hb9 r0 r1 ⊢
  replace IQ := Lib.hid iq
  replace HBW := Lib.hid hb9
  replace R0 := Lib.hid r0
  replace R1 := Lib.hid r1
  clear iq hb9 r0 r1 hw4
  obtain ⟨x0, x1, x2, x3⟩ := blk4 R0.out
  go_wp2_with fail
  refine (pow_in w4 _ _ _ _ _ (-d) k IQ.out.top (by omega) (HK1.out _ grt) (by omega)).mono ?_
  rintro e y1 ⟨s1, a1, m1, k1, z1, rfl, i1, g1, u0⟩
  have I1 := Lib.hid i1
  replace IQ := Lib.hid (IQ.out.below u0)
  replace R0 := Lib.hid ((u0.block _ (Array.getElem?_eq_some_iff.1 R0.out).1).trans R0.out)
  replace R1 := Lib.hid ((u0.block _ (Array.getElem?_eq_some_iff.1 R1.out).1).trans R1.out)
  replace HBW := Lib.hid (HBW.out.trans (u0.mono HBW.out.size))
  clear u0 i1 x0 x1 x2 x3
  go_upto_region 6 with (fail)
  obtain ⟨y2, hv⟩ : ∃ x, x = y1.alloc (.cells #[.bool s1, .slice a1 m1 k1] 31) := ⟨_, rfl⟩
  have u0 : Below y1.heap.size y1 y2 := by rw [hv]; go_grown
  have ra : IBox y2 y1.heap.size s1 a1 m1 k1 z1 ((-d) ^ k) := ⟨by rw [hv]; exact heap_alloc_new y1 _, I1.out.below u0⟩
  rw [← hv]
  clear hv
  replace IQ := Lib.hid (IQ.out.below u0)
  replace R0 := Lib.hid ((u0.block _ (Array.getElem?_eq_some_iff.1 R0.out).1).trans R0.out)
  replace R1 := Lib.hid ((u0.block _ (Array.getElem?_eq_some_iff.1 R1.out).1).trans R1.out)
  replace HBW := Lib.hid (HBW.out.trans (u0.mono HBW.out.size))
  obtain ⟨A, hA⟩ : ∃ A, A = y1.heap.size := ⟨_, rfl⟩
  rw [← hA] at ra ⊢
  have RA := Lib.hid ra
  clear u0 ra hA I1
  obtain ⟨x0, x1, x2, x3⟩ := blk4 R0.out
  go_wp2_with fail
  refine (den_any y2 _ _ _ _ _ _ _ _ _ _ (-d) rx (-n) IQ.out).mono ?_
  rintro e y3 ⟨s3, a3, m3, k3, z3, rfl, i3, g3, u0⟩
  have I3 := Lib.hid i3
  replace RA := Lib.hid (RA.out.below u0)
  replace IQ := Lib.hid (IQ.out.below u0)
  replace R0 := Lib.hid ((u0.block _ (Array.getElem?_eq_some_iff.1 R0.out).1).trans R0.out)
  replace R1 := Lib.hid ((u0.block _ (Array.getElem?_eq_some_iff.1 R1.out).1).trans R1.out)
  replace HBW := Lib.hid (HBW.out.trans (u0.mono HBW.out.size))
  clear u0 i3 x0 x1 x2 x3
  go_wp2_with fail
  refine (pow_in y3 _ _ _ _ _ (-n) k I3.out (by omega) (HK2.out _ (by omega)) (by omega)).mono ?_
  rintro e y4 ⟨s2, a2, m2, k2, z2, rfl, i2, g2, u0⟩
  have I2 := Lib.hid i2
  replace RA := Lib.hid (RA.out.below u0)
  replace IQ := Lib.hid (IQ.out.below u0)
  replace R0 := Lib.hid ((u0.block _ (Array.getElem?_eq_some_iff.1 R0.out).1).trans R0.out)
  replace R1 := Lib.hid ((u0.block _ (Array.getElem?_eq_some_iff.1 R1.out).1).trans R1.out)
  replace HBW := Lib.hid (HBW.out.trans (u0.mono HBW.out.size))
  clear u0 i2 I3
  go_upto_region 9 with (fail)
  obtain ⟨y5, hv⟩ : ∃ x, x = y4.alloc (.cells #[.bool s2, .slice a2 m2 k2] 31) := ⟨_, rfl⟩
  have u0 : Below y4.heap.size y4 y5 := by rw [hv]; go_grown
  have ra : IBox y5 y4.heap.size s2 a2 m2 k2 z2 ((-n) ^ k) := ⟨by rw [hv]; exact heap_alloc_new y4 _, I2.out.below u0⟩
  rw [← hv]
  clear hv
  replace RA := Lib.hid (RA.out.below u0)
  replace IQ := Lib.hid (IQ.out.below u0)
  replace R0 := Lib.hid ((u0.block _ (Array.getElem?_eq_some_iff.1 R0.out).1).trans R0.out)
  replace R1 := Lib.hid ((u0.block _ (Array.getElem?_eq_some_iff.1 R1.out).1).trans R1.out)
  replace HBW := Lib.hid (HBW.out.trans (u0.mono HBW.out.size))
  obtain ⟨B, hA⟩ : ∃ A, A = y4.heap.size := ⟨_, rfl⟩
  rw [← hA] at ra ⊢
  have RB := Lib.hid ra
  clear u0 ra hA I2
  obtain ⟨c0, c1, -, -⟩ := blk2 RA.out.row
  obtain ⟨d0, d1, -, -⟩ := blk2 RB.out.row
  obtain ⟨p0, p1, p2, p3⟩ := blk4 R1.out
  obtain ⟨pf0, pf1, pf2, pf3⟩ := blk4f R1.out
  have HQ := Lib.hid (rat_stored ⟨RA.out.it, RB.out.it, .inl rfl, HL.out⟩ R1.out (.bool s1) (.slice a1 m1 k1) (.bool s2) (.slice a2 m2 k2))
  have HB := Lib.hid (below4 HBW.out (B := P + 1) (by have := HP.out; omega) (.bool s1) (.slice a1 m1 k1) (.bool s2) (.slice a2 m2 k2))
  go_wp2_with fail
  refine bodyPost_ret (v := .tuple #[.agg #[.bool s1, .slice a1 m1 k1, .bool s2, .slice a2 m2 k2], .int .i64 0]) (by simp [results, Tryz.results32, go_sem, p0, p1, p2, p3]) rfl ?_
  exact ⟨_, _, _, _, _, _, _, _, _, _, _, rfl, HQ.out, HG1.out _ _ grt g1, HG2.out _ _ (by omega) g2, HB.out⟩


set_option maxRecDepth 100000 in
set_option maxHeartbeats 4000000 in
theorem powq_pos (w : World) (tn : Bool) (ta : Option Addr) (t tc : Nat) (zt : List Int) (bn : Bool) (ba : Option Addr) (b bc : Nat) (zb : List Int) (n x d : Int) (h : RatAt w tn ta t tc zt bn ba b bc zb n x d) (hn : 0 < n) (k : Nat) (hk1 : 1 ≤ k) (hk : k ≤ 20) (ht : t ≤ 100) (hb : b ≤ 100) :
    Calls Tryz.prog 32 #[.agg #[.bool tn, .slice ta t tc, .bool bn, .slice ba b bc], .int .i64 (-(k : Int))] w (RetRatE w (d ^ k) (n ^ k) 2001 2001 0) := by
  have hk0 : -(k : Int) < 0 := by omega
  have H := Lib.hid h
  have HN := Lib.hid hn
  have HL : Hid (Low (d ^ k) (n ^ k)) := Lib.hid (pow_low (low_inv h.low hn) k)
  have hb2 : max b 2 ≤ 100 := by omega
  have HK1 : Hid (∀ q, q ≤ max b 2 → 32 * q * k < 65536) := Lib.hid (fun q hq => by have := Nat.mul_le_mul (Nat.mul_le_mul (Nat.le_refl 32) (show q ≤ 100 by omega)) hk; omega)
  have HK2 : Hid (∀ q, q ≤ max t 2 → 32 * q * k < 65536) := Lib.hid (fun q hq => by have := Nat.mul_le_mul (Nat.mul_le_mul (Nat.le_refl 32) (show q ≤ 100 by omega)) hk; omega)
  have HG1 : Hid (∀ q m, q ≤ max b 2 → m ≤ q * k + 1 → m ≤ 2001) := Lib.hid (fun q m hq hm => by have := Nat.mul_le_mul (show q ≤ 100 by omega) hk; omega)
  have HG2 : Hid (∀ q m, q ≤ max t 2 → m ≤ q * k + 1 → m ≤ 2001) := Lib.hid (fun q m hq hm => by have := Nat.mul_le_mul (show q ≤ 100 by omega) hk; omega)
  clear h hn
  go_enter Tryz.func32, Tryz.ntmps32
  go_upto_region 1 with (fail)
  obtain ⟨w1, hw1⟩ : ∃ w1, w1 = (w.alloc (.cells #[.bool tn, .slice ta t tc, .bool bn, .slice ba b bc] 38)).alloc (.cells #[.bool false, .slice none 0 0, .bool false, .slice none 0 0] 38) := ⟨_, rfl⟩
  have hbw : Below w.heap.size w w1 := by rw [hw1]; go_grown
  have r0 : w1.heap[w.heap.size]? = some (.cells #[.bool tn, .slice ta t tc, .bool bn, .slice ba b bc] 38 (0, 0)) := by rw [hw1]; exact (heap_alloc2 w _ _).2
  have r1 : w1.heap[w.heap.size + 1]? = some (.cells #[.bool false, .slice none 0 0, .bool false, .slice none 0 0] 38 (0, 0)) := by rw [hw1]; exact (heap_alloc2 w _ _).1
  rw [← hw1]
  clear hw1
  obtain ⟨P, hP⟩ : ∃ P, P = w.heap.size := ⟨_, rfl⟩
  rw [← hP] at r0 r1 ⊢
  have HP := Lib.hid hP
  have R0 := Lib.hid r0
  have R1 := Lib.hid r1
  have HBW := Lib.hid hbw
  obtain ⟨x0, x1, x2, x3⟩ := blk4 r0
  clear r0 r1 hbw hP
  go_wp2_with fail
  refine (signq_any w1 _ _ _ _ _ _ _ _ _ _ n x d (H.out.below HBW.out)).mono ?_
  rintro e w2 ⟨rfl, u0⟩
  rw [cmpI_gt HN.out]
  replace R0 := Lib.hid ((u0.block _ (Array.getElem?_eq_some_iff.1 R0.out).1).trans R0.out)
  replace R1 := Lib.hid ((u0.block _ (Array.getElem?_eq_some_iff.1 R1.out).1).trans R1.out)
  replace HBW := Lib.hid (HBW.out.trans (u0.mono HBW.out.size))
  clear u0 x0 x1 x2 x3
  obtain ⟨x0, x1, x2, x3⟩ := blk4 R0.out
  obtain ⟨f0, f1, f2, f3⟩ := blk4f R0.out
  go_wp2_with fail
  refine (invq_pos w2 _ _ _ _ _ _ _ _ _ _ n x d (H.out.below HBW.out) (by omega) (by omega) HN.out).mono ?_
  rintro e w3 ⟨rtn, rta, rt, rtc, rzt, rbn, rba, rb, rbc, rzb, rx, rfl, iq, grt, grb, u0⟩
  have IQ := Lib.hid iq
  replace R0 := Lib.hid ((u0.block _ (Array.getElem?_eq_some_iff.1 R0.out).1).trans R0.out)
  replace R1 := Lib.hid ((u0.block _ (Array.getElem?_eq_some_iff.1 R1.out).1).trans R1.out)
  replace HBW := Lib.hid (HBW.out.trans (u0.mono HBW.out.size))
  clear u0 iq x0 x1 x2 x3 f0 f1 f2 f3
  obtain ⟨x0, x1, x2, x3⟩ := blk4 R0.out
  obtain ⟨f0, f1, f2, f3⟩ := blk4f R0.out
  go_upto_region 5 with (fail)
  rw [neg_max k hk, neg_wrap k hk]
  clear x0 x1 x2 x3 f0 f1 f2 f3 hk0
  obtain ⟨w4, hw4⟩ : ∃ x, x = (((w3.setCell ⟨P, 0, none⟩ (.bool rtn)).setCell ⟨P, 1, none⟩ (.slice rta rt rtc)).setCell ⟨P, 2, none⟩ (.bool rbn)).setCell ⟨P, 3, none⟩ (.slice rba rb rbc) := ⟨_, rfl⟩
  have iq := rat_stored IQ.out R0.out (.bool rtn) (.slice rta rt rtc) (.bool rbn) (.slice rba rb rbc)
  have hb9 := below4 HBW.out (B := P) (by have := HP.out; omega) (.bool rtn) (.slice rta rt rtc) (.bool rbn) (.slice rba rb rbc)
  have r0 := row_stored4 R0.out (.bool rtn) (.slice rta rt rtc) (.bool rbn) (.slice rba rb rbc)
  have r1 := (heap_stored4 (w := w3) (P := P) (Q := P + 1) (by omega) (.bool rtn) (.slice rta rt rtc) (.bool rbn) (.slice rba rb rbc)).trans R1.out
  rw [← hw4] at iq hb9 r0 r1 ⊢
  replace IQ := Lib.hid iq
  replace HBW := Lib.hid hb9
  replace R0 := Lib.hid r0
  replace R1 := Lib.hid r1
  clear iq hb9 r0 r1 hw4
  obtain ⟨x0, x1, x2, x3⟩ := blk4 R0.out
  go_wp2_with fail
  refine (pow_in w4 _ _ _ _ _ d k IQ.out.top (by omega) (HK1.out _ grt) (by omega)).mono ?_
  rintro e y1 ⟨s1, a1, m1, k1, z1, rfl, i1, g1, u0⟩
  have I1 := Lib.hid i1
  replace IQ := Lib.hid (IQ.out.below u0)
  replace R0 := Lib.hid ((u0.block _ (Array.getElem?_eq_some_iff.1 R0.out).1).trans R0.out)
  replace R1 := Lib.hid ((u0.block _ (Array.getElem?_eq_some_iff.1 R1.out).1).trans R1.out)
  replace HBW := Lib.hid (HBW.out.trans (u0.mono HBW.out.size))
  clear u0 i1 x0 x1 x2 x3
  go_upto_region 6 with (fail)
  obtain ⟨y2, hv⟩ : ∃ x, x = y1.alloc (.cells #[.bool s1, .slice a1 m1 k1] 31) := ⟨_, rfl⟩
  have u0 : Below y1.heap.size y1 y2 := by rw [hv]; go_grown
  have ra : IBox y2 y1.heap.size s1 a1 m1 k1 z1 (d ^ k) := ⟨by rw [hv]; exact heap_alloc_new y1 _, I1.out.below u0⟩
  rw [← hv]
  clear hv
  replace IQ := Lib.hid (IQ.out.below u0)
  replace R0 := Lib.hid ((u0.block _ (Array.getElem?_eq_some_iff.1 R0.out).1).trans R0.out)
  replace R1 := Lib.hid ((u0.block _ (Array.getElem?_eq_some_iff.1 R1.out).1).trans R1.out)
  replace HBW := Lib.hid (HBW.out.trans (u0.mono HBW.out.size))
  obtain ⟨A, hA⟩ : ∃ A, A = y1.heap.size := ⟨_, rfl⟩
  rw [← hA] at ra ⊢
  have RA := Lib.hid ra
  clear u0 ra hA I1
  obtain ⟨x0, x1, x2, x3⟩ := blk4 R0.out
  go_wp2_with fail
  refine (den_any y2 _ _ _ _ _ _ _ _ _ _ d rx n IQ.out).mono ?_
  rintro e y3 ⟨s3, a3, m3, k3, z3, rfl, i3, g3, u0⟩
  have I3 := Lib.hid i3
  replace RA := Lib.hid (RA.out.below u0)
  replace IQ := Lib.hid (IQ.out.below u0)
  replace R0 := Lib.hid ((u0.block _ (Array.getElem?_eq_some_iff.1 R0.out).1).trans R0.out)
  replace R1 := Lib.hid ((u0.block _ (Array.getElem?_eq_some_iff.1 R1.out).1).trans R1.out)
  replace HBW := Lib.hid (HBW.out.trans (u0.mono HBW.out.size))
  clear u0 i3 x0 x1 x2 x3
  go_wp2_with fail
  refine (pow_in y3 _ _ _ _ _ n k I3.out (by omega) (HK2.out _ (by omega)) (by omega)).mono ?_
  rintro e y4 ⟨s2, a2, m2, k2, z2, rfl, i2, g2, u0⟩
  have I2 := Lib.hid i2
  replace RA := Lib.hid (RA.out.below u0)
  replace IQ := Lib.hid (IQ.out.below u0)
  replace R0 := Lib.hid ((u0.block _ (Array.getElem?_eq_some_iff.1 R0.out).1).trans R0.out)
  replace R1 := Lib.hid ((u0.block _ (Array.getElem?_eq_some_iff.1 R1.out).1).trans R1.out)
  replace HBW := Lib.hid (HBW.out.trans (u0.mono HBW.out.size))
  clear u0 i2 I3
  go_upto_region 9 with (fail)
  obtain ⟨y5, hv⟩ : ∃ x, x = y4.alloc (.cells #[.bool s2, .slice a2 m2 k2] 31) := ⟨_, rfl⟩
  have u0 : Below y4.heap.size y4 y5 := by rw [hv]; go_grown
  have ra : IBox y5 y4.heap.size s2 a2 m2 k2 z2 (n ^ k) := ⟨by rw [hv]; exact heap_alloc_new y4 _, I2.out.below u0⟩
  rw [← hv]
  clear hv
  replace RA := Lib.hid (RA.out.below u0)
  replace IQ := Lib.hid (IQ.out.below u0)
  replace R0 := Lib.hid ((u0.block _ (Array.getElem?_eq_some_iff.1 R0.out).1).trans R0.out)
  replace R1 := Lib.hid ((u0.block _ (Array.getElem?_eq_some_iff.1 R1.out).1).trans R1.out)
  replace HBW := Lib.hid (HBW.out.trans (u0.mono HBW.out.size))
  obtain ⟨B, hA⟩ : ∃ A, A = y4.heap.size := ⟨_, rfl⟩
  rw [← hA] at ra ⊢
  have RB := Lib.hid ra
  clear u0 ra hA I2
  obtain ⟨c0, c1, -, -⟩ := blk2 RA.out.row
  obtain ⟨d0, d1, -, -⟩ := blk2 RB.out.row
  obtain ⟨p0, p1, p2, p3⟩ := blk4 R1.out
  obtain ⟨pf0, pf1, pf2, pf3⟩ := blk4f R1.out
  have HQ := Lib.hid (rat_stored ⟨RA.out.it, RB.out.it, .inl rfl, HL.out⟩ R1.out (.bool s1) (.slice a1 m1 k1) (.bool s2) (.slice a2 m2 k2))
  have HB := Lib.hid (below4 HBW.out (B := P + 1) (by have := HP.out; omega) (.bool s1) (.slice a1 m1 k1) (.bool s2) (.slice a2 m2 k2))
  go_wp2_with fail
  refine bodyPost_ret (v := .tuple #[.agg #[.bool s1, .slice a1 m1 k1, .bool s2, .slice a2 m2 k2], .int .i64 0]) (by simp [results, Tryz.results32, go_sem, p0, p1, p2, p3]) rfl ?_
  exact ⟨_, _, _, _, _, _, _, _, _, _, _, rfl, HQ.out, HG1.out _ _ grt g1, HG2.out _ _ (by omega) g2, HB.out⟩

end Go.Proofs.YtdfepdhflnnjpaaGreat
