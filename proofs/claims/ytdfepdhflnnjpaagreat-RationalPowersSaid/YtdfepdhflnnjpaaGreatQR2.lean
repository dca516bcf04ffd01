/- Fractions: exact roots, powers. -/
import Derived.Test.YtdfepdhflnnjpaaGreatQR1
import Derived.Test.YtdfepdhflnnjpaaGreatQ12a
namespace Go.Proofs.YtdfepdhflnnjpaaGreat
open Go.RowKit
set_option autoImplicit false
set_option linter.unusedVariables false

/-- A number and true were returned. -/
def RetIB (w : World) (x : Int) (L : Nat) (e : Ending) (w' : World) : Prop :=
  ∃ s ao n cap zs, e = .returned (.tuple #[.agg #[.bool s, .slice ao n cap], .bool true]) ∧ IntAt w' s ao n cap zs x ∧ n ≤ L ∧ Below w.heap.size w w'

theorem abs_sq (a : Int) : cmpI ((a.natAbs : Int) * (a.natAbs : Int)) (a * a) = 0 := cmpI_eq (by rw [Int.natAbs_mul_self' a])
theorem sq_pos (a : Int) : ¬ cmpI (a * a) 0 < 0 := by
  have : 0 ≤ a * a := by rw [← Int.natAbs_mul_self' a]; exact Int.mul_nonneg (by omega) (by omega)
  unfold cmpI; rw [if_neg (by omega)]; split <;> omega
theorem pow_low {n d : Int} (h : Low n d) (k : Nat) : Low (n ^ k) (d ^ k) := by
  refine ⟨Int.pow_pos h.1, ?_⟩
  rw [Int.natAbs_pow, Int.natAbs_pow]
  exact Nat.Coprime.pow k k h.2
theorem root_low {a c : Int} (hc : 0 < c) (h : Low (a * a) (c * c)) : Low (a.natAbs : Int) c := by
  refine ⟨hc, ?_⟩
  have h2 := h.2
  rw [Int.natAbs_mul, Int.natAbs_mul] at h2
  have h3 : Nat.Coprime a.natAbs c.natAbs := Nat.Coprime.coprime_mul_right_right (Nat.Coprime.coprime_mul_right h2)
  simpa using h3


set_option maxRecDepth 100000 in
set_option maxHeartbeats 4000000 in
theorem exroot_sq (w : World) (nx : Bool) (ao : Option Addr) (n cap : Nat) (xs : List Int) (a : Int) (hx : IntAt w nx ao n cap xs (a * a)) (hn : n ≤ 40000) :
    Calls Tryz.prog 93 #[.agg #[.bool nx, .slice ao n cap]] w (RetIB w (a.natAbs : Int) (n + 2)) := by
  have HX := Lib.hid hx
  clear hx
  go_enter Tryz.func93, Tryz.ntmps93
  go_upto_region 1 with (fail)
  obtain ⟨w1, hw1⟩ : ∃ w1, w1 = (w.alloc (.cells #[.bool nx, .slice ao n cap] 31)).alloc (.cells #[.bool false, .slice none 0 0] 31) := ⟨_, rfl⟩
  have hbw : Below w.heap.size w w1 := by rw [hw1]; go_grown
  have r0 : w1.heap[w.heap.size]? = some (.cells #[.bool nx, .slice ao n cap] 31 (0, 0)) := by rw [hw1]; exact (heap_alloc2 w _ _).2
  have r1 : w1.heap[w.heap.size + 1]? = some (.cells #[.bool false, .slice none 0 0] 31 (0, 0)) := by rw [hw1]; exact (heap_alloc2 w _ _).1
  rw [← hw1]
  clear hw1
  obtain ⟨P, hP⟩ : ∃ P, P = w.heap.size := ⟨_, rfl⟩
  rw [← hP] at r0 r1 ⊢
  have HP := Lib.hid hP
  have R0 := Lib.hid r0
  have R1 := Lib.hid r1
  have HBW := Lib.hid hbw
  obtain ⟨x0, x1, -, -⟩ := blk2 r0
  clear r0 r1 hbw hP
  go_wp2_with fail
  refine (root_square w1 _ _ _ _ _ a (HX.out.below HBW.out) (by omega)).mono ?_
  rintro e w2 ⟨s1, a1, m1, k1, z1, rfl, i1, g1, u0⟩
  replace R0 := Lib.hid ((u0.block _ (Array.getElem?_eq_some_iff.1 R0.out).1).trans R0.out)
  replace R1 := Lib.hid ((u0.block _ (Array.getElem?_eq_some_iff.1 R1.out).1).trans R1.out)
  replace HBW := Lib.hid (HBW.out.trans (u0.mono HBW.out.size))
  have I1 := Lib.hid i1
  clear u0 i1 x0 x1
  go_upto_region 2 with (fail)
  obtain ⟨w3, hw3⟩ : ∃ x, x = w2.alloc (.cells #[.bool s1, .slice a1 m1 k1] 31) := ⟨_, rfl⟩
  have u0 : Below w2.heap.size w2 w3 := by rw [hw3]; go_grown
  have ra : IBox w3 w2.heap.size s1 a1 m1 k1 z1 (a.natAbs : Int) := ⟨by rw [hw3]; exact heap_alloc_new w2 _, I1.out.below u0⟩
  rw [← hw3]
  clear hw3
  have hA0 : P + 1 < w2.heap.size := (Array.getElem?_eq_some_iff.1 R1.out).1
  replace R0 := Lib.hid ((u0.block _ (Array.getElem?_eq_some_iff.1 R0.out).1).trans R0.out)
  replace R1 := Lib.hid ((u0.block _ (Array.getElem?_eq_some_iff.1 R1.out).1).trans R1.out)
  have HW3 := Lib.hid (HBW.out.trans (u0.mono HBW.out.size))
  obtain ⟨A, hA⟩ : ∃ A, A = w2.heap.size := ⟨_, rfl⟩
  rw [← hA] at ra hA0 ⊢
  have RA := Lib.hid ra
  have l2 : P + 1 < w3.heap.size := (Array.getElem?_eq_some_iff.1 R1.out).1
  have HKS : Hid (∀ w', Below w3.heap.size w3 w' → w'.cell? ⟨P, 0, none⟩ = some (.bool nx) ∧ w'.cell? ⟨P, 1, none⟩ = some (.slice ao n cap) ∧ w'.cell? ⟨A, 0, none⟩ = some (.bool s1) ∧ w'.cell? ⟨A, 1, none⟩ = some (.slice a1 m1 k1)) := Lib.hid (fun w' hb => by
    obtain ⟨c0, c1, -, -⟩ := blk2 R0.out
    obtain ⟨d0, d1, -, -⟩ := blk2 RA.out.row
    have lc := (Array.getElem?_eq_some_iff.1 R0.out).1
    have le := (Array.getElem?_eq_some_iff.1 RA.out.row).1
    exact ⟨(hb.cell (p := ⟨P, 0, none⟩) lc).trans c0, (hb.cell (p := ⟨P, 1, none⟩) lc).trans c1, (hb.cell (p := ⟨A, 0, none⟩) le).trans d0, (hb.cell (p := ⟨A, 1, none⟩) le).trans d1⟩)
  clear u0 ra hA I1 HBW
  go_wp2_with fail
  go_region_held3 (fun w' => w'.cell? ⟨P, 0, none⟩ = some (.bool nx) ∧ w'.cell? ⟨P, 1, none⟩ = some (.slice ao n cap) ∧ w'.cell? ⟨A, 0, none⟩ = some (.bool s1) ∧ w'.cell? ⟨A, 1, none⟩ = some (.slice a1 m1 k1)) ((first | (obtain ⟨cc0, cc1, cc2, cc3⟩ := HKS.out _ X2; refine ⟨?_, ?_, ?_, ?_⟩ <;> (rw [far2] <;> first | assumption | omega)) | (obtain ⟨cc0, cc1, cc2, cc3⟩ := HKS.out _ X2; refine ⟨?_, ?_, ?_, ?_⟩ <;> (rw [cell_drew, far2] <;> first | assumption | omega)) | exact HKS.out _ X2 | exact HKS.out _ X2.drew | exact HKS.out _ X1 | exact HKS.out _ X1.drew | exact HKS.out _ (Below.refl _ _).drew))
    (first | (go_at_call 63; have T2 := X1; clear T2; refine (cmp_int _ _ _ _ _ _ _ _ _ _ _ _ (a * a) I2.out (HX.out.below (HW3.out.trans (Below.mono X1 HW3.out.size)))).mono ?_; rintro e v2 ⟨rfl, u2⟩; have X2 : Below w3.heap.size w3 v2 := X1.trans (u2.mono X1.size); rw [abs_sq a]; have r9 := (X2.block _ l2).trans R1.out; obtain ⟨p0, p1, pf0, pf1⟩ := blk2 r9) | (go_at_call 84; refine (mul_int _ _ _ _ _ _ _ _ _ _ _ (a.natAbs : Int) (a.natAbs : Int) (RA.out.it.below (Below.refl _ _).drew) (RA.out.it.below (Below.refl _ _).drew) (by omega) (by omega)).mono ?_; rintro e v1 ⟨s2, a2, m2, k2, z2, rfl, i2, g2, u1⟩; have X1 : Below w3.heap.size w3 v1 := (Below.refl _ _).drew.trans u1; have I2 := Lib.hid i2; clear i2))
  have hr9 := (X2.block _ l2).trans R1.out
  have J1 := Lib.hid ((RA.out.it.below X2).stored hr9 (.bool s1) (.slice a1 m1 k1))
  have HB9 := Lib.hid (below2 (HW3.out.trans (X2.mono HW3.out.size)) (B := P + 1) (by have := HP.out; omega) (.bool s1) (.slice a1 m1 k1))
  clear hr9
  go_wp2_with fail
  refine bodyPost_ret (v := .tuple #[.agg #[.bool s1, .slice a1 m1 k1], .bool true]) (by simp [results, Tryz.results93, go_sem, p0, p1]) rfl ?_
  exact ⟨_, _, _, _, _, rfl, J1.out, g1, HB9.out⟩


set_option maxRecDepth 100000 in
set_option maxHeartbeats 4000000 in
theorem root_sqq (w : World) (tn : Bool) (ta : Option Addr) (t tc : Nat) (zt : List Int) (bn : Bool) (ba : Option Addr) (b bc : Nat) (zb : List Int) (a x c : Int) (h : RatAt w tn ta t tc zt bn ba b bc zb (a * a) x (c * c)) (hc : 0 < c) (ht : t ≤ 30000) (hb : b ≤ 30000) :
    Calls Tryz.prog 34 #[.agg #[.bool tn, .slice ta t tc, .bool bn, .slice ba b bc]] w (RetRatE w (a.natAbs : Int) c (t + 2) (max b 2 + 2) 0) := by
  obtain ⟨v, hv⟩ : ∃ v, cmpI (a * a) 0 = v := ⟨_, rfl⟩
  have hv0 : ¬ v < 0 := by rw [← hv]; exact sq_pos a
  have HV := Lib.hid hv
  have H := Lib.hid h
  have HC : Hid ((c.natAbs : Int) = c) := Lib.hid (by omega)
  have HL : Hid (Low (a.natAbs : Int) c) := Lib.hid (root_low hc h.low)
  clear h hc hv
  go_enter Tryz.func34, Tryz.ntmps34
  go_upto_region 1 with (fail)
  obtain ⟨w1, hw1⟩ : ∃ w1, w1 = (w.alloc (.cells #[.bool tn, .slice ta t tc, .bool bn, .slice ba b bc] 38)).alloc (.cells #[.bool false, .slice none 0 0, .bool false, .slice none 0 0] 38) := ⟨_, rfl⟩
  have hbw : Below w.heap.size w w1 := by rw [hw1]; go_grown
  have r0 : w1.heap[w.heap.size]? = some (.cells #[.bool tn, .slice ta t tc, .bool bn, .slice ba b bc] 38 (0, 0)) := by rw [hw1]; exact (heap_alloc2 w _ _).2
  have r1 : w1.heap[w.heap.size + 1]? = some (.cells #[.bool false, .slice none 0 0, .bool false, .slice none 0 0] 38 (0, 0)) := by rw [hw1]; exact (heap_alloc2 w _ _).1
  rw [← hw1]
  clear hw1
  obtain ⟨P, hP⟩ : ∃ P, P = w.heap.size := ⟨_, rfl⟩
  rw [← hP] at r0 r1 ⊢
  have HP := Lib.hid hP
  have R0 := Lib.hid r0
  have R1 := Lib.hid r1
  have HBW := Lib.hid hbw
  obtain ⟨x0, x1, x2, x3⟩ := blk4 r0
  clear r0 r1 hbw hP
  go_wp2_with fail
  refine (signq_any w1 _ _ _ _ _ _ _ _ _ _ (a * a) x (c * c) (H.out.below HBW.out)).mono ?_
  rintro e w2 ⟨rfl, u0⟩
  rw [HV.out]
  replace R0 := Lib.hid ((u0.block _ (Array.getElem?_eq_some_iff.1 R0.out).1).trans R0.out)
  replace R1 := Lib.hid ((u0.block _ (Array.getElem?_eq_some_iff.1 R1.out).1).trans R1.out)
  replace HBW := Lib.hid (HBW.out.trans (u0.mono HBW.out.size))
  clear u0 x0 x1 x2 x3
  obtain ⟨x0, x1, x2, x3⟩ := blk4 R0.out
  go_wp2_with fail
  refine (exroot_sq w2 _ _ _ _ _ a (H.out.top.below HBW.out) (by omega)).mono ?_
  rintro e w3 ⟨s1, a1, m1, k1, z1, rfl, i1, g1, u0⟩
  have I1 := Lib.hid i1
  replace R0 := Lib.hid ((u0.block _ (Array.getElem?_eq_some_iff.1 R0.out).1).trans R0.out)
  replace R1 := Lib.hid ((u0.block _ (Array.getElem?_eq_some_iff.1 R1.out).1).trans R1.out)
  replace HBW := Lib.hid (HBW.out.trans (u0.mono HBW.out.size))
  clear u0 i1 x0 x1 x2 x3
  go_upto_region 4 with (fail)
  obtain ⟨w4, hv⟩ : ∃ x, x = w3.alloc (.cells #[.bool s1, .slice a1 m1 k1] 31) := ⟨_, rfl⟩
  have u0 : Below w3.heap.size w3 w4 := by rw [hv]; go_grown
  have ra : IBox w4 w3.heap.size s1 a1 m1 k1 z1 (a.natAbs : Int) := ⟨by rw [hv]; exact heap_alloc_new w3 _, I1.out.below u0⟩
  rw [← hv]
  clear hv
  replace R0 := Lib.hid ((u0.block _ (Array.getElem?_eq_some_iff.1 R0.out).1).trans R0.out)
  replace R1 := Lib.hid ((u0.block _ (Array.getElem?_eq_some_iff.1 R1.out).1).trans R1.out)
  replace HBW := Lib.hid (HBW.out.trans (u0.mono HBW.out.size))
  obtain ⟨A, hA⟩ : ∃ A, A = w3.heap.size := ⟨_, rfl⟩
  rw [← hA] at ra ⊢
  have RA := Lib.hid ra
  clear u0 ra hA I1
  obtain ⟨x0, x1, x2, x3⟩ := blk4 R0.out
  go_wp2_with fail
  refine (den_any w4 _ _ _ _ _ _ _ _ _ _ (a * a) x (c * c) (H.out.below HBW.out)).mono ?_
  rintro e w5 ⟨s3, a3, m3, k3, z3, rfl, i3, g3, u0⟩
  have I3 := Lib.hid i3
  replace RA := Lib.hid (RA.out.below u0)
  replace R0 := Lib.hid ((u0.block _ (Array.getElem?_eq_some_iff.1 R0.out).1).trans R0.out)
  replace R1 := Lib.hid ((u0.block _ (Array.getElem?_eq_some_iff.1 R1.out).1).trans R1.out)
  replace HBW := Lib.hid (HBW.out.trans (u0.mono HBW.out.size))
  clear u0 i3 x0 x1 x2 x3
  go_wp2_with fail
  refine (exroot_sq w5 _ _ _ _ _ c I3.out (by omega)).mono ?_
  rintro e w6 ⟨s2, a2, m2, k2, z2, rfl, i2, g2, u0⟩
  rw [HC.out] at i2
  have I2 := Lib.hid i2
  replace RA := Lib.hid (RA.out.below u0)
  replace R0 := Lib.hid ((u0.block _ (Array.getElem?_eq_some_iff.1 R0.out).1).trans R0.out)
  replace R1 := Lib.hid ((u0.block _ (Array.getElem?_eq_some_iff.1 R1.out).1).trans R1.out)
  replace HBW := Lib.hid (HBW.out.trans (u0.mono HBW.out.size))
  clear u0 i2 I3
  go_upto_region 7 with (fail)
  obtain ⟨w7, hv⟩ : ∃ x, x = w6.alloc (.cells #[.bool s2, .slice a2 m2 k2] 31) := ⟨_, rfl⟩
  have u0 : Below w6.heap.size w6 w7 := by rw [hv]; go_grown
  have ra : IBox w7 w6.heap.size s2 a2 m2 k2 z2 c := ⟨by rw [hv]; exact heap_alloc_new w6 _, I2.out.below u0⟩
  rw [← hv]
  clear hv
  replace RA := Lib.hid (RA.out.below u0)
  replace R0 := Lib.hid ((u0.block _ (Array.getElem?_eq_some_iff.1 R0.out).1).trans R0.out)
  replace R1 := Lib.hid ((u0.block _ (Array.getElem?_eq_some_iff.1 R1.out).1).trans R1.out)
  replace HBW := Lib.hid (HBW.out.trans (u0.mono HBW.out.size))
  obtain ⟨B, hA⟩ : ∃ A, A = w6.heap.size := ⟨_, rfl⟩
  rw [← hA] at ra ⊢
  have RB := Lib.hid ra
  clear u0 ra hA I2
  obtain ⟨c0, c1, -, -⟩ := blk2 RA.out.row
  obtain ⟨d0, d1, -, -⟩ := blk2 RB.out.row
  obtain ⟨p0, p1, p2, p3⟩ := blk4 R1.out
  obtain ⟨pf0, pf1, pf2, pf3⟩ := blk4f R1.out
  have HQ := Lib.hid (rat_stored ⟨RA.out.it, RB.out.it, .inl rfl, HL.out⟩ R1.out (.bool s1) (.slice a1 m1 k1) (.bool s2) (.slice a2 m2 k2))
  have HB := Lib.hid (below4 HBW.out (B := P + 1) (by have := HP.out; omega) (.bool s1) (.slice a1 m1 k1) (.bool s2) (.slice a2 m2 k2))
  go_wp2_with fail
  refine bodyPost_ret (v := .tuple #[.agg #[.bool s1, .slice a1 m1 k1, .bool s2, .slice a2 m2 k2], .int .i64 0]) (by simp [results, Tryz.results34, go_sem, p0, p1, p2, p3]) rfl ?_
  exact ⟨_, _, _, _, _, _, _, _, _, _, _, rfl, HQ.out, g1, by omega, HB.out⟩


set_option maxRecDepth 100000 in
set_option maxHeartbeats 4000000 in
theorem powq_nat (w : World) (tn : Bool) (ta : Option Addr) (t tc : Nat) (zt : List Int) (bn : Bool) (ba : Option Addr) (b bc : Nat) (zb : List Int) (n x d : Int) (h : RatAt w tn ta t tc zt bn ba b bc zb n x d) (k : Nat) (hk : k ≤ 20) (ht : t ≤ 100) (hb : b ≤ 100) :
    Calls Tryz.prog 32 #[.agg #[.bool tn, .slice ta t tc, .bool bn, .slice ba b bc], .int .i64 (k : Int)] w (RetRatE w (n ^ k) (d ^ k) 2001 2001 0) := by
  have hk0 : ¬ ((k : Int) < 0) := by omega
  have H := Lib.hid h
  have HL : Hid (Low (n ^ k) (d ^ k)) := Lib.hid (pow_low h.low k)
  have HK1 : Hid (32 * t * k < 65536) := Lib.hid (by have := Nat.mul_le_mul (Nat.mul_le_mul (Nat.le_refl 32) ht) hk; omega)
  have HK2 : Hid (∀ q, q ≤ max b 2 → 32 * q * k < 65536) := Lib.hid (fun q hq => by have := Nat.mul_le_mul (Nat.mul_le_mul (Nat.le_refl 32) (show q ≤ 100 by omega)) hk; omega)
  have HG1 : Hid (∀ q, q ≤ t * k + 1 → q ≤ 2001) := Lib.hid (fun q hq => by have := Nat.mul_le_mul ht hk; omega)
  have HG2 : Hid (∀ q m, q ≤ max b 2 → m ≤ q * k + 1 → m ≤ 2001) := Lib.hid (fun q m hq hm => by have := Nat.mul_le_mul (show q ≤ 100 by omega) hk; omega)
  clear h
  go_enter Tryz.func32, Tryz.ntmps32
  go_upto_region 1 with (fail)
  obtain ⟨w1, hw1⟩ : ∃ w1, w1 = (w.alloc (.cells #[.bool tn, .slice ta t tc, .bool bn, .slice ba b bc] 38)).alloc (.cells #[.bool false, .slice none 0 0, .bool false, .slice none 0 0] 38) := ⟨_, rfl⟩
  have hbw : Below w.heap.size w w1 := by rw [hw1]; go_grown
  have r0 : w1.heap[w.heap.size]? = some (.cells #[.bool tn, .slice ta t tc, .bool bn, .slice ba b bc] 38 (0, 0)) := by rw [hw1]; exact (heap_alloc2 w _ _).2
  have r1 : w1.heap[w.heap.size + 1]? = some (.cells #[.bool false, .slice none 0 0, .bool false, .slice none 0 0] 38 (0, 0)) := by rw [hw1]; exact (heap_alloc2 w _ _).1
  rw [← hw1]
  clear hw1
  obtain ⟨P, hP⟩ : ∃ P, P = w.heap.size := ⟨_, rfl⟩
  rw [← hP] at r0 r1 ⊢
  have HP := Lib.hid hP
  have R0 := Lib.hid r0
  have R1 := Lib.hid r1
  have HBW := Lib.hid hbw
  obtain ⟨x0, x1, x2, x3⟩ := blk4 r0
  clear r0 r1 hbw hP
  replace H := Lib.hid (H.out.below HBW.out)
  go_wp2_with fail
  refine (pow_in w1 _ _ _ _ _ n k H.out.top (by omega) HK1.out (by omega)).mono ?_
  rintro e y1 ⟨s1, a1, m1, k1, z1, rfl, i1, g1, u0⟩
  have I1 := Lib.hid i1
  replace H := Lib.hid (H.out.below u0)
  replace R0 := Lib.hid ((u0.block _ (Array.getElem?_eq_some_iff.1 R0.out).1).trans R0.out)
  replace R1 := Lib.hid ((u0.block _ (Array.getElem?_eq_some_iff.1 R1.out).1).trans R1.out)
  replace HBW := Lib.hid (HBW.out.trans (u0.mono HBW.out.size))
  clear u0 i1 x0 x1 x2 x3
  go_upto_region 6 with (fail)
  obtain ⟨y2, hv⟩ : ∃ x, x = y1.alloc (.cells #[.bool s1, .slice a1 m1 k1] 31) := ⟨_, rfl⟩
  have u0 : Below y1.heap.size y1 y2 := by rw [hv]; go_grown
  have ra : IBox y2 y1.heap.size s1 a1 m1 k1 z1 (n ^ k) := ⟨by rw [hv]; exact heap_alloc_new y1 _, I1.out.below u0⟩
  rw [← hv]
  clear hv
  replace H := Lib.hid (H.out.below u0)
  replace R0 := Lib.hid ((u0.block _ (Array.getElem?_eq_some_iff.1 R0.out).1).trans R0.out)
  replace R1 := Lib.hid ((u0.block _ (Array.getElem?_eq_some_iff.1 R1.out).1).trans R1.out)
  replace HBW := Lib.hid (HBW.out.trans (u0.mono HBW.out.size))
  obtain ⟨A, hA⟩ : ∃ A, A = y1.heap.size := ⟨_, rfl⟩
  rw [← hA] at ra ⊢
  have RA := Lib.hid ra
  clear u0 ra hA I1
  obtain ⟨x0, x1, x2, x3⟩ := blk4 R0.out
  go_wp2_with fail
  refine (den_any y2 _ _ _ _ _ _ _ _ _ _ n x d H.out).mono ?_
  rintro e y3 ⟨s3, a3, m3, k3, z3, rfl, i3, g3, u0⟩
  have I3 := Lib.hid i3
  replace RA := Lib.hid (RA.out.below u0)
  replace H := Lib.hid (H.out.below u0)
  replace R0 := Lib.hid ((u0.block _ (Array.getElem?_eq_some_iff.1 R0.out).1).trans R0.out)
  replace R1 := Lib.hid ((u0.block _ (Array.getElem?_eq_some_iff.1 R1.out).1).trans R1.out)
  replace HBW := Lib.hid (HBW.out.trans (u0.mono HBW.out.size))
  clear u0 i3 x0 x1 x2 x3
  go_wp2_with fail
  refine (pow_in y3 _ _ _ _ _ d k I3.out (by omega) (HK2.out _ g3) (by omega)).mono ?_
  rintro e y4 ⟨s2, a2, m2, k2, z2, rfl, i2, g2, u0⟩
  have I2 := Lib.hid i2
  replace RA := Lib.hid (RA.out.below u0)
  replace H := Lib.hid (H.out.below u0)
  replace R0 := Lib.hid ((u0.block _ (Array.getElem?_eq_some_iff.1 R0.out).1).trans R0.out)
  replace R1 := Lib.hid ((u0.block _ (Array.getElem?_eq_some_iff.1 R1.out).1).trans R1.out)
  replace HBW := Lib.hid (HBW.out.trans (u0.mono HBW.out.size))
  clear u0 i2 I3
  go_upto_region 9 with (fail)
  obtain ⟨y5, hv⟩ : ∃ x, x = y4.alloc (.cells #[.bool s2, .slice a2 m2 k2] 31) := ⟨_, rfl⟩
  have u0 : Below y4.heap.size y4 y5 := by rw [hv]; go_grown
  have ra : IBox y5 y4.heap.size s2 a2 m2 k2 z2 (d ^ k) := ⟨by rw [hv]; exact heap_alloc_new y4 _, I2.out.below u0⟩
  rw [← hv]
  clear hv
  replace RA := Lib.hid (RA.out.below u0)
  replace H := Lib.hid (H.out.below u0)
  replace R0 := Lib.hid ((u0.block _ (Array.getElem?_eq_some_iff.1 R0.out).1).trans R0.out)
  replace R1 := Lib.hid ((u0.block _ (Array.getElem?_eq_some_iff.1 R1.out).1).trans R1.out)
  replace HBW := Lib.hid (HBW.out.trans (u0.mono HBW.out.size))
  obtain ⟨B, hA⟩ : ∃ A, A = y4.heap.size := ⟨_, rfl⟩
  rw [← hA] at ra ⊢
  have RB := Lib.hid ra
  clear u0 ra hA I2
  obtain ⟨c0, c1, -, -⟩ := blk2 RA.out.row
  obtain ⟨d0, d1, -, -⟩ := blk2 RB.out.row
  obtain ⟨p0, p1, p2, p3⟩ := blk4 R1.out
  obtain ⟨pf0, pf1, pf2, pf3⟩ := blk4f R1.out
  have HQ := Lib.hid (rat_stored ⟨RA.out.it, RB.out.it, .inl rfl, HL.out⟩ R1.out (.bool s1) (.slice a1 m1 k1) (.bool s2) (.slice a2 m2 k2))
  have HB := Lib.hid (below4 HBW.out (B := P + 1) (by have := HP.out; omega) (.bool s1) (.slice a1 m1 k1) (.bool s2) (.slice a2 m2 k2))
  go_wp2_with fail
  refine bodyPost_ret (v := .tuple #[.agg #[.bool s1, .slice a1 m1 k1, .bool s2, .slice a2 m2 k2], .int .i64 0]) (by simp [results, Tryz.results32, go_sem, p0, p1, p2, p3]) rfl ?_
  exact ⟨_, _, _, _, _, _, _, _, _, _, _, rfl, HQ.out, HG1.out _ g1, HG2.out _ _ g3 g2, HB.out⟩

end Go.Proofs.YtdfepdhflnnjpaaGreat
