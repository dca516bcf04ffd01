/- The greatest integer that is not above a quotient. -/
import Derived.Test.YtdfepdhflnnjpaaGreatQ8
namespace Go.Proofs.YtdfepdhflnnjpaaGreat
open Go.RowKit
set_option autoImplicit false
set_option linter.unusedVariables false

theorem far2 {w : World} {B Q o : Nat} (h : Q ≠ B) (u1 u2 : Value) :
    ((w.setCell ⟨B, 0, none⟩ u1).setCell ⟨B, 1, none⟩ u2).cell? ⟨Q, o, none⟩ = w.cell? ⟨Q, o, none⟩ := by
  unfold World.cell?
  dsimp only
  rw [Below.heap_setCell _ _ _ _ h, Below.heap_setCell _ _ _ _ h]

/-- Two integers were returned. -/
def RetTwo (w : World) (q r : Int) (L M : Nat) (e : Ending) (w' : World) : Prop :=
  ∃ s1 a1 m1 k1 z1 s2 a2 m2 k2 z2, e = .returned (.tuple #[.agg #[.bool s1, .slice a1 m1 k1], .agg #[.bool s2, .slice a2 m2 k2]]) ∧ IntAt w' s1 a1 m1 k1 z1 q ∧ m1 ≤ L ∧ IntAt w' s2 a2 m2 k2 z2 r ∧ m2 ≤ M ∧ Below w.heap.size w w'

set_option maxRecDepth 100000 in
set_option maxHeartbeats 4000000 in
theorem floor_pos (w : World) (nx ny : Bool) (ao bo : Option Addr) (n m capa capb : Nat) (xs ys : List Int) (N D : Int) (hx : IntAt w nx ao n capa xs N) (hy : IntAt w ny bo m capb ys D) (hN : 0 ≤ N) (hD : 0 < D) (hn : n ≤ 1000) :
    Calls Tryz.prog 96 #[.agg #[.bool nx, .slice ao n capa], .agg #[.bool ny, .slice bo m capb]] w (RetTwo w (N.tdiv D) (N.tmod D) n (n + 2)) := by
  have HD : Hid (∀ w1, Below w.heap.size w w1 → Calls Tryz.prog 120 #[.agg #[.bool nx, .slice ao n capa], .agg #[.bool ny, .slice bo m capb]] w1 (RetQR w1 (N.tdiv D) (N.tmod D) n (n + 2))) := Lib.hid (fun w1 hb => divide_int w1 _ _ _ _ _ _ _ _ _ _ N D (hx.below hb) (hy.below hb) (by omega) (by omega))
  have hm0 : 0 ≤ N.tmod D := Int.tmod_nonneg _ hN
  obtain ⟨q, hq⟩ : ∃ q, N.tdiv D = q := ⟨_, rfl⟩
  obtain ⟨r, hr⟩ : ∃ r, N.tmod D = r := ⟨_, rfl⟩
  rw [hq, hr] at HD
  rw [hq, hr]
  rw [hr] at hm0
  obtain ⟨c, hc⟩ : ∃ c, cmpI r 0 = c := ⟨_, rfl⟩
  have hc0 : ¬ c < 0 := by rw [← hc]; unfold cmpI; rw [if_neg (by omega)]; split <;> omega
  have HC := Lib.hid hc
  clear hx hy hN hD hq hr hm0 hc
  go_enter Tryz.func96, Tryz.ntmps96
  go_wp2_with fail
  refine (HD.out _ (by go_grown)).mono ?_
  rintro e w1 ⟨s1, a1, m1, k1, z1, s2, a2, m2, k2, z2, rfl, i1, g1, i2, g2, b⟩
  obtain ⟨hz1, bk1, hb2⟩ := left4 b
  have FR := Lib.hid bk1
  have I1 := Lib.hid i1
  have I2 := Lib.hid i2
  have HB := Lib.hid hb2
  clear b bk1 i1 i2 hb2 HD
  go_upto_region 2 with (fail)
  obtain ⟨w2, hw2⟩ : ∃ w2, w2 = (w1.alloc (.cells #[.bool s1, .slice a1 m1 k1] 31)).alloc (.cells #[.bool s2, .slice a2 m2 k2] 31) := ⟨_, rfl⟩
  have b : Below w1.heap.size w1 w2 := by rw [hw2]; go_grown
  have ra : w2.heap[w1.heap.size]? = some (.cells #[.bool s1, .slice a1 m1 k1] 31 (0, 0)) := by rw [hw2]; exact (heap_alloc2 w1 _ _).2
  have rb : w2.heap[w1.heap.size + 1]? = some (.cells #[.bool s2, .slice a2 m2 k2] 31 (0, 0)) := by rw [hw2]; exact (heap_alloc2 w1 _ _).1
  rw [← hw2]
  clear hw2
  obtain ⟨A, hA⟩ : ∃ A, A = w1.heap.size := ⟨_, rfl⟩
  rw [← hA] at ra rb hz1 ⊢
  replace FR := Lib.hid (Four.below FR.out b (by omega))
  replace I1 := Lib.hid (I1.out.below b)
  replace I2 := Lib.hid (I2.out.below b)
  replace HB := Lib.hid (HB.out.trans (b.mono HB.out.size))
  have RA := Lib.hid ra
  have RB := Lib.hid rb
  obtain ⟨d0, d1, -, -⟩ := blk2 rb
  clear b ra rb hA
  obtain ⟨P, hP⟩ : ∃ P, P = w.heap.size := ⟨_, rfl⟩
  rw [← hP] at hz1 FR ⊢
  have HP := Lib.hid hP
  clear hP
  go_wp2_with fail
  refine (sign_int _ _ _ _ _ _ r I2.out).mono ?_
  rintro e w3 ⟨rfl, b⟩
  rw [HC.out]
  replace FR := Lib.hid (Four.below FR.out b (by have := (Array.getElem?_eq_some_iff.1 RA.out).1; omega))
  replace I1 := Lib.hid (I1.out.below b)
  replace I2 := Lib.hid (I2.out.below b)
  replace HB := Lib.hid (HB.out.trans (b.mono HB.out.size))
  replace RA := Lib.hid ((b.block _ (Array.getElem?_eq_some_iff.1 RA.out).1).trans RA.out)
  replace RB := Lib.hid ((b.block _ (Array.getElem?_eq_some_iff.1 RB.out).1).trans RB.out)
  clear b d0 d1
  have HKS : Hid (∀ w', Below w3.heap.size w3 w' → w'.cell? ⟨A, 0, none⟩ = some (.bool s1) ∧ w'.cell? ⟨A, 1, none⟩ = some (.slice a1 m1 k1) ∧ w'.cell? ⟨A + 1, 0, none⟩ = some (.bool s2) ∧ w'.cell? ⟨A + 1, 1, none⟩ = some (.slice a2 m2 k2)) := Lib.hid (fun w' hb => by
    obtain ⟨c0, c1, -, -⟩ := blk2 RA.out
    obtain ⟨d0, d1, -, -⟩ := blk2 RB.out
    have lc := (Array.getElem?_eq_some_iff.1 RA.out).1
    have le := (Array.getElem?_eq_some_iff.1 RB.out).1
    exact ⟨(hb.cell (p := ⟨A, 0, none⟩) lc).trans c0, (hb.cell (p := ⟨A, 1, none⟩) lc).trans c1, (hb.cell (p := ⟨A + 1, 0, none⟩) le).trans d0, (hb.cell (p := ⟨A + 1, 1, none⟩) le).trans d1⟩)
  have R3 := FR.out.2.2.1
  have R4 := FR.out.2.2.2
  obtain ⟨p0, p1, pf0, pf1⟩ := blk2 R3
  obtain ⟨q0, q1, qf0, qf1⟩ := blk2 R4
  have HR3 := Lib.hid R3
  have HR4 := Lib.hid R4
  clear R3 R4
  go_wp2_with fail
  go_region_held3 (fun w' => w'.cell? ⟨A, 0, none⟩ = some (.bool s1) ∧ w'.cell? ⟨A, 1, none⟩ = some (.slice a1 m1 k1) ∧ w'.cell? ⟨A + 1, 0, none⟩ = some (.bool s2) ∧ w'.cell? ⟨A + 1, 1, none⟩ = some (.slice a2 m2 k2)) ((first | (obtain ⟨cc0, cc1, cc2, cc3⟩ := HKS.out _ (Below.refl _ _); refine ⟨?_, ?_, ?_, ?_⟩ <;> (rw [cell_drew, far2, far2] <;> first | assumption | omega)) | (obtain ⟨cc0, cc1, cc2, cc3⟩ := HKS.out _ (Below.refl _ _); refine ⟨?_, ?_, ?_, ?_⟩ <;> (rw [cell_drew, far2] <;> first | assumption | omega)) | exact HKS.out _ (Below.refl _ _).drew))
    (fail)
  have hk : ((w3.setCell ⟨P + 1 + 1, 0, none⟩ (.bool s1)).setCell ⟨P + 1 + 1, 1, none⟩ (.slice a1 m1 k1)).heap[P + 1 + 1 + 1]? = some (.cells #[.bool false, .slice none 0 0] 31 (0, 0)) := by
    rw [Below.heap_setCell _ _ _ _ (by dsimp only; omega), Below.heap_setCell _ _ _ _ (by dsimp only; omega)]
    exact HR4.out
  have J1 := Lib.hid ((I1.out.stored HR3.out (.bool s1) (.slice a1 m1 k1)).stored hk (.bool s2) (.slice a2 m2 k2))
  have J2 := Lib.hid ((I2.out.stored HR3.out (.bool s1) (.slice a1 m1 k1)).stored hk (.bool s2) (.slice a2 m2 k2))
  have HB9 := Lib.hid (below2 (below2 HB.out (B := P + 1 + 1) (by have := HP.out; omega) (.bool s1) (.slice a1 m1 k1)) (B := P + 1 + 1 + 1) (by have := HP.out; omega) (.bool s2) (.slice a2 m2 k2))
  clear hk
  go_wp2_with fail
  refine bodyPost_ret (v := .tuple #[.agg #[.bool s1, .slice a1 m1 k1], .agg #[.bool s2, .slice a2 m2 k2]]) (by simp [results, Tryz.results96, go_sem, p0, p1, q0, q1]) rfl ?_
  exact ⟨_, _, _, _, _, _, _, _, _, _, rfl, J1.out.below (Below.refl _ _).drew, g1, J2.out.below (Below.refl _ _).drew, g2, HB9.out.drew⟩

end Go.Proofs.YtdfepdhflnnjpaaGreat
