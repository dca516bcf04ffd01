/- Gcd of the program. -/
import Derived.Test.YtpakfknacmcohaaGcd5
namespace Go.Proofs.Ytpakfknacmcohaa
open Go.RowKit
set_option autoImplicit false
set_option linter.unusedVariables false

def RetClone (v : World) (n : Nat) (xs : List Int) (e : Ending) (v' : World) : Prop :=
  ∃ a k, e = .returned (.slice a n k) ∧ Own v.heap.size v' a n k xs ∧ Below v.heap.size v v'

theorem gcd_divide {B : Nat} {v0 v1 v2 : World} {a1 a2 : Option Addr} {n m k1 k2 : Nat} {xs ys : List Int} {A C : Nat} (o1 : Own v0.heap.size v1 a1 n k1 xs) (o2 : Own v1.heap.size v2 a2 m k2 ys) (h0 : B ≤ v0.heap.size) (u1 : v0.heap.size ≤ v1.heap.size) (u2 : Below v1.heap.size v1 v2)
    (lx : Lim xs) (ly : Lim ys) (tx : Top xs) (ty : Top ys) (hA : val xs = (A : Int)) (hC : val ys = (C : Int)) (N : Nat) (hn : n ≤ N) (hm : m ≤ N) (hN : N ≤ 1000000) :
    Calls Try.prog 93 #[.slice a1 n k1, .slice a2 m k2] v2 (RetNatB B v2 (Nat.gcd A C : Int) (N + 2)) ∧ Calls Try.prog 93 #[.slice a2 m k2, .slice a1 n k1] v2 (RetNatB B v2 (Nat.gcd A C : Int) (N + 2)) := by
  have hs2 := u2.size
  have p1 : Own B v2 a1 n k1 xs := (o1.mono h0).kept u2
  have p2 : Own B v2 a2 m k2 ys := o2.mono (by omega)
  have ne : ∀ g1 g2, a1 = some ⟨g1, 0, none⟩ → a2 = some ⟨g2, 0, none⟩ → g1 ≠ g2 := by
    rintro g1 g2 rfl rfl
    have q1 := o1.block_lt.2
    have q2 := o2.block_lt.1
    omega
  constructor
  · exact divisor_any v2 B N A C n m a1 a2 k1 k2 xs ys p1 p2 ne lx ly tx ty hA hC hn hm hN (by omega)
  · have := divisor_any v2 B N C A m n a2 a1 k2 k1 ys xs p2 p1 (fun g1 g2 e1 e2 => (ne g2 g1 e2 e1).symm) ly lx ty tx hC hA hm hn hN (by omega)
    rwa [Nat.gcd_comm] at this

set_option maxRecDepth 100000 in
set_option maxHeartbeats 2000000 in
theorem gcd_int (w : World) (nx ny : Bool) (ao bo : Option Addr) (n m capa capb : Nat) (xs ys : List Int) (x y : Int) (hx : IntAt w nx ao n capa xs x) (hy : IntAt w ny bo m capb ys y) (N : Nat) (hn : n ≤ N) (hm : m ≤ N) (hN : N ≤ 1000000) :
    Calls Try.prog 44 #[.agg #[.bool nx, .slice ao n capa], .agg #[.bool ny, .slice bo m capb]] w (RetInt w (Nat.gcd x.natAbs y.natAbs : Int) (N + 2)) := by
  obtain ⟨A, hA⟩ : ∃ A : Nat, val xs = (A : Int) := ⟨(val xs).toNat, by have := val_nonneg hx.lim; omega⟩
  obtain ⟨C, hC⟩ : ∃ C : Nat, val ys = (C : Int) := ⟨(val ys).toNat, by have := val_nonneg hy.lim; omega⟩
  have hxA : x.natAbs = A := by have := hx.abs; omega
  have hyC : y.natAbs = C := by have := hy.abs; omega
  rw [hxA, hyC]
  have lx := hx.lim
  have ly := hy.lim
  have tx := hx.top
  have ty := hy.top
  have HX := Lib.hid hx.sl
  have HY := Lib.hid hy.sl
  have HVA := Lib.hid hA
  have HVC := Lib.hid hC
  clear hx hy hxA hyC hA hC
  obtain ⟨G, hG⟩ : ∃ G, Nat.gcd A C = G := ⟨_, rfl⟩
  have HG := Lib.hid hG
  rw [hG]
  clear hG
  go_enter Try.func44, Try.ntmps44
  go_upto_region 1 with (fail)
  obtain ⟨w1, hw1⟩ : ∃ w1, w1 = ((w.alloc (.cells #[.bool nx, .slice ao n capa] 28)).alloc (.cells #[.bool ny, .slice bo m capb] 28)).alloc (.cells #[.bool false, .slice none 0 0] 28) := ⟨_, rfl⟩
  have hbw : Below w.heap.size w w1 := by rw [hw1]; exact (((Below.refl _ _).alloc (Nat.le_refl _) _).alloc (by simp) _).alloc (by simp; omega) _
  have hsz : w1.heap.size = w.heap.size + 1 + 1 + 1 := by rw [hw1]; simp
  have r0 : w1.heap[w.heap.size]? = some (.cells #[.bool nx, .slice ao n capa] 28 (0, 0)) := by rw [hw1, heap_alloc_old _ _ (by simp; omega), heap_alloc_old _ _ (by simp)]; exact heap_alloc_new w _
  have r1 : w1.heap[w.heap.size + 1]? = some (.cells #[.bool ny, .slice bo m capb] 28 (0, 0)) := by
    rw [hw1, heap_alloc_old _ _ (by simp)]
    have := heap_alloc_new (w.alloc (.cells #[.bool nx, .slice ao n capa] 28)) (.cells #[.bool ny, .slice bo m capb] 28)
    simpa using this
  have r2 : w1.heap[w.heap.size + 1 + 1]? = some (.cells #[.bool false, .slice none 0 0] 28 (0, 0)) := by
    rw [hw1]
    have := heap_alloc_new ((w.alloc (.cells #[.bool nx, .slice ao n capa] 28)).alloc (.cells #[.bool ny, .slice bo m capb] 28)) (.cells #[.bool false, .slice none 0 0] 28)
    simpa using this
  rw [← hw1]
  clear hw1
  obtain ⟨p, hp⟩ : ∃ p, p = w.heap.size := ⟨_, rfl⟩
  rw [← hp] at r0 r1 r2 hsz ⊢
  obtain ⟨x0, x1, -, -⟩ := blk2 r0
  obtain ⟨y0, y1, -, -⟩ := blk2 r1
  have hl0 : p < w1.heap.size := by omega
  have hl1 : p + 1 < w1.heap.size := by omega
  have HP := Lib.hid hp
  have R2 := Lib.hid r2
  have HBW := Lib.hid hbw
  have hl2 : p + 1 + 1 < w1.heap.size := by omega
  have HCX : Hid (∀ v, Below w1.heap.size w1 v → Calls Try.prog 85 #[.slice ao n capa] v (RetClone v n xs)) := Lib.hid fun v hv => clone_any v ao n capa xs (HX.out.below (hbw.trans (hv.mono (by omega)))) (by omega)
  have HCY : Hid (∀ v, Below w1.heap.size w1 v → Calls Try.prog 85 #[.slice bo m capb] v (RetClone v m ys)) := Lib.hid fun v hv => clone_any v bo m capb ys (HY.out.below (hbw.trans (hv.mono (by omega)))) (by omega)
  clear r0 r1 r2 hsz hp hbw
  go_wp2_with fail
  go_region_law (first
    | (go_simp; (with_reducible refine (HCX.out _ (by first | exact XB | exact (Below.refl _ _).drew)).mono ?_); rintro e vA ⟨aA, kA, rfl, oA, uA⟩; dsimp only; have XA : Below w1.heap.size w1 vA := (by first | exact XB.trans (uA.mono XB.size) | exact (Below.refl _ _).drew.trans uA); have yA : vA.cell? ⟨p + 1, 1, none⟩ = some (.slice bo m capb) := (XA.cell (p := ⟨p + 1, 1, none⟩) hl1).trans y1)
    | (go_simp; (with_reducible refine (HCY.out _ (by first | exact XA | exact (Below.refl _ _).drew)).mono ?_); rintro e vB ⟨aB, kB, rfl, oB, uB⟩; dsimp only; have XB : Below w1.heap.size w1 vB := (by first | exact XA.trans (uB.mono XA.size) | exact (Below.refl _ _).drew.trans uB); have yB : vB.cell? ⟨p, 1, none⟩ = some (.slice ao n capa) := (XB.cell (p := ⟨p, 1, none⟩) hl0).trans x1)
    | (go_simp; (refine (show Calls Try.prog 93 #[.slice aA n kA, .slice aB m kB] _ (RetNatB w1.heap.size _ (G : Int) (N + 2)) from (by rw [← HG.out]; first | exact (gcd_divide oA oB (by first | exact Nat.le_refl _ | simp) uA.size uB lx ly tx ty HVA.out HVC.out N hn hm hN).1 | (rw [Nat.gcd_comm]; exact (gcd_divide oB oA (by first | exact Nat.le_refl _ | simp) uB.size uA ly lx ty tx HVC.out HVA.out N hm hn hN).2))).mono ?_); rintro e vC ⟨aG, nG, kG, zG, rfl, oG, lG, tG, eG, bG, uG⟩; dsimp only; have XC : Below w1.heap.size w1 vC := (by first | exact XB.trans uG | exact XA.trans uG); have EG := Lib.hid eG; clear eG)
    | (go_simp; (refine (wrap_int vC false aG nG kG zG oG.sl lG (x := (G : Int)) (by rw [EG.out]; rfl)).mono ?_); rintro e vD ⟨sD, aD, nD, kD, zD, rfl, iD, gD, uD⟩; dsimp only; have XD : Below w1.heap.size w1 vD := XC.trans (uD.mono XC.size); have rD := (XD.block _ hl2).trans R2.out; obtain ⟨t0, t1, q0, q1⟩ := blk2 rD; have ID := Lib.hid (iD.stored rD (.bool sD) (.slice aD nD kD)); clear iD rD))
  all_goals
    have hbf := HBW.out.trans (XD.mono HBW.out.size)
    go_wp2_with fail
    refine bodyPost_ret (v := .agg #[.bool sD, .slice aD nD kD]) (by simp [results, Try.results44, go_sem, t0, t1]) rfl ?_
    exact ⟨_, _, _, _, _, rfl, ID.out, by omega, (hbf.setCell (p := ⟨p + 1 + 1, 0, none⟩) (by have := HP.out; dsimp only; omega) _).setCell (p := ⟨p + 1 + 1, 1, none⟩) (by have := HP.out; dsimp only; omega) _⟩
end Go.Proofs.Ytpakfknacmcohaa
