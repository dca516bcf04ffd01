/- simplest of 31/100 and 8/25. -/
import Derived.Test.YtdfepdhflnnjpaaGreatQ15
import Derived.Test.YtdfepdhflnnjpaaGreatQ16a
import Derived.Deep.DeepCutAuto
import Derived.Deep.LoopGhost
namespace Go.Proofs.YtdfepdhflnnjpaaGreat
open Go.RowKit
set_option autoImplicit false
set_option linter.unusedVariables false

/-- A row of three integers. -/
theorem Rowed.three {w : World} {B g cap : Nat} {x0 x1 x2 : Int} (h : Rowed w B (.slice (some ⟨g, 0, none⟩) 3 cap) [x0, x1, x2]) :
    ∃ s0 a0 m0 k0 z0 s1 a1 m1 k1 z1 s2 a2 m2 k2 z2, Row3 w g s0 a0 m0 k0 z0 x0 s1 a1 m1 k1 z1 x1 s2 a2 m2 k2 z2 x2 ∧ 3 ≤ cap ∧ B ≤ g := by
  obtain ⟨cs, h1, -, s0, a0, m0, k0, z0, c0, rfl, i0, s1, a1, m1, k1, z1, c1, rfl, i1, s2, a2, m2, k2, z2, c2, rfl, i2, h3⟩ := h
  have h3 : c2 = [] := h3
  subst h3
  exact ⟨s0, a0, m0, k0, z0, s1, a1, m1, k1, z1, s2, a2, m2, k2, z2, row3_owned h1 i0 i1 i2⟩

def sliceLen : Value → Nat
  | .slice _ n _ => n
  | _ => 0

/-- The states at the head of simplest's round. -/
def SR (w : World) (B bA bB bC bE bO P2 : Nat) (l : Value) (wr : World) : Prop :=
  (l = .slice none 0 0 ∧ Five w wr w.heap.size B bA bB bC bE bO P2 (some (.cells #[.bool false, .slice none 0 0, .bool false, .slice none 0 0] 38 (0, 0))) 31 100 8 25 l []) ∨
  ((∃ g cap, l = .slice (some ⟨g, 0, none⟩) 1 cap) ∧ Five w wr w.heap.size B bA bB bC bE bO P2 (some (.cells #[.bool false, .slice none 0 0, .bool false, .slice none 0 0] 38 (0, 0))) 25 8 100 31 l [0]) ∨
  ((∃ g cap, l = .slice (some ⟨g, 0, none⟩) 2 cap) ∧ Five w wr w.heap.size B bA bB bC bE bO P2 (some (.cells #[.bool false, .slice none 0 0, .bool false, .slice none 0 0] 38 (0, 0))) 31 7 8 1 l [0, 3])

set_option maxRecDepth 100000 in
set_option maxHeartbeats 8000000 in
theorem simplest_awake (w : World) (nA : Bool) (aA : Option Addr) (kA cA : Nat) (zA : List Int) (dA : Bool) (eA : Option Addr) (fA gA : Nat) (yA : List Int) (xA : Int) (nC : Bool) (aC : Option Addr) (kC cC : Nat) (zC : List Int) (dC : Bool) (eC : Option Addr) (fC gC : Nat) (yC : List Int) (xC : Int)
    (hA : RatAt w nA aA kA cA zA dA eA fA gA yA 31 xA 100) (hC : RatAt w nC aC kC cC zC dC eC fC gC yC 8 xC 25) (hkA : kA ≤ 10) (hfA : fA ≤ 10) (hkC : kC ≤ 10) (hfC : fC ≤ 10) :
    Calls Tryz.prog 104 #[.agg #[.bool nA, .slice aA kA cA, .bool dA, .slice eA fA gA], .agg #[.bool nC, .slice aC kC cC, .bool dC, .slice eC fC gC]] w (RetRat w 5 16 100 100) := by
  have QA := Lib.hid hA
  have QC := Lib.hid hC
  clear hA hC
  go_enter Tryz.func104, Tryz.ntmps104
  go_upto_region 1 with (fail)
  obtain ⟨w1, hw1⟩ : ∃ w1, w1 = ((w.alloc (.cells #[.bool nA, .slice aA kA cA, .bool dA, .slice eA fA gA] 38)).alloc (.cells #[.bool nC, .slice aC kC cC, .bool dC, .slice eC fC gC] 38)).alloc (.cells #[.bool false, .slice none 0 0, .bool false, .slice none 0 0] 38) := ⟨_, rfl⟩
  have hbw : Below w.heap.size w w1 := by rw [hw1]; go_grown
  have r0 : w1.heap[w.heap.size]? = some (.cells #[.bool nA, .slice aA kA cA, .bool dA, .slice eA fA gA] 38 (0, 0)) := by rw [hw1, heap_alloc_old _ _ (by simp; omega)]; exact (heap_alloc2 w _ _).2
  have r1 : w1.heap[w.heap.size + 1]? = some (.cells #[.bool nC, .slice aC kC cC, .bool dC, .slice eC fC gC] 38 (0, 0)) := by rw [hw1, heap_alloc_old _ _ (by simp)]; exact (heap_alloc2 w _ _).1
  have r2 : w1.heap[w.heap.size + 1 + 1]? = some (.cells #[.bool false, .slice none 0 0, .bool false, .slice none 0 0] 38 (0, 0)) := by
    rw [hw1]
    have := heap_alloc_new ((w.alloc (.cells #[.bool nA, .slice aA kA cA, .bool dA, .slice eA fA gA] 38)).alloc (.cells #[.bool nC, .slice aC kC cC, .bool dC, .slice eC fC gC] 38)) (.cells #[.bool false, .slice none 0 0, .bool false, .slice none 0 0] 38)
    simpa using this
  rw [← hw1]
  clear hw1
  obtain ⟨P, hP⟩ : ∃ P, P = w.heap.size := ⟨_, rfl⟩
  rw [← hP] at r0 r1 r2 ⊢
  have HP := Lib.hid hP
  have R0 := Lib.hid r0
  have R1 := Lib.hid r1
  have R2 := Lib.hid r2
  have HB := Lib.hid hbw
  clear r0 r1 r2 hbw hP
  go_wp2_with fail
  refine (new_int _ 1 (by omega) (by omega)).mono ?_
  rintro e w2 ⟨sO, aO, kO, cO, zO, rfl, iO, gO, ub⟩
  go_upto_region 2 with (fail)
  obtain ⟨w3, hw3⟩ : ∃ w3, w3 = w2.alloc (.cells #[.bool sO, .slice aO kO cO] 31) := ⟨_, rfl⟩
  obtain ⟨bO, hbO⟩ : ∃ b, b = w2.heap.size := ⟨_, rfl⟩
  have u3 : Below w2.heap.size w2 w3 := by rw [hw3]; go_grown
  have BO := Lib.hid (show IBox w3 bO sO aO kO cO zO 1 from ⟨by rw [hw3, hbO]; exact heap_alloc_new w2 _, iO.below u3⟩)
  rw [← hw3, ← hbO]
  have hbO1 : P + 1 + 1 < bO := by have h1 := (Array.getElem?_eq_some_iff.1 R2.out).1; have h2 := ub.size; omega
  replace ub := ub.trans (u3.mono ub.size)
  replace R0 := Lib.hid ((ub.block P (Array.getElem?_eq_some_iff.1 R0.out).1).trans R0.out)
  replace R1 := Lib.hid ((ub.block (P + 1) (Array.getElem?_eq_some_iff.1 R1.out).1).trans R1.out)
  replace R2 := Lib.hid ((ub.block (P + 1 + 1) (Array.getElem?_eq_some_iff.1 R2.out).1).trans R2.out)
  replace HB := Lib.hid (HB.out.trans (ub.mono HB.out.size))
  clear hw3 hbO iO ub u3
  replace QA := Lib.hid (QA.out.below HB.out)
  replace QC := Lib.hid (QC.out.below HB.out)
  have IA := Lib.hid QA.out.top
  have HDN : Hid (∀ w', Below w3.heap.size w3 w' → Calls Tryz.prog 67 #[.agg #[.bool nA, .slice aA kA cA, .bool dA, .slice eA fA gA]] w' (RetInt w' 100 (max fA 2))) := Lib.hid (fun w' hb => den_any w' _ _ _ _ _ _ _ _ _ _ 31 xA 100 (QA.out.below hb))
  have l0 : P < w3.heap.size := (Array.getElem?_eq_some_iff.1 R0.out).1
  obtain ⟨x0, x1, x2, x3⟩ := blk4 R0.out
  have HKP : Hid (∀ w', Below w3.heap.size w3 w' → w'.cell? ⟨P, 0, none⟩ = some (.bool nA) ∧ w'.cell? ⟨P, 1, none⟩ = some (.slice aA kA cA) ∧ w'.cell? ⟨P, 2, none⟩ = some (.bool dA) ∧ w'.cell? ⟨P, 3, none⟩ = some (.slice eA fA gA)) := Lib.hid (fun w' hb => ⟨(hb.cell (p := ⟨P, 0, none⟩) l0).trans x0, (hb.cell (p := ⟨P, 1, none⟩) l0).trans x1, (hb.cell (p := ⟨P, 2, none⟩) l0).trans x2, (hb.cell (p := ⟨P, 3, none⟩) l0).trans x3⟩)
  clear x0 x1 x2 x3
  go_cut [6, 7] (fun pa pb wx => ∃ bA bB : Nat, pa = .pointer (some ⟨bA, 0, none⟩) ∧ pb = .pointer (some ⟨bB, 0, none⟩) ∧ w3.heap.size ≤ bA ∧ w3.heap.size ≤ bB ∧ bA ≠ bB ∧ ∃ nA' aA' kA' cA' zA' nB aB kB cB zB, IBox wx bA nA' aA' kA' cA' zA' 31 ∧ IBox wx bB nB aB kB cB zB 100 ∧ kA' ≤ 10 ∧ kB ≤ 10 ∧ Below w3.heap.size w3 wx)
  case first =>
    as_aux_lemma =>
    refine wp_region_noPanic ?_
    refine wp_region_held_drew (S := (fun w' => w'.cell? ⟨P, 0, none⟩ = some (.bool nA) ∧ w'.cell? ⟨P, 1, none⟩ = some (.slice aA kA cA) ∧ w'.cell? ⟨P, 2, none⟩ = some (.bool dA) ∧ w'.cell? ⟨P, 3, none⟩ = some (.slice eA fA gA))) (by kernel_rfl) ?_ (fun hH0 => ?_)
    · exact HKP.out _ (Below.refl _ _).drew
    refine wpAnyH_take (i := 0) (oi := ({ dst := some 18, op := Op.fieldAddr 38 (Operand.tmp 2) 0, type := 0, pos := "continued.go:67", after := #[], guard := none } : Oper)) (v := ?_) rfl (by kernel_rfl) (by kernel_rfl) (by kernel_rfl) (fun _ _ _ h => h) (Or.inl ⟨by rfl, ?_⟩) (by assumption) ?_
    rotate_left
    · (intro w hSw; (try dsimp only at hSw); go_simp; try with_reducible rfl)
    (try simp only [Act.put, List.setIfInBounds_toArray, List.set_cons_zero, List.set_cons_succ])
    refine wpAnyH_take (i := 1) (oi := ({ dst := some 19, op := Op.load 31 (Operand.tmp 18), type := 31, pos := "continued.go:67", after := #[{ on := 0, ground := Ground.data }], guard := none } : Oper)) (v := ?_) rfl (by kernel_rfl) (by kernel_rfl) (by kernel_rfl) (fun _ _ _ h => h) (Or.inl ⟨by rfl, ?_⟩) (by assumption) ?_
    rotate_left
    · (intro w hSw; (try dsimp only at hSw); go_simp; try with_reducible rfl)
    (try simp only [Act.put, List.setIfInBounds_toArray, List.set_cons_zero, List.set_cons_succ])
    refine wpAnyH_take (i := 2) (oi := ({ dst := some 20, op := Op.load 38 (Operand.tmp 2), type := 38, pos := "continued.go:67", after := #[], guard := none } : Oper)) (v := ?_) rfl (by kernel_rfl) (by kernel_rfl) (by kernel_rfl) (fun _ _ _ h => h) (Or.inl ⟨by rfl, ?_⟩) (by assumption) ?_
    rotate_left
    · (intro w hSw; (try dsimp only at hSw); go_simp; try with_reducible rfl)
    (try simp only [Act.put, List.setIfInBounds_toArray, List.set_cons_zero, List.set_cons_succ])
    refine wpAnyH_ready (rs := [3, 4, 5]) (by kernel_rfl) (by simp) ?_
    refine (AllReadyH.cons (o := ({ dst := some 21, op := Op.call { callee := Callee.value (Operand.func 67), args := #[Operand.tmp 20], argTypes := #[38] }, type := 31, pos := "continued.go:67", after := #[{ on := 2, ground := Ground.data }], guard := none } : Oper)) rfl (fun K hK => ?_) (AllReadyH.cons (o := ({ dst := some 6, op := Op.alloc 31, type := 0, pos := "continued.go:67", after := #[], guard := none } : Oper)) rfl (fun K hK => ?_) (AllReadyH.cons (o := ({ dst := some 7, op := Op.alloc 31, type := 0, pos := "continued.go:67", after := #[], guard := none } : Oper)) rfl (fun K hK => ?_) AllReadyH.nil)))
    · go_simp
      refine (HDN.out _ (by first | exact XB | exact (Below.refl _ _).drew)).mono ?_
      rintro e u1 ⟨nB, aB, kB, cB, zB, rfl, iB, gB, ub⟩
      replace IA := Lib.hid (IA.out.below (Below.refl _ _).drew)
      replace IA := Lib.hid (IA.out.below ub)
      have IB := Lib.hid iB
      have XB : Below w3.heap.size w3 u1 := (Below.refl _ _).drew.trans ub
      clear iB ub
      refine hK.out _ _ ?_ (fun hH1 => ?_)
      · exact HKP.out _ XB
      clear hK K hH0
      (try simp only [Act.put, List.setIfInBounds_toArray, List.set_cons_zero, List.set_cons_succ])
      refine wpAnyH_ready (rs := [4, 5]) (by kernel_rfl) (by simp) ?_
      refine (AllReadyH.cons (o := ({ dst := some 6, op := Op.alloc 31, type := 0, pos := "continued.go:67", after := #[], guard := none } : Oper)) rfl (fun K hK => ?_) (AllReadyH.cons (o := ({ dst := some 7, op := Op.alloc 31, type := 0, pos := "continued.go:67", after := #[], guard := none } : Oper)) rfl (fun K hK => ?_) AllReadyH.nil))
      · go_simp
        obtain ⟨u2, hu⟩ : ∃ u, u = u1.alloc (.cells #[.bool false, .slice none 0 0] 31) := ⟨_, rfl⟩
        obtain ⟨bA, hbA⟩ : ∃ b, b = u1.heap.size := ⟨_, rfl⟩
        have ub : Below u1.heap.size u1 u2 := by rw [hu]; go_grown
        have rA : u2.heap[bA]? = some (.cells #[.bool false, .slice none 0 0] 31 (0, 0)) := by rw [hu, hbA]; exact heap_alloc_new u1 _
        have hsA : w3.heap.size ≤ bA := by rw [hbA]; exact XB.size
        replace IA := Lib.hid (IA.out.below ub)
        replace IB := Lib.hid (IB.out.below ub)
        have RA := Lib.hid rA
        replace XB := XB.trans (ub.mono XB.size)
        rw [← hu, ← hbA]
        clear hu hbA rA ub
        obtain ⟨ta0, ta1, qa0, qa1⟩ := blk2 RA.out
        refine hK.out _ _ ?_ (fun hH2 => ?_)
        · exact HKP.out _ XB
        clear hK K hH1
        (try simp only [Act.put, List.setIfInBounds_toArray, List.set_cons_zero, List.set_cons_succ])
        refine wpAnyH_ready (rs := [5]) (by kernel_rfl) (by simp) ?_
        refine (AllReadyH.cons (o := ({ dst := some 7, op := Op.alloc 31, type := 0, pos := "continued.go:67", after := #[], guard := none } : Oper)) rfl (fun K hK => ?_) AllReadyH.nil)
        go_simp
        clear ta0 ta1 qa0 qa1
        obtain ⟨u3, hu⟩ : ∃ u, u = u2.alloc (.cells #[.bool false, .slice none 0 0] 31) := ⟨_, rfl⟩
        obtain ⟨bB, hbB⟩ : ∃ b, b = u2.heap.size := ⟨_, rfl⟩
        have ub : Below u2.heap.size u2 u3 := by rw [hu]; go_grown
        have rB : u3.heap[bB]? = some (.cells #[.bool false, .slice none 0 0] 31 (0, 0)) := by rw [hu, hbB]; exact heap_alloc_new u2 _
        have hsB : w3.heap.size ≤ bB := by rw [hbB]; exact XB.size
        have hAB : bA ≠ bB := by have := (Array.getElem?_eq_some_iff.1 RA.out).1; omega
        replace IA := Lib.hid (IA.out.below ub)
        replace RA := Lib.hid ((ub.block _ (Array.getElem?_eq_some_iff.1 RA.out).1).trans RA.out)
        replace IB := Lib.hid (IB.out.below ub)
        have RB := Lib.hid rB
        replace XB := XB.trans (ub.mono XB.size)
        rw [← hu, ← hbB]
        clear hu hbB rB ub
        obtain ⟨ta0, ta1, qa0, qa1⟩ := blk2 RA.out
        obtain ⟨tb0, tb1, qb0, qb1⟩ := blk2 RB.out
        refine hK.out _ _ ?_ (fun hH3 => ?_)
        · exact HKP.out _ XB
        clear hK K hH2
        (try simp only [Act.put, List.setIfInBounds_toArray, List.set_cons_zero, List.set_cons_succ])
        refine wpAnyH_ready (rs := [6]) (by kernel_rfl) (by simp) ?_
        refine (AllReadyH.cons (o := ({ dst := none, op := Op.store 31 (Operand.tmp 6) (Operand.tmp 19), type := 0, pos := "continued.go:67", after := #[{ on := 4, ground := Ground.data }, { on := 1, ground := Ground.data }, { on := 3, ground := Ground.chain }, { on := 0, ground := Ground.phase }, { on := 1, ground := Ground.phase }, { on := 2, ground := Ground.textOnly Departure.lateStores }, { on := 3, ground := Ground.textOnly Departure.lateStoresUnsure }, { on := 4, ground := Ground.phase }, { on := 5, ground := Ground.phase }], guard := none } : Oper)) rfl (fun K hK => ?_) AllReadyH.nil)
        go_simp
        clear ta0 ta1 qa0 qa1
        clear tb0 tb1 qb0 qb1
        obtain ⟨u4, hu⟩ : ∃ u, u = (u3.setCell ⟨bA, 0, none⟩ (.bool nA)).setCell ⟨bA, 1, none⟩ (.slice aA kA cA) := ⟨_, rfl⟩
        have BA := Lib.hid (show IBox u4 bA _ _ _ _ _ _ from by rw [hu]; exact IBox.put IA.out RA.out)
        have xb : Below w3.heap.size w3 u4 := by rw [hu]; exact (XB.setCell (p := ⟨bA, 0, none⟩) hsA _).setCell (p := ⟨bA, 1, none⟩) hsA _
        replace IB := Lib.hid (show IntAt u4 _ _ _ _ _ _ from by rw [hu]; exact IB.out.stored RA.out _ _)
        replace RB := Lib.hid (show u4.heap[bB]? = some (.cells #[.bool false, .slice none 0 0] 31 (0, 0)) from by rw [hu, Below.heap_setCell _ _ _ _ hAB.symm, Below.heap_setCell _ _ _ _ hAB.symm]; exact RB.out)
        rw [← hu]
        clear hu IA RA XB
        have XB := xb
        clear xb
        obtain ⟨tb0, tb1, qb0, qb1⟩ := blk2 RB.out
        refine hK.out _ _ ?_ (fun hH4 => ?_)
        · exact HKP.out _ XB
        clear hK K hH3
        (try simp only [Act.put, List.setIfInBounds_toArray, List.set_cons_zero, List.set_cons_succ])
        refine wpAnyH_ready (rs := [7]) (by kernel_rfl) (by simp) ?_
        refine (AllReadyH.cons (o := ({ dst := none, op := Op.store 31 (Operand.tmp 7) (Operand.tmp 21), type := 0, pos := "continued.go:67", after := #[{ on := 5, ground := Ground.data }, { on := 3, ground := Ground.data }, { on := 6, ground := Ground.chain }, { on := 0, ground := Ground.phase }, { on := 1, ground := Ground.phase }, { on := 2, ground := Ground.phase }, { on := 3, ground := Ground.phase }, { on := 4, ground := Ground.phase }, { on := 5, ground := Ground.phase }, { on := 6, ground := Ground.phase }], guard := none } : Oper)) rfl (fun K hK => ?_) AllReadyH.nil)
        go_simp
        clear tb0 tb1 qb0 qb1
        obtain ⟨u5, hu⟩ : ∃ u, u = (u4.setCell ⟨bB, 0, none⟩ (.bool nB)).setCell ⟨bB, 1, none⟩ (.slice aB kB cB) := ⟨_, rfl⟩
        have BB := Lib.hid (show IBox u5 bB _ _ _ _ _ _ from by rw [hu]; exact IBox.put IB.out RB.out)
        have xb : Below w3.heap.size w3 u5 := by rw [hu]; exact (XB.setCell (p := ⟨bB, 0, none⟩) hsB _).setCell (p := ⟨bB, 1, none⟩) hsB _
        replace BA := Lib.hid (show IBox u5 bA _ _ _ _ _ _ from by rw [hu]; exact BA.out.other RB.out hAB _ _)
        rw [← hu]
        clear hu IB RB XB
        have XB := xb
        clear xb
        refine hK.out _ _ ?_ (fun hH5 => ?_)
        · exact HKP.out _ XB
        clear hK K hH4
        (try simp only [Act.put, List.setIfInBounds_toArray, List.set_cons_zero, List.set_cons_succ])
        refine wpAnyH_done (by kernel_rfl) ?_ _
        refine NoPanic.normal ?_
        go_wp2
        go_meet
        exact ⟨bA, bB, rfl, rfl, hsA, hsB, hAB, _, _, _, _, _, _, _, _, _, _, BA.out, BB.out, hkA, by omega, XB⟩
      · go_simp
        obtain ⟨u2, hu⟩ : ∃ u, u = u1.alloc (.cells #[.bool false, .slice none 0 0] 31) := ⟨_, rfl⟩
        obtain ⟨bB, hbB⟩ : ∃ b, b = u1.heap.size := ⟨_, rfl⟩
        have ub : Below u1.heap.size u1 u2 := by rw [hu]; go_grown
        have rB : u2.heap[bB]? = some (.cells #[.bool false, .slice none 0 0] 31 (0, 0)) := by rw [hu, hbB]; exact heap_alloc_new u1 _
        have hsB : w3.heap.size ≤ bB := by rw [hbB]; exact XB.size
        replace IA := Lib.hid (IA.out.below ub)
        replace IB := Lib.hid (IB.out.below ub)
        have RB := Lib.hid rB
        replace XB := XB.trans (ub.mono XB.size)
        rw [← hu, ← hbB]
        clear hu hbB rB ub
        obtain ⟨tb0, tb1, qb0, qb1⟩ := blk2 RB.out
        refine hK.out _ _ ?_ (fun hH2 => ?_)
        · exact HKP.out _ XB
        clear hK K hH1
        (try simp only [Act.put, List.setIfInBounds_toArray, List.set_cons_zero, List.set_cons_succ])
        refine wpAnyH_ready (rs := [4]) (by kernel_rfl) (by simp) ?_
        refine (AllReadyH.cons (o := ({ dst := some 6, op := Op.alloc 31, type := 0, pos := "continued.go:67", after := #[], guard := none } : Oper)) rfl (fun K hK => ?_) AllReadyH.nil)
        go_simp
        clear tb0 tb1 qb0 qb1
        obtain ⟨u3, hu⟩ : ∃ u, u = u2.alloc (.cells #[.bool false, .slice none 0 0] 31) := ⟨_, rfl⟩
        obtain ⟨bA, hbA⟩ : ∃ b, b = u2.heap.size := ⟨_, rfl⟩
        have ub : Below u2.heap.size u2 u3 := by rw [hu]; go_grown
        have rA : u3.heap[bA]? = some (.cells #[.bool false, .slice none 0 0] 31 (0, 0)) := by rw [hu, hbA]; exact heap_alloc_new u2 _
        have hsA : w3.heap.size ≤ bA := by rw [hbA]; exact XB.size
        have hAB : bA ≠ bB := by have := (Array.getElem?_eq_some_iff.1 RB.out).1; omega
        replace IA := Lib.hid (IA.out.below ub)
        replace IB := Lib.hid (IB.out.below ub)
        replace RB := Lib.hid ((ub.block _ (Array.getElem?_eq_some_iff.1 RB.out).1).trans RB.out)
        have RA := Lib.hid rA
        replace XB := XB.trans (ub.mono XB.size)
        rw [← hu, ← hbA]
        clear hu hbA rA ub
        obtain ⟨ta0, ta1, qa0, qa1⟩ := blk2 RA.out
        obtain ⟨tb0, tb1, qb0, qb1⟩ := blk2 RB.out
        refine hK.out _ _ ?_ (fun hH3 => ?_)
        · exact HKP.out _ XB
        clear hK K hH2
        (try simp only [Act.put, List.setIfInBounds_toArray, List.set_cons_zero, List.set_cons_succ])
        refine wpAnyH_ready (rs := [6]) (by kernel_rfl) (by simp) ?_
        refine (AllReadyH.cons (o := ({ dst := none, op := Op.store 31 (Operand.tmp 6) (Operand.tmp 19), type := 0, pos := "continued.go:67", after := #[{ on := 4, ground := Ground.data }, { on := 1, ground := Ground.data }, { on := 3, ground := Ground.chain }, { on := 0, ground := Ground.phase }, { on := 1, ground := Ground.phase }, { on := 2, ground := Ground.textOnly Departure.lateStores }, { on := 3, ground := Ground.textOnly Departure.lateStoresUnsure }, { on := 4, ground := Ground.phase }, { on := 5, ground := Ground.phase }], guard := none } : Oper)) rfl (fun K hK => ?_) AllReadyH.nil)
        go_simp
        clear ta0 ta1 qa0 qa1
        clear tb0 tb1 qb0 qb1
        obtain ⟨u4, hu⟩ : ∃ u, u = (u3.setCell ⟨bA, 0, none⟩ (.bool nA)).setCell ⟨bA, 1, none⟩ (.slice aA kA cA) := ⟨_, rfl⟩
        have BA := Lib.hid (show IBox u4 bA _ _ _ _ _ _ from by rw [hu]; exact IBox.put IA.out RA.out)
        have xb : Below w3.heap.size w3 u4 := by rw [hu]; exact (XB.setCell (p := ⟨bA, 0, none⟩) hsA _).setCell (p := ⟨bA, 1, none⟩) hsA _
        replace IB := Lib.hid (show IntAt u4 _ _ _ _ _ _ from by rw [hu]; exact IB.out.stored RA.out _ _)
        replace RB := Lib.hid (show u4.heap[bB]? = some (.cells #[.bool false, .slice none 0 0] 31 (0, 0)) from by rw [hu, Below.heap_setCell _ _ _ _ hAB.symm, Below.heap_setCell _ _ _ _ hAB.symm]; exact RB.out)
        rw [← hu]
        clear hu IA RA XB
        have XB := xb
        clear xb
        obtain ⟨tb0, tb1, qb0, qb1⟩ := blk2 RB.out
        refine hK.out _ _ ?_ (fun hH4 => ?_)
        · exact HKP.out _ XB
        clear hK K hH3
        (try simp only [Act.put, List.setIfInBounds_toArray, List.set_cons_zero, List.set_cons_succ])
        refine wpAnyH_ready (rs := [7]) (by kernel_rfl) (by simp) ?_
        refine (AllReadyH.cons (o := ({ dst := none, op := Op.store 31 (Operand.tmp 7) (Operand.tmp 21), type := 0, pos := "continued.go:67", after := #[{ on := 5, ground := Ground.data }, { on := 3, ground := Ground.data }, { on := 6, ground := Ground.chain }, { on := 0, ground := Ground.phase }, { on := 1, ground := Ground.phase }, { on := 2, ground := Ground.phase }, { on := 3, ground := Ground.phase }, { on := 4, ground := Ground.phase }, { on := 5, ground := Ground.phase }, { on := 6, ground := Ground.phase }], guard := none } : Oper)) rfl (fun K hK => ?_) AllReadyH.nil)
        go_simp
        clear tb0 tb1 qb0 qb1
        obtain ⟨u5, hu⟩ : ∃ u, u = (u4.setCell ⟨bB, 0, none⟩ (.bool nB)).setCell ⟨bB, 1, none⟩ (.slice aB kB cB) := ⟨_, rfl⟩
        have BB := Lib.hid (show IBox u5 bB _ _ _ _ _ _ from by rw [hu]; exact IBox.put IB.out RB.out)
        have xb : Below w3.heap.size w3 u5 := by rw [hu]; exact (XB.setCell (p := ⟨bB, 0, none⟩) hsB _).setCell (p := ⟨bB, 1, none⟩) hsB _
        replace BA := Lib.hid (show IBox u5 bA _ _ _ _ _ _ from by rw [hu]; exact BA.out.other RB.out hAB _ _)
        rw [← hu]
        clear hu IB RB XB
        have XB := xb
        clear xb
        refine hK.out _ _ ?_ (fun hH5 => ?_)
        · exact HKP.out _ XB
        clear hK K hH4
        (try simp only [Act.put, List.setIfInBounds_toArray, List.set_cons_zero, List.set_cons_succ])
        refine wpAnyH_done (by kernel_rfl) ?_ _
        refine NoPanic.normal ?_
        go_wp2
        go_meet
        exact ⟨bA, bB, rfl, rfl, hsA, hsB, hAB, _, _, _, _, _, _, _, _, _, _, BA.out, BB.out, hkA, by omega, XB⟩
    · go_simp
      obtain ⟨u1, hu⟩ : ∃ u, u = (w3.alloc (.cells #[.bool false, .slice none 0 0] 31)).drew := ⟨_, rfl⟩
      obtain ⟨bA, hbA⟩ : ∃ b, b = w3.heap.size := ⟨_, rfl⟩
      have ub : Below w3.heap.size w3 u1 := by rw [hu]; exact ((Below.refl _ _).alloc (Nat.le_refl _) _).drew
      have rA : u1.heap[bA]? = some (.cells #[.bool false, .slice none 0 0] 31 (0, 0)) := by rw [hu, hbA]; exact heap_alloc_new w3 _
      have hsA : w3.heap.size ≤ bA := by rw [hbA]; exact Nat.le_refl _
      replace IA := Lib.hid (IA.out.below ub)
      have RA := Lib.hid rA
      have XB : Below w3.heap.size w3 u1 := ub
      rw [← hu, ← hbA]
      clear hu hbA rA ub
      obtain ⟨ta0, ta1, qa0, qa1⟩ := blk2 RA.out
      refine hK.out _ _ ?_ (fun hH1 => ?_)
      · exact HKP.out _ XB
      clear hK K hH0
      (try simp only [Act.put, List.setIfInBounds_toArray, List.set_cons_zero, List.set_cons_succ])
      refine wpAnyH_ready (rs := [3, 5]) (by kernel_rfl) (by simp) ?_
      refine (AllReadyH.cons (o := ({ dst := some 21, op := Op.call { callee := Callee.value (Operand.func 67), args := #[Operand.tmp 20], argTypes := #[38] }, type := 31, pos := "continued.go:67", after := #[{ on := 2, ground := Ground.data }], guard := none } : Oper)) rfl (fun K hK => ?_) (AllReadyH.cons (o := ({ dst := some 7, op := Op.alloc 31, type := 0, pos := "continued.go:67", after := #[], guard := none } : Oper)) rfl (fun K hK => ?_) AllReadyH.nil))
      · go_simp
        clear ta0 ta1 qa0 qa1
        refine (HDN.out _ (by first | exact XB | exact (Below.refl _ _).drew)).mono ?_
        rintro e u2 ⟨nB, aB, kB, cB, zB, rfl, iB, gB, ub⟩
        replace IA := Lib.hid (IA.out.below ub)
        replace RA := Lib.hid ((ub.block _ (Array.getElem?_eq_some_iff.1 RA.out).1).trans RA.out)
        have IB := Lib.hid iB
        replace XB := XB.trans (ub.mono XB.size)
        clear iB ub
        obtain ⟨ta0, ta1, qa0, qa1⟩ := blk2 RA.out
        refine hK.out _ _ ?_ (fun hH2 => ?_)
        · exact HKP.out _ XB
        clear hK K hH1
        (try simp only [Act.put, List.setIfInBounds_toArray, List.set_cons_zero, List.set_cons_succ])
        refine wpAnyH_ready (rs := [5]) (by kernel_rfl) (by simp) ?_
        refine (AllReadyH.cons (o := ({ dst := some 7, op := Op.alloc 31, type := 0, pos := "continued.go:67", after := #[], guard := none } : Oper)) rfl (fun K hK => ?_) AllReadyH.nil)
        go_simp
        clear ta0 ta1 qa0 qa1
        obtain ⟨u3, hu⟩ : ∃ u, u = u2.alloc (.cells #[.bool false, .slice none 0 0] 31) := ⟨_, rfl⟩
        obtain ⟨bB, hbB⟩ : ∃ b, b = u2.heap.size := ⟨_, rfl⟩
        have ub : Below u2.heap.size u2 u3 := by rw [hu]; go_grown
        have rB : u3.heap[bB]? = some (.cells #[.bool false, .slice none 0 0] 31 (0, 0)) := by rw [hu, hbB]; exact heap_alloc_new u2 _
        have hsB : w3.heap.size ≤ bB := by rw [hbB]; exact XB.size
        have hAB : bA ≠ bB := by have := (Array.getElem?_eq_some_iff.1 RA.out).1; omega
        replace IA := Lib.hid (IA.out.below ub)
        replace RA := Lib.hid ((ub.block _ (Array.getElem?_eq_some_iff.1 RA.out).1).trans RA.out)
        replace IB := Lib.hid (IB.out.below ub)
        have RB := Lib.hid rB
        replace XB := XB.trans (ub.mono XB.size)
        rw [← hu, ← hbB]
        clear hu hbB rB ub
        obtain ⟨ta0, ta1, qa0, qa1⟩ := blk2 RA.out
        obtain ⟨tb0, tb1, qb0, qb1⟩ := blk2 RB.out
        refine hK.out _ _ ?_ (fun hH3 => ?_)
        · exact HKP.out _ XB
        clear hK K hH2
        (try simp only [Act.put, List.setIfInBounds_toArray, List.set_cons_zero, List.set_cons_succ])
        refine wpAnyH_ready (rs := [6]) (by kernel_rfl) (by simp) ?_
        refine (AllReadyH.cons (o := ({ dst := none, op := Op.store 31 (Operand.tmp 6) (Operand.tmp 19), type := 0, pos := "continued.go:67", after := #[{ on := 4, ground := Ground.data }, { on := 1, ground := Ground.data }, { on := 3, ground := Ground.chain }, { on := 0, ground := Ground.phase }, { on := 1, ground := Ground.phase }, { on := 2, ground := Ground.textOnly Departure.lateStores }, { on := 3, ground := Ground.textOnly Departure.lateStoresUnsure }, { on := 4, ground := Ground.phase }, { on := 5, ground := Ground.phase }], guard := none } : Oper)) rfl (fun K hK => ?_) AllReadyH.nil)
        go_simp
        clear ta0 ta1 qa0 qa1
        clear tb0 tb1 qb0 qb1
        obtain ⟨u4, hu⟩ : ∃ u, u = (u3.setCell ⟨bA, 0, none⟩ (.bool nA)).setCell ⟨bA, 1, none⟩ (.slice aA kA cA) := ⟨_, rfl⟩
        have BA := Lib.hid (show IBox u4 bA _ _ _ _ _ _ from by rw [hu]; exact IBox.put IA.out RA.out)
        have xb : Below w3.heap.size w3 u4 := by rw [hu]; exact (XB.setCell (p := ⟨bA, 0, none⟩) hsA _).setCell (p := ⟨bA, 1, none⟩) hsA _
        replace IB := Lib.hid (show IntAt u4 _ _ _ _ _ _ from by rw [hu]; exact IB.out.stored RA.out _ _)
        replace RB := Lib.hid (show u4.heap[bB]? = some (.cells #[.bool false, .slice none 0 0] 31 (0, 0)) from by rw [hu, Below.heap_setCell _ _ _ _ hAB.symm, Below.heap_setCell _ _ _ _ hAB.symm]; exact RB.out)
        rw [← hu]
        clear hu IA RA XB
        have XB := xb
        clear xb
        obtain ⟨tb0, tb1, qb0, qb1⟩ := blk2 RB.out
        refine hK.out _ _ ?_ (fun hH4 => ?_)
        · exact HKP.out _ XB
        clear hK K hH3
        (try simp only [Act.put, List.setIfInBounds_toArray, List.set_cons_zero, List.set_cons_succ])
        refine wpAnyH_ready (rs := [7]) (by kernel_rfl) (by simp) ?_
        refine (AllReadyH.cons (o := ({ dst := none, op := Op.store 31 (Operand.tmp 7) (Operand.tmp 21), type := 0, pos := "continued.go:67", after := #[{ on := 5, ground := Ground.data }, { on := 3, ground := Ground.data }, { on := 6, ground := Ground.chain }, { on := 0, ground := Ground.phase }, { on := 1, ground := Ground.phase }, { on := 2, ground := Ground.phase }, { on := 3, ground := Ground.phase }, { on := 4, ground := Ground.phase }, { on := 5, ground := Ground.phase }, { on := 6, ground := Ground.phase }], guard := none } : Oper)) rfl (fun K hK => ?_) AllReadyH.nil)
        go_simp
        clear tb0 tb1 qb0 qb1
        obtain ⟨u5, hu⟩ : ∃ u, u = (u4.setCell ⟨bB, 0, none⟩ (.bool nB)).setCell ⟨bB, 1, none⟩ (.slice aB kB cB) := ⟨_, rfl⟩
        have BB := Lib.hid (show IBox u5 bB _ _ _ _ _ _ from by rw [hu]; exact IBox.put IB.out RB.out)
        have xb : Below w3.heap.size w3 u5 := by rw [hu]; exact (XB.setCell (p := ⟨bB, 0, none⟩) hsB _).setCell (p := ⟨bB, 1, none⟩) hsB _
        replace BA := Lib.hid (show IBox u5 bA _ _ _ _ _ _ from by rw [hu]; exact BA.out.other RB.out hAB _ _)
        rw [← hu]
        clear hu IB RB XB
        have XB := xb
        clear xb
        refine hK.out _ _ ?_ (fun hH5 => ?_)
        · exact HKP.out _ XB
        clear hK K hH4
        (try simp only [Act.put, List.setIfInBounds_toArray, List.set_cons_zero, List.set_cons_succ])
        refine wpAnyH_done (by kernel_rfl) ?_ _
        refine NoPanic.normal ?_
        go_wp2
        go_meet
        exact ⟨bA, bB, rfl, rfl, hsA, hsB, hAB, _, _, _, _, _, _, _, _, _, _, BA.out, BB.out, hkA, by omega, XB⟩
      · go_simp
        clear ta0 ta1 qa0 qa1
        obtain ⟨u2, hu⟩ : ∃ u, u = u1.alloc (.cells #[.bool false, .slice none 0 0] 31) := ⟨_, rfl⟩
        obtain ⟨bB, hbB⟩ : ∃ b, b = u1.heap.size := ⟨_, rfl⟩
        have ub : Below u1.heap.size u1 u2 := by rw [hu]; go_grown
        have rB : u2.heap[bB]? = some (.cells #[.bool false, .slice none 0 0] 31 (0, 0)) := by rw [hu, hbB]; exact heap_alloc_new u1 _
        have hsB : w3.heap.size ≤ bB := by rw [hbB]; exact XB.size
        have hAB : bA ≠ bB := by have := (Array.getElem?_eq_some_iff.1 RA.out).1; omega
        replace IA := Lib.hid (IA.out.below ub)
        replace RA := Lib.hid ((ub.block _ (Array.getElem?_eq_some_iff.1 RA.out).1).trans RA.out)
        have RB := Lib.hid rB
        replace XB := XB.trans (ub.mono XB.size)
        rw [← hu, ← hbB]
        clear hu hbB rB ub
        obtain ⟨ta0, ta1, qa0, qa1⟩ := blk2 RA.out
        obtain ⟨tb0, tb1, qb0, qb1⟩ := blk2 RB.out
        refine hK.out _ _ ?_ (fun hH2 => ?_)
        · exact HKP.out _ XB
        clear hK K hH1
        (try simp only [Act.put, List.setIfInBounds_toArray, List.set_cons_zero, List.set_cons_succ])
        refine wpAnyH_ready (rs := [3]) (by kernel_rfl) (by simp) ?_
        refine (AllReadyH.cons (o := ({ dst := some 21, op := Op.call { callee := Callee.value (Operand.func 67), args := #[Operand.tmp 20], argTypes := #[38] }, type := 31, pos := "continued.go:67", after := #[{ on := 2, ground := Ground.data }], guard := none } : Oper)) rfl (fun K hK => ?_) AllReadyH.nil)
        go_simp
        clear ta0 ta1 qa0 qa1
        clear tb0 tb1 qb0 qb1
        refine (HDN.out _ (by first | exact XB | exact (Below.refl _ _).drew)).mono ?_
        rintro e u3 ⟨nB, aB, kB, cB, zB, rfl, iB, gB, ub⟩
        replace IA := Lib.hid (IA.out.below ub)
        replace RA := Lib.hid ((ub.block _ (Array.getElem?_eq_some_iff.1 RA.out).1).trans RA.out)
        replace RB := Lib.hid ((ub.block _ (Array.getElem?_eq_some_iff.1 RB.out).1).trans RB.out)
        have IB := Lib.hid iB
        replace XB := XB.trans (ub.mono XB.size)
        clear iB ub
        obtain ⟨ta0, ta1, qa0, qa1⟩ := blk2 RA.out
        obtain ⟨tb0, tb1, qb0, qb1⟩ := blk2 RB.out
        refine hK.out _ _ ?_ (fun hH3 => ?_)
        · exact HKP.out _ XB
        clear hK K hH2
        (try simp only [Act.put, List.setIfInBounds_toArray, List.set_cons_zero, List.set_cons_succ])
        refine wpAnyH_ready (rs := [6]) (by kernel_rfl) (by simp) ?_
        refine (AllReadyH.cons (o := ({ dst := none, op := Op.store 31 (Operand.tmp 6) (Operand.tmp 19), type := 0, pos := "continued.go:67", after := #[{ on := 4, ground := Ground.data }, { on := 1, ground := Ground.data }, { on := 3, ground := Ground.chain }, { on := 0, ground := Ground.phase }, { on := 1, ground := Ground.phase }, { on := 2, ground := Ground.textOnly Departure.lateStores }, { on := 3, ground := Ground.textOnly Departure.lateStoresUnsure }, { on := 4, ground := Ground.phase }, { on := 5, ground := Ground.phase }], guard := none } : Oper)) rfl (fun K hK => ?_) AllReadyH.nil)
        go_simp
        clear ta0 ta1 qa0 qa1
        clear tb0 tb1 qb0 qb1
        obtain ⟨u4, hu⟩ : ∃ u, u = (u3.setCell ⟨bA, 0, none⟩ (.bool nA)).setCell ⟨bA, 1, none⟩ (.slice aA kA cA) := ⟨_, rfl⟩
        have BA := Lib.hid (show IBox u4 bA _ _ _ _ _ _ from by rw [hu]; exact IBox.put IA.out RA.out)
        have xb : Below w3.heap.size w3 u4 := by rw [hu]; exact (XB.setCell (p := ⟨bA, 0, none⟩) hsA _).setCell (p := ⟨bA, 1, none⟩) hsA _
        replace IB := Lib.hid (show IntAt u4 _ _ _ _ _ _ from by rw [hu]; exact IB.out.stored RA.out _ _)
        replace RB := Lib.hid (show u4.heap[bB]? = some (.cells #[.bool false, .slice none 0 0] 31 (0, 0)) from by rw [hu, Below.heap_setCell _ _ _ _ hAB.symm, Below.heap_setCell _ _ _ _ hAB.symm]; exact RB.out)
        rw [← hu]
        clear hu IA RA XB
        have XB := xb
        clear xb
        obtain ⟨tb0, tb1, qb0, qb1⟩ := blk2 RB.out
        refine hK.out _ _ ?_ (fun hH4 => ?_)
        · exact HKP.out _ XB
        clear hK K hH3
        (try simp only [Act.put, List.setIfInBounds_toArray, List.set_cons_zero, List.set_cons_succ])
        refine wpAnyH_ready (rs := [7]) (by kernel_rfl) (by simp) ?_
        refine (AllReadyH.cons (o := ({ dst := none, op := Op.store 31 (Operand.tmp 7) (Operand.tmp 21), type := 0, pos := "continued.go:67", after := #[{ on := 5, ground := Ground.data }, { on := 3, ground := Ground.data }, { on := 6, ground := Ground.chain }, { on := 0, ground := Ground.phase }, { on := 1, ground := Ground.phase }, { on := 2, ground := Ground.phase }, { on := 3, ground := Ground.phase }, { on := 4, ground := Ground.phase }, { on := 5, ground := Ground.phase }, { on := 6, ground := Ground.phase }], guard := none } : Oper)) rfl (fun K hK => ?_) AllReadyH.nil)
        go_simp
        clear tb0 tb1 qb0 qb1
        obtain ⟨u5, hu⟩ : ∃ u, u = (u4.setCell ⟨bB, 0, none⟩ (.bool nB)).setCell ⟨bB, 1, none⟩ (.slice aB kB cB) := ⟨_, rfl⟩
        have BB := Lib.hid (show IBox u5 bB _ _ _ _ _ _ from by rw [hu]; exact IBox.put IB.out RB.out)
        have xb : Below w3.heap.size w3 u5 := by rw [hu]; exact (XB.setCell (p := ⟨bB, 0, none⟩) hsB _).setCell (p := ⟨bB, 1, none⟩) hsB _
        replace BA := Lib.hid (show IBox u5 bA _ _ _ _ _ _ from by rw [hu]; exact BA.out.other RB.out hAB _ _)
        rw [← hu]
        clear hu IB RB XB
        have XB := xb
        clear xb
        refine hK.out _ _ ?_ (fun hH5 => ?_)
        · exact HKP.out _ XB
        clear hK K hH4
        (try simp only [Act.put, List.setIfInBounds_toArray, List.set_cons_zero, List.set_cons_succ])
        refine wpAnyH_done (by kernel_rfl) ?_ _
        refine NoPanic.normal ?_
        go_wp2
        go_meet
        exact ⟨bA, bB, rfl, rfl, hsA, hsB, hAB, _, _, _, _, _, _, _, _, _, _, BA.out, BB.out, hkA, by omega, XB⟩
    · go_simp
      obtain ⟨u1, hu⟩ : ∃ u, u = (w3.alloc (.cells #[.bool false, .slice none 0 0] 31)).drew := ⟨_, rfl⟩
      obtain ⟨bB, hbB⟩ : ∃ b, b = w3.heap.size := ⟨_, rfl⟩
      have ub : Below w3.heap.size w3 u1 := by rw [hu]; exact ((Below.refl _ _).alloc (Nat.le_refl _) _).drew
      have rB : u1.heap[bB]? = some (.cells #[.bool false, .slice none 0 0] 31 (0, 0)) := by rw [hu, hbB]; exact heap_alloc_new w3 _
      have hsB : w3.heap.size ≤ bB := by rw [hbB]; exact Nat.le_refl _
      replace IA := Lib.hid (IA.out.below ub)
      have RB := Lib.hid rB
      have XB : Below w3.heap.size w3 u1 := ub
      rw [← hu, ← hbB]
      clear hu hbB rB ub
      obtain ⟨tb0, tb1, qb0, qb1⟩ := blk2 RB.out
      refine hK.out _ _ ?_ (fun hH1 => ?_)
      · exact HKP.out _ XB
      clear hK K hH0
      (try simp only [Act.put, List.setIfInBounds_toArray, List.set_cons_zero, List.set_cons_succ])
      refine wpAnyH_ready (rs := [3, 4]) (by kernel_rfl) (by simp) ?_
      refine (AllReadyH.cons (o := ({ dst := some 21, op := Op.call { callee := Callee.value (Operand.func 67), args := #[Operand.tmp 20], argTypes := #[38] }, type := 31, pos := "continued.go:67", after := #[{ on := 2, ground := Ground.data }], guard := none } : Oper)) rfl (fun K hK => ?_) (AllReadyH.cons (o := ({ dst := some 6, op := Op.alloc 31, type := 0, pos := "continued.go:67", after := #[], guard := none } : Oper)) rfl (fun K hK => ?_) AllReadyH.nil))
      · go_simp
        clear tb0 tb1 qb0 qb1
        refine (HDN.out _ (by first | exact XB | exact (Below.refl _ _).drew)).mono ?_
        rintro e u2 ⟨nB, aB, kB, cB, zB, rfl, iB, gB, ub⟩
        replace IA := Lib.hid (IA.out.below ub)
        replace RB := Lib.hid ((ub.block _ (Array.getElem?_eq_some_iff.1 RB.out).1).trans RB.out)
        have IB := Lib.hid iB
        replace XB := XB.trans (ub.mono XB.size)
        clear iB ub
        obtain ⟨tb0, tb1, qb0, qb1⟩ := blk2 RB.out
        refine hK.out _ _ ?_ (fun hH2 => ?_)
        · exact HKP.out _ XB
        clear hK K hH1
        (try simp only [Act.put, List.setIfInBounds_toArray, List.set_cons_zero, List.set_cons_succ])
        refine wpAnyH_ready (rs := [4]) (by kernel_rfl) (by simp) ?_
        refine (AllReadyH.cons (o := ({ dst := some 6, op := Op.alloc 31, type := 0, pos := "continued.go:67", after := #[], guard := none } : Oper)) rfl (fun K hK => ?_) AllReadyH.nil)
        go_simp
        clear tb0 tb1 qb0 qb1
        obtain ⟨u3, hu⟩ : ∃ u, u = u2.alloc (.cells #[.bool false, .slice none 0 0] 31) := ⟨_, rfl⟩
        obtain ⟨bA, hbA⟩ : ∃ b, b = u2.heap.size := ⟨_, rfl⟩
        have ub : Below u2.heap.size u2 u3 := by rw [hu]; go_grown
        have rA : u3.heap[bA]? = some (.cells #[.bool false, .slice none 0 0] 31 (0, 0)) := by rw [hu, hbA]; exact heap_alloc_new u2 _
        have hsA : w3.heap.size ≤ bA := by rw [hbA]; exact XB.size
        have hAB : bA ≠ bB := by have := (Array.getElem?_eq_some_iff.1 RB.out).1; omega
        replace IA := Lib.hid (IA.out.below ub)
        replace IB := Lib.hid (IB.out.below ub)
        replace RB := Lib.hid ((ub.block _ (Array.getElem?_eq_some_iff.1 RB.out).1).trans RB.out)
        have RA := Lib.hid rA
        replace XB := XB.trans (ub.mono XB.size)
        rw [← hu, ← hbA]
        clear hu hbA rA ub
        obtain ⟨ta0, ta1, qa0, qa1⟩ := blk2 RA.out
        obtain ⟨tb0, tb1, qb0, qb1⟩ := blk2 RB.out
        refine hK.out _ _ ?_ (fun hH3 => ?_)
        · exact HKP.out _ XB
        clear hK K hH2
        (try simp only [Act.put, List.setIfInBounds_toArray, List.set_cons_zero, List.set_cons_succ])
        refine wpAnyH_ready (rs := [6]) (by kernel_rfl) (by simp) ?_
        refine (AllReadyH.cons (o := ({ dst := none, op := Op.store 31 (Operand.tmp 6) (Operand.tmp 19), type := 0, pos := "continued.go:67", after := #[{ on := 4, ground := Ground.data }, { on := 1, ground := Ground.data }, { on := 3, ground := Ground.chain }, { on := 0, ground := Ground.phase }, { on := 1, ground := Ground.phase }, { on := 2, ground := Ground.textOnly Departure.lateStores }, { on := 3, ground := Ground.textOnly Departure.lateStoresUnsure }, { on := 4, ground := Ground.phase }, { on := 5, ground := Ground.phase }], guard := none } : Oper)) rfl (fun K hK => ?_) AllReadyH.nil)
        go_simp
        clear ta0 ta1 qa0 qa1
        clear tb0 tb1 qb0 qb1
        obtain ⟨u4, hu⟩ : ∃ u, u = (u3.setCell ⟨bA, 0, none⟩ (.bool nA)).setCell ⟨bA, 1, none⟩ (.slice aA kA cA) := ⟨_, rfl⟩
        have BA := Lib.hid (show IBox u4 bA _ _ _ _ _ _ from by rw [hu]; exact IBox.put IA.out RA.out)
        have xb : Below w3.heap.size w3 u4 := by rw [hu]; exact (XB.setCell (p := ⟨bA, 0, none⟩) hsA _).setCell (p := ⟨bA, 1, none⟩) hsA _
        replace IB := Lib.hid (show IntAt u4 _ _ _ _ _ _ from by rw [hu]; exact IB.out.stored RA.out _ _)
        replace RB := Lib.hid (show u4.heap[bB]? = some (.cells #[.bool false, .slice none 0 0] 31 (0, 0)) from by rw [hu, Below.heap_setCell _ _ _ _ hAB.symm, Below.heap_setCell _ _ _ _ hAB.symm]; exact RB.out)
        rw [← hu]
        clear hu IA RA XB
        have XB := xb
        clear xb
        obtain ⟨tb0, tb1, qb0, qb1⟩ := blk2 RB.out
        refine hK.out _ _ ?_ (fun hH4 => ?_)
        · exact HKP.out _ XB
        clear hK K hH3
        (try simp only [Act.put, List.setIfInBounds_toArray, List.set_cons_zero, List.set_cons_succ])
        refine wpAnyH_ready (rs := [7]) (by kernel_rfl) (by simp) ?_
        refine (AllReadyH.cons (o := ({ dst := none, op := Op.store 31 (Operand.tmp 7) (Operand.tmp 21), type := 0, pos := "continued.go:67", after := #[{ on := 5, ground := Ground.data }, { on := 3, ground := Ground.data }, { on := 6, ground := Ground.chain }, { on := 0, ground := Ground.phase }, { on := 1, ground := Ground.phase }, { on := 2, ground := Ground.phase }, { on := 3, ground := Ground.phase }, { on := 4, ground := Ground.phase }, { on := 5, ground := Ground.phase }, { on := 6, ground := Ground.phase }], guard := none } : Oper)) rfl (fun K hK => ?_) AllReadyH.nil)
        go_simp
        clear tb0 tb1 qb0 qb1
        obtain ⟨u5, hu⟩ : ∃ u, u = (u4.setCell ⟨bB, 0, none⟩ (.bool nB)).setCell ⟨bB, 1, none⟩ (.slice aB kB cB) := ⟨_, rfl⟩
        have BB := Lib.hid (show IBox u5 bB _ _ _ _ _ _ from by rw [hu]; exact IBox.put IB.out RB.out)
        have xb : Below w3.heap.size w3 u5 := by rw [hu]; exact (XB.setCell (p := ⟨bB, 0, none⟩) hsB _).setCell (p := ⟨bB, 1, none⟩) hsB _
        replace BA := Lib.hid (show IBox u5 bA _ _ _ _ _ _ from by rw [hu]; exact BA.out.other RB.out hAB _ _)
        rw [← hu]
        clear hu IB RB XB
        have XB := xb
        clear xb
        refine hK.out _ _ ?_ (fun hH5 => ?_)
        · exact HKP.out _ XB
        clear hK K hH4
        (try simp only [Act.put, List.setIfInBounds_toArray, List.set_cons_zero, List.set_cons_succ])
        refine wpAnyH_done (by kernel_rfl) ?_ _
        refine NoPanic.normal ?_
        go_wp2
        go_meet
        exact ⟨bA, bB, rfl, rfl, hsA, hsB, hAB, _, _, _, _, _, _, _, _, _, _, BA.out, BB.out, hkA, by omega, XB⟩
      · go_simp
        clear tb0 tb1 qb0 qb1
        obtain ⟨u2, hu⟩ : ∃ u, u = u1.alloc (.cells #[.bool false, .slice none 0 0] 31) := ⟨_, rfl⟩
        obtain ⟨bA, hbA⟩ : ∃ b, b = u1.heap.size := ⟨_, rfl⟩
        have ub : Below u1.heap.size u1 u2 := by rw [hu]; go_grown
        have rA : u2.heap[bA]? = some (.cells #[.bool false, .slice none 0 0] 31 (0, 0)) := by rw [hu, hbA]; exact heap_alloc_new u1 _
        have hsA : w3.heap.size ≤ bA := by rw [hbA]; exact XB.size
        have hAB : bA ≠ bB := by have := (Array.getElem?_eq_some_iff.1 RB.out).1; omega
        replace IA := Lib.hid (IA.out.below ub)
        replace RB := Lib.hid ((ub.block _ (Array.getElem?_eq_some_iff.1 RB.out).1).trans RB.out)
        have RA := Lib.hid rA
        replace XB := XB.trans (ub.mono XB.size)
        rw [← hu, ← hbA]
        clear hu hbA rA ub
        obtain ⟨ta0, ta1, qa0, qa1⟩ := blk2 RA.out
        obtain ⟨tb0, tb1, qb0, qb1⟩ := blk2 RB.out
        refine hK.out _ _ ?_ (fun hH2 => ?_)
        · exact HKP.out _ XB
        clear hK K hH1
        (try simp only [Act.put, List.setIfInBounds_toArray, List.set_cons_zero, List.set_cons_succ])
        refine wpAnyH_ready (rs := [3]) (by kernel_rfl) (by simp) ?_
        refine (AllReadyH.cons (o := ({ dst := some 21, op := Op.call { callee := Callee.value (Operand.func 67), args := #[Operand.tmp 20], argTypes := #[38] }, type := 31, pos := "continued.go:67", after := #[{ on := 2, ground := Ground.data }], guard := none } : Oper)) rfl (fun K hK => ?_) AllReadyH.nil)
        go_simp
        clear ta0 ta1 qa0 qa1
        clear tb0 tb1 qb0 qb1
        refine (HDN.out _ (by first | exact XB | exact (Below.refl _ _).drew)).mono ?_
        rintro e u3 ⟨nB, aB, kB, cB, zB, rfl, iB, gB, ub⟩
        replace IA := Lib.hid (IA.out.below ub)
        replace RA := Lib.hid ((ub.block _ (Array.getElem?_eq_some_iff.1 RA.out).1).trans RA.out)
        replace RB := Lib.hid ((ub.block _ (Array.getElem?_eq_some_iff.1 RB.out).1).trans RB.out)
        have IB := Lib.hid iB
        replace XB := XB.trans (ub.mono XB.size)
        clear iB ub
        obtain ⟨ta0, ta1, qa0, qa1⟩ := blk2 RA.out
        obtain ⟨tb0, tb1, qb0, qb1⟩ := blk2 RB.out
        refine hK.out _ _ ?_ (fun hH3 => ?_)
        · exact HKP.out _ XB
        clear hK K hH2
        (try simp only [Act.put, List.setIfInBounds_toArray, List.set_cons_zero, List.set_cons_succ])
        refine wpAnyH_ready (rs := [6]) (by kernel_rfl) (by simp) ?_
        refine (AllReadyH.cons (o := ({ dst := none, op := Op.store 31 (Operand.tmp 6) (Operand.tmp 19), type := 0, pos := "continued.go:67", after := #[{ on := 4, ground := Ground.data }, { on := 1, ground := Ground.data }, { on := 3, ground := Ground.chain }, { on := 0, ground := Ground.phase }, { on := 1, ground := Ground.phase }, { on := 2, ground := Ground.textOnly Departure.lateStores }, { on := 3, ground := Ground.textOnly Departure.lateStoresUnsure }, { on := 4, ground := Ground.phase }, { on := 5, ground := Ground.phase }], guard := none } : Oper)) rfl (fun K hK => ?_) AllReadyH.nil)
        go_simp
        clear ta0 ta1 qa0 qa1
        clear tb0 tb1 qb0 qb1
        obtain ⟨u4, hu⟩ : ∃ u, u = (u3.setCell ⟨bA, 0, none⟩ (.bool nA)).setCell ⟨bA, 1, none⟩ (.slice aA kA cA) := ⟨_, rfl⟩
        have BA := Lib.hid (show IBox u4 bA _ _ _ _ _ _ from by rw [hu]; exact IBox.put IA.out RA.out)
        have xb : Below w3.heap.size w3 u4 := by rw [hu]; exact (XB.setCell (p := ⟨bA, 0, none⟩) hsA _).setCell (p := ⟨bA, 1, none⟩) hsA _
        replace IB := Lib.hid (show IntAt u4 _ _ _ _ _ _ from by rw [hu]; exact IB.out.stored RA.out _ _)
        replace RB := Lib.hid (show u4.heap[bB]? = some (.cells #[.bool false, .slice none 0 0] 31 (0, 0)) from by rw [hu, Below.heap_setCell _ _ _ _ hAB.symm, Below.heap_setCell _ _ _ _ hAB.symm]; exact RB.out)
        rw [← hu]
        clear hu IA RA XB
        have XB := xb
        clear xb
        obtain ⟨tb0, tb1, qb0, qb1⟩ := blk2 RB.out
        refine hK.out _ _ ?_ (fun hH4 => ?_)
        · exact HKP.out _ XB
        clear hK K hH3
        (try simp only [Act.put, List.setIfInBounds_toArray, List.set_cons_zero, List.set_cons_succ])
        refine wpAnyH_ready (rs := [7]) (by kernel_rfl) (by simp) ?_
        refine (AllReadyH.cons (o := ({ dst := none, op := Op.store 31 (Operand.tmp 7) (Operand.tmp 21), type := 0, pos := "continued.go:67", after := #[{ on := 5, ground := Ground.data }, { on := 3, ground := Ground.data }, { on := 6, ground := Ground.chain }, { on := 0, ground := Ground.phase }, { on := 1, ground := Ground.phase }, { on := 2, ground := Ground.phase }, { on := 3, ground := Ground.phase }, { on := 4, ground := Ground.phase }, { on := 5, ground := Ground.phase }, { on := 6, ground := Ground.phase }], guard := none } : Oper)) rfl (fun K hK => ?_) AllReadyH.nil)
        go_simp
        clear tb0 tb1 qb0 qb1
        obtain ⟨u5, hu⟩ : ∃ u, u = (u4.setCell ⟨bB, 0, none⟩ (.bool nB)).setCell ⟨bB, 1, none⟩ (.slice aB kB cB) := ⟨_, rfl⟩
        have BB := Lib.hid (show IBox u5 bB _ _ _ _ _ _ from by rw [hu]; exact IBox.put IB.out RB.out)
        have xb : Below w3.heap.size w3 u5 := by rw [hu]; exact (XB.setCell (p := ⟨bB, 0, none⟩) hsB _).setCell (p := ⟨bB, 1, none⟩) hsB _
        replace BA := Lib.hid (show IBox u5 bA _ _ _ _ _ _ from by rw [hu]; exact BA.out.other RB.out hAB _ _)
        rw [← hu]
        clear hu IB RB XB
        have XB := xb
        clear xb
        refine hK.out _ _ ?_ (fun hH5 => ?_)
        · exact HKP.out _ XB
        clear hK K hH4
        (try simp only [Act.put, List.setIfInBounds_toArray, List.set_cons_zero, List.set_cons_succ])
        refine wpAnyH_done (by kernel_rfl) ?_ _
        refine NoPanic.normal ?_
        go_wp2
        go_meet
        exact ⟨bA, bB, rfl, rfl, hsA, hsB, hAB, _, _, _, _, _, _, _, _, _, _, BA.out, BB.out, hkA, by omega, XB⟩
  case rest =>
  obtain ⟨bA, bB, rfl, rfl, hsA, hsB, hAB, nA', aA', kA', cA', zA', nB, aB, kB, cB, zB, hba, hbb, hka, hkb, hwb⟩ := hcut
  rename World => w4
  have BA := Lib.hid hba
  have BB := Lib.hid hbb
  clear hba hbb HKP HDN IA
  replace R1 := Lib.hid ((hwb.block (P + 1) (Array.getElem?_eq_some_iff.1 R1.out).1).trans R1.out)
  replace R2 := Lib.hid ((hwb.block (P + 1 + 1) (Array.getElem?_eq_some_iff.1 R2.out).1).trans R2.out)
  have hO3 : bO < w3.heap.size := (Array.getElem?_eq_some_iff.1 BO.out.row).1
  replace BO := Lib.hid (BO.out.below hwb)
  replace HB := Lib.hid (HB.out.trans (hwb.mono HB.out.size))
  replace QC := Lib.hid (QC.out.below hwb)
  have HW3 := Lib.hid hwb
  clear hwb l0 QA R0
  have IC := Lib.hid QC.out.top
  have HDN : Hid (∀ w', Below w4.heap.size w4 w' → Calls Tryz.prog 67 #[.agg #[.bool nC, .slice aC kC cC, .bool dC, .slice eC fC gC]] w' (RetInt w' 25 (max fC 2))) := Lib.hid (fun w' hb => den_any w' _ _ _ _ _ _ _ _ _ _ 8 xC 25 (QC.out.below hb))
  have l0 : P + 1 < w4.heap.size := (Array.getElem?_eq_some_iff.1 R1.out).1
  obtain ⟨x0, x1, x2, x3⟩ := blk4 R1.out
  have HKP : Hid (∀ w', Below w4.heap.size w4 w' → w'.cell? ⟨P + 1, 0, none⟩ = some (.bool nC) ∧ w'.cell? ⟨P + 1, 1, none⟩ = some (.slice aC kC cC) ∧ w'.cell? ⟨P + 1, 2, none⟩ = some (.bool dC) ∧ w'.cell? ⟨P + 1, 3, none⟩ = some (.slice eC fC gC)) := Lib.hid (fun w' hb => ⟨(hb.cell (p := ⟨P + 1, 0, none⟩) l0).trans x0, (hb.cell (p := ⟨P + 1, 1, none⟩) l0).trans x1, (hb.cell (p := ⟨P + 1, 2, none⟩) l0).trans x2, (hb.cell (p := ⟨P + 1, 3, none⟩) l0).trans x3⟩)
  clear x0 x1 x2 x3
  go_wp2_with fail
  go_cut [8, 9] (fun pa pb wx => ∃ bC bE : Nat, pa = .pointer (some ⟨bC, 0, none⟩) ∧ pb = .pointer (some ⟨bE, 0, none⟩) ∧ w4.heap.size ≤ bC ∧ w4.heap.size ≤ bE ∧ bC ≠ bE ∧ ∃ nC' aC' kC' cC' zC' nE aE kE cE zE, IBox wx bC nC' aC' kC' cC' zC' 8 ∧ IBox wx bE nE aE kE cE zE 25 ∧ kC' ≤ 10 ∧ kE ≤ 10 ∧ Below w4.heap.size w4 wx)
  case first =>
    as_aux_lemma =>
    refine wp_region_noPanic ?_
    refine wp_region_held_drew (S := (fun w' => w'.cell? ⟨P + 1, 0, none⟩ = some (.bool nC) ∧ w'.cell? ⟨P + 1, 1, none⟩ = some (.slice aC kC cC) ∧ w'.cell? ⟨P + 1, 2, none⟩ = some (.bool dC) ∧ w'.cell? ⟨P + 1, 3, none⟩ = some (.slice eC fC gC))) (by kernel_rfl) ?_ (fun hH0 => ?_)
    · exact HKP.out _ (Below.refl _ _).drew
    refine wpAnyH_take (i := 0) (oi := ({ dst := some 22, op := Op.fieldAddr 38 (Operand.tmp 3) 0, type := 0, pos := "continued.go:68", after := #[], guard := none } : Oper)) (v := ?_) rfl (by kernel_rfl) (by kernel_rfl) (by kernel_rfl) (fun _ _ _ h => h) (Or.inl ⟨by rfl, ?_⟩) (by assumption) ?_
    rotate_left
    · (intro w hSw; (try dsimp only at hSw); go_simp; try with_reducible rfl)
    (try simp only [Act.put, List.setIfInBounds_toArray, List.set_cons_zero, List.set_cons_succ])
    refine wpAnyH_take (i := 1) (oi := ({ dst := some 23, op := Op.load 31 (Operand.tmp 22), type := 31, pos := "continued.go:68", after := #[{ on := 0, ground := Ground.data }], guard := none } : Oper)) (v := ?_) rfl (by kernel_rfl) (by kernel_rfl) (by kernel_rfl) (fun _ _ _ h => h) (Or.inl ⟨by rfl, ?_⟩) (by assumption) ?_
    rotate_left
    · (intro w hSw; (try dsimp only at hSw); go_simp; try with_reducible rfl)
    (try simp only [Act.put, List.setIfInBounds_toArray, List.set_cons_zero, List.set_cons_succ])
    refine wpAnyH_take (i := 2) (oi := ({ dst := some 24, op := Op.load 38 (Operand.tmp 3), type := 38, pos := "continued.go:68", after := #[], guard := none } : Oper)) (v := ?_) rfl (by kernel_rfl) (by kernel_rfl) (by kernel_rfl) (fun _ _ _ h => h) (Or.inl ⟨by rfl, ?_⟩) (by assumption) ?_
    rotate_left
    · (intro w hSw; (try dsimp only at hSw); go_simp; try with_reducible rfl)
    (try simp only [Act.put, List.setIfInBounds_toArray, List.set_cons_zero, List.set_cons_succ])
    refine wpAnyH_ready (rs := [3, 4, 5]) (by kernel_rfl) (by simp) ?_
    refine (AllReadyH.cons (o := ({ dst := some 25, op := Op.call { callee := Callee.value (Operand.func 67), args := #[Operand.tmp 24], argTypes := #[38] }, type := 31, pos := "continued.go:68", after := #[{ on := 2, ground := Ground.data }], guard := none } : Oper)) rfl (fun K hK => ?_) (AllReadyH.cons (o := ({ dst := some 8, op := Op.alloc 31, type := 0, pos := "continued.go:68", after := #[], guard := none } : Oper)) rfl (fun K hK => ?_) (AllReadyH.cons (o := ({ dst := some 9, op := Op.alloc 31, type := 0, pos := "continued.go:68", after := #[], guard := none } : Oper)) rfl (fun K hK => ?_) AllReadyH.nil)))
    · go_simp
      refine (HDN.out _ (by first | exact XB | exact (Below.refl _ _).drew)).mono ?_
      rintro e u1 ⟨nE, aE, kE, cE, zE, rfl, iE, gE, ub⟩
      replace IC := Lib.hid (IC.out.below (Below.refl _ _).drew)
      replace IC := Lib.hid (IC.out.below ub)
      have IE := Lib.hid iE
      have XB : Below w4.heap.size w4 u1 := (Below.refl _ _).drew.trans ub
      clear iE ub
      refine hK.out _ _ ?_ (fun hH1 => ?_)
      · exact HKP.out _ XB
      clear hK K hH0
      (try simp only [Act.put, List.setIfInBounds_toArray, List.set_cons_zero, List.set_cons_succ])
      refine wpAnyH_ready (rs := [4, 5]) (by kernel_rfl) (by simp) ?_
      refine (AllReadyH.cons (o := ({ dst := some 8, op := Op.alloc 31, type := 0, pos := "continued.go:68", after := #[], guard := none } : Oper)) rfl (fun K hK => ?_) (AllReadyH.cons (o := ({ dst := some 9, op := Op.alloc 31, type := 0, pos := "continued.go:68", after := #[], guard := none } : Oper)) rfl (fun K hK => ?_) AllReadyH.nil))
      · go_simp
        obtain ⟨u2, hu⟩ : ∃ u, u = u1.alloc (.cells #[.bool false, .slice none 0 0] 31) := ⟨_, rfl⟩
        obtain ⟨bC, hbC⟩ : ∃ b, b = u1.heap.size := ⟨_, rfl⟩
        have ub : Below u1.heap.size u1 u2 := by rw [hu]; go_grown
        have rC : u2.heap[bC]? = some (.cells #[.bool false, .slice none 0 0] 31 (0, 0)) := by rw [hu, hbC]; exact heap_alloc_new u1 _
        have hsC : w4.heap.size ≤ bC := by rw [hbC]; exact XB.size
        replace IC := Lib.hid (IC.out.below ub)
        replace IE := Lib.hid (IE.out.below ub)
        have RC := Lib.hid rC
        replace XB := XB.trans (ub.mono XB.size)
        rw [← hu, ← hbC]
        clear hu hbC rC ub
        obtain ⟨ta0, ta1, qa0, qa1⟩ := blk2 RC.out
        refine hK.out _ _ ?_ (fun hH2 => ?_)
        · exact HKP.out _ XB
        clear hK K hH1
        (try simp only [Act.put, List.setIfInBounds_toArray, List.set_cons_zero, List.set_cons_succ])
        refine wpAnyH_ready (rs := [5]) (by kernel_rfl) (by simp) ?_
        refine (AllReadyH.cons (o := ({ dst := some 9, op := Op.alloc 31, type := 0, pos := "continued.go:68", after := #[], guard := none } : Oper)) rfl (fun K hK => ?_) AllReadyH.nil)
        go_simp
        clear ta0 ta1 qa0 qa1
        obtain ⟨u3, hu⟩ : ∃ u, u = u2.alloc (.cells #[.bool false, .slice none 0 0] 31) := ⟨_, rfl⟩
        obtain ⟨bE, hbE⟩ : ∃ b, b = u2.heap.size := ⟨_, rfl⟩
        have ub : Below u2.heap.size u2 u3 := by rw [hu]; go_grown
        have rE : u3.heap[bE]? = some (.cells #[.bool false, .slice none 0 0] 31 (0, 0)) := by rw [hu, hbE]; exact heap_alloc_new u2 _
        have hsE : w4.heap.size ≤ bE := by rw [hbE]; exact XB.size
        have hCE : bC ≠ bE := by have := (Array.getElem?_eq_some_iff.1 RC.out).1; omega
        replace IC := Lib.hid (IC.out.below ub)
        replace RC := Lib.hid ((ub.block _ (Array.getElem?_eq_some_iff.1 RC.out).1).trans RC.out)
        replace IE := Lib.hid (IE.out.below ub)
        have RE := Lib.hid rE
        replace XB := XB.trans (ub.mono XB.size)
        rw [← hu, ← hbE]
        clear hu hbE rE ub
        obtain ⟨ta0, ta1, qa0, qa1⟩ := blk2 RC.out
        obtain ⟨tb0, tb1, qb0, qb1⟩ := blk2 RE.out
        refine hK.out _ _ ?_ (fun hH3 => ?_)
        · exact HKP.out _ XB
        clear hK K hH2
        (try simp only [Act.put, List.setIfInBounds_toArray, List.set_cons_zero, List.set_cons_succ])
        refine wpAnyH_ready (rs := [6]) (by kernel_rfl) (by simp) ?_
        refine (AllReadyH.cons (o := ({ dst := none, op := Op.store 31 (Operand.tmp 8) (Operand.tmp 23), type := 0, pos := "continued.go:68", after := #[{ on := 4, ground := Ground.data }, { on := 1, ground := Ground.data }, { on := 3, ground := Ground.chain }, { on := 0, ground := Ground.phase }, { on := 1, ground := Ground.phase }, { on := 2, ground := Ground.textOnly Departure.lateStores }, { on := 3, ground := Ground.textOnly Departure.lateStoresUnsure }, { on := 4, ground := Ground.phase }, { on := 5, ground := Ground.phase }], guard := none } : Oper)) rfl (fun K hK => ?_) AllReadyH.nil)
        go_simp
        clear ta0 ta1 qa0 qa1
        clear tb0 tb1 qb0 qb1
        obtain ⟨u4, hu⟩ : ∃ u, u = (u3.setCell ⟨bC, 0, none⟩ (.bool nC)).setCell ⟨bC, 1, none⟩ (.slice aC kC cC) := ⟨_, rfl⟩
        have BC := Lib.hid (show IBox u4 bC _ _ _ _ _ _ from by rw [hu]; exact IBox.put IC.out RC.out)
        have xb : Below w4.heap.size w4 u4 := by rw [hu]; exact (XB.setCell (p := ⟨bC, 0, none⟩) hsC _).setCell (p := ⟨bC, 1, none⟩) hsC _
        replace IE := Lib.hid (show IntAt u4 _ _ _ _ _ _ from by rw [hu]; exact IE.out.stored RC.out _ _)
        replace RE := Lib.hid (show u4.heap[bE]? = some (.cells #[.bool false, .slice none 0 0] 31 (0, 0)) from by rw [hu, Below.heap_setCell _ _ _ _ hCE.symm, Below.heap_setCell _ _ _ _ hCE.symm]; exact RE.out)
        rw [← hu]
        clear hu IC RC XB
        have XB := xb
        clear xb
        obtain ⟨tb0, tb1, qb0, qb1⟩ := blk2 RE.out
        refine hK.out _ _ ?_ (fun hH4 => ?_)
        · exact HKP.out _ XB
        clear hK K hH3
        (try simp only [Act.put, List.setIfInBounds_toArray, List.set_cons_zero, List.set_cons_succ])
        refine wpAnyH_ready (rs := [7]) (by kernel_rfl) (by simp) ?_
        refine (AllReadyH.cons (o := ({ dst := none, op := Op.store 31 (Operand.tmp 9) (Operand.tmp 25), type := 0, pos := "continued.go:68", after := #[{ on := 5, ground := Ground.data }, { on := 3, ground := Ground.data }, { on := 6, ground := Ground.chain }, { on := 0, ground := Ground.phase }, { on := 1, ground := Ground.phase }, { on := 2, ground := Ground.phase }, { on := 3, ground := Ground.phase }, { on := 4, ground := Ground.phase }, { on := 5, ground := Ground.phase }, { on := 6, ground := Ground.phase }], guard := none } : Oper)) rfl (fun K hK => ?_) AllReadyH.nil)
        go_simp
        clear tb0 tb1 qb0 qb1
        obtain ⟨u5, hu⟩ : ∃ u, u = (u4.setCell ⟨bE, 0, none⟩ (.bool nE)).setCell ⟨bE, 1, none⟩ (.slice aE kE cE) := ⟨_, rfl⟩
        have BE := Lib.hid (show IBox u5 bE _ _ _ _ _ _ from by rw [hu]; exact IBox.put IE.out RE.out)
        have xb : Below w4.heap.size w4 u5 := by rw [hu]; exact (XB.setCell (p := ⟨bE, 0, none⟩) hsE _).setCell (p := ⟨bE, 1, none⟩) hsE _
        replace BC := Lib.hid (show IBox u5 bC _ _ _ _ _ _ from by rw [hu]; exact BC.out.other RE.out hCE _ _)
        rw [← hu]
        clear hu IE RE XB
        have XB := xb
        clear xb
        refine hK.out _ _ ?_ (fun hH5 => ?_)
        · exact HKP.out _ XB
        clear hK K hH4
        (try simp only [Act.put, List.setIfInBounds_toArray, List.set_cons_zero, List.set_cons_succ])
        refine wpAnyH_done (by kernel_rfl) ?_ _
        refine NoPanic.normal ?_
        go_wp2
        go_meet
        exact ⟨bC, bE, rfl, rfl, hsC, hsE, hCE, _, _, _, _, _, _, _, _, _, _, BC.out, BE.out, hkC, by omega, XB⟩
      · go_simp
        obtain ⟨u2, hu⟩ : ∃ u, u = u1.alloc (.cells #[.bool false, .slice none 0 0] 31) := ⟨_, rfl⟩
        obtain ⟨bE, hbE⟩ : ∃ b, b = u1.heap.size := ⟨_, rfl⟩
        have ub : Below u1.heap.size u1 u2 := by rw [hu]; go_grown
        have rE : u2.heap[bE]? = some (.cells #[.bool false, .slice none 0 0] 31 (0, 0)) := by rw [hu, hbE]; exact heap_alloc_new u1 _
        have hsE : w4.heap.size ≤ bE := by rw [hbE]; exact XB.size
        replace IC := Lib.hid (IC.out.below ub)
        replace IE := Lib.hid (IE.out.below ub)
        have RE := Lib.hid rE
        replace XB := XB.trans (ub.mono XB.size)
        rw [← hu, ← hbE]
        clear hu hbE rE ub
        obtain ⟨tb0, tb1, qb0, qb1⟩ := blk2 RE.out
        refine hK.out _ _ ?_ (fun hH2 => ?_)
        · exact HKP.out _ XB
        clear hK K hH1
        (try simp only [Act.put, List.setIfInBounds_toArray, List.set_cons_zero, List.set_cons_succ])
        refine wpAnyH_ready (rs := [4]) (by kernel_rfl) (by simp) ?_
        refine (AllReadyH.cons (o := ({ dst := some 8, op := Op.alloc 31, type := 0, pos := "continued.go:68", after := #[], guard := none } : Oper)) rfl (fun K hK => ?_) AllReadyH.nil)
        go_simp
        clear tb0 tb1 qb0 qb1
        obtain ⟨u3, hu⟩ : ∃ u, u = u2.alloc (.cells #[.bool false, .slice none 0 0] 31) := ⟨_, rfl⟩
        obtain ⟨bC, hbC⟩ : ∃ b, b = u2.heap.size := ⟨_, rfl⟩
        have ub : Below u2.heap.size u2 u3 := by rw [hu]; go_grown
        have rC : u3.heap[bC]? = some (.cells #[.bool false, .slice none 0 0] 31 (0, 0)) := by rw [hu, hbC]; exact heap_alloc_new u2 _
        have hsC : w4.heap.size ≤ bC := by rw [hbC]; exact XB.size
        have hCE : bC ≠ bE := by have := (Array.getElem?_eq_some_iff.1 RE.out).1; omega
        replace IC := Lib.hid (IC.out.below ub)
        replace IE := Lib.hid (IE.out.below ub)
        replace RE := Lib.hid ((ub.block _ (Array.getElem?_eq_some_iff.1 RE.out).1).trans RE.out)
        have RC := Lib.hid rC
        replace XB := XB.trans (ub.mono XB.size)
        rw [← hu, ← hbC]
        clear hu hbC rC ub
        obtain ⟨ta0, ta1, qa0, qa1⟩ := blk2 RC.out
        obtain ⟨tb0, tb1, qb0, qb1⟩ := blk2 RE.out
        refine hK.out _ _ ?_ (fun hH3 => ?_)
        · exact HKP.out _ XB
        clear hK K hH2
        (try simp only [Act.put, List.setIfInBounds_toArray, List.set_cons_zero, List.set_cons_succ])
        refine wpAnyH_ready (rs := [6]) (by kernel_rfl) (by simp) ?_
        refine (AllReadyH.cons (o := ({ dst := none, op := Op.store 31 (Operand.tmp 8) (Operand.tmp 23), type := 0, pos := "continued.go:68", after := #[{ on := 4, ground := Ground.data }, { on := 1, ground := Ground.data }, { on := 3, ground := Ground.chain }, { on := 0, ground := Ground.phase }, { on := 1, ground := Ground.phase }, { on := 2, ground := Ground.textOnly Departure.lateStores }, { on := 3, ground := Ground.textOnly Departure.lateStoresUnsure }, { on := 4, ground := Ground.phase }, { on := 5, ground := Ground.phase }], guard := none } : Oper)) rfl (fun K hK => ?_) AllReadyH.nil)
        go_simp
        clear ta0 ta1 qa0 qa1
        clear tb0 tb1 qb0 qb1
        obtain ⟨u4, hu⟩ : ∃ u, u = (u3.setCell ⟨bC, 0, none⟩ (.bool nC)).setCell ⟨bC, 1, none⟩ (.slice aC kC cC) := ⟨_, rfl⟩
        have BC := Lib.hid (show IBox u4 bC _ _ _ _ _ _ from by rw [hu]; exact IBox.put IC.out RC.out)
        have xb : Below w4.heap.size w4 u4 := by rw [hu]; exact (XB.setCell (p := ⟨bC, 0, none⟩) hsC _).setCell (p := ⟨bC, 1, none⟩) hsC _
        replace IE := Lib.hid (show IntAt u4 _ _ _ _ _ _ from by rw [hu]; exact IE.out.stored RC.out _ _)
        replace RE := Lib.hid (show u4.heap[bE]? = some (.cells #[.bool false, .slice none 0 0] 31 (0, 0)) from by rw [hu, Below.heap_setCell _ _ _ _ hCE.symm, Below.heap_setCell _ _ _ _ hCE.symm]; exact RE.out)
        rw [← hu]
        clear hu IC RC XB
        have XB := xb
        clear xb
        obtain ⟨tb0, tb1, qb0, qb1⟩ := blk2 RE.out
        refine hK.out _ _ ?_ (fun hH4 => ?_)
        · exact HKP.out _ XB
        clear hK K hH3
        (try simp only [Act.put, List.setIfInBounds_toArray, List.set_cons_zero, List.set_cons_succ])
        refine wpAnyH_ready (rs := [7]) (by kernel_rfl) (by simp) ?_
        refine (AllReadyH.cons (o := ({ dst := none, op := Op.store 31 (Operand.tmp 9) (Operand.tmp 25), type := 0, pos := "continued.go:68", after := #[{ on := 5, ground := Ground.data }, { on := 3, ground := Ground.data }, { on := 6, ground := Ground.chain }, { on := 0, ground := Ground.phase }, { on := 1, ground := Ground.phase }, { on := 2, ground := Ground.phase }, { on := 3, ground := Ground.phase }, { on := 4, ground := Ground.phase }, { on := 5, ground := Ground.phase }, { on := 6, ground := Ground.phase }], guard := none } : Oper)) rfl (fun K hK => ?_) AllReadyH.nil)
        go_simp
        clear tb0 tb1 qb0 qb1
        obtain ⟨u5, hu⟩ : ∃ u, u = (u4.setCell ⟨bE, 0, none⟩ (.bool nE)).setCell ⟨bE, 1, none⟩ (.slice aE kE cE) := ⟨_, rfl⟩
        have BE := Lib.hid (show IBox u5 bE _ _ _ _ _ _ from by rw [hu]; exact IBox.put IE.out RE.out)
        have xb : Below w4.heap.size w4 u5 := by rw [hu]; exact (XB.setCell (p := ⟨bE, 0, none⟩) hsE _).setCell (p := ⟨bE, 1, none⟩) hsE _
        replace BC := Lib.hid (show IBox u5 bC _ _ _ _ _ _ from by rw [hu]; exact BC.out.other RE.out hCE _ _)
        rw [← hu]
        clear hu IE RE XB
        have XB := xb
        clear xb
        refine hK.out _ _ ?_ (fun hH5 => ?_)
        · exact HKP.out _ XB
        clear hK K hH4
        (try simp only [Act.put, List.setIfInBounds_toArray, List.set_cons_zero, List.set_cons_succ])
        refine wpAnyH_done (by kernel_rfl) ?_ _
        refine NoPanic.normal ?_
        go_wp2
        go_meet
        exact ⟨bC, bE, rfl, rfl, hsC, hsE, hCE, _, _, _, _, _, _, _, _, _, _, BC.out, BE.out, hkC, by omega, XB⟩
    · go_simp
      obtain ⟨u1, hu⟩ : ∃ u, u = (w4.alloc (.cells #[.bool false, .slice none 0 0] 31)).drew := ⟨_, rfl⟩
      obtain ⟨bC, hbC⟩ : ∃ b, b = w4.heap.size := ⟨_, rfl⟩
      have ub : Below w4.heap.size w4 u1 := by rw [hu]; exact ((Below.refl _ _).alloc (Nat.le_refl _) _).drew
      have rC : u1.heap[bC]? = some (.cells #[.bool false, .slice none 0 0] 31 (0, 0)) := by rw [hu, hbC]; exact heap_alloc_new w4 _
      have hsC : w4.heap.size ≤ bC := by rw [hbC]; exact Nat.le_refl _
      replace IC := Lib.hid (IC.out.below ub)
      have RC := Lib.hid rC
      have XB : Below w4.heap.size w4 u1 := ub
      rw [← hu, ← hbC]
      clear hu hbC rC ub
      obtain ⟨ta0, ta1, qa0, qa1⟩ := blk2 RC.out
      refine hK.out _ _ ?_ (fun hH1 => ?_)
      · exact HKP.out _ XB
      clear hK K hH0
      (try simp only [Act.put, List.setIfInBounds_toArray, List.set_cons_zero, List.set_cons_succ])
      refine wpAnyH_ready (rs := [3, 5]) (by kernel_rfl) (by simp) ?_
      refine (AllReadyH.cons (o := ({ dst := some 25, op := Op.call { callee := Callee.value (Operand.func 67), args := #[Operand.tmp 24], argTypes := #[38] }, type := 31, pos := "continued.go:68", after := #[{ on := 2, ground := Ground.data }], guard := none } : Oper)) rfl (fun K hK => ?_) (AllReadyH.cons (o := ({ dst := some 9, op := Op.alloc 31, type := 0, pos := "continued.go:68", after := #[], guard := none } : Oper)) rfl (fun K hK => ?_) AllReadyH.nil))
      · go_simp
        clear ta0 ta1 qa0 qa1
        refine (HDN.out _ (by first | exact XB | exact (Below.refl _ _).drew)).mono ?_
        rintro e u2 ⟨nE, aE, kE, cE, zE, rfl, iE, gE, ub⟩
        replace IC := Lib.hid (IC.out.below ub)
        replace RC := Lib.hid ((ub.block _ (Array.getElem?_eq_some_iff.1 RC.out).1).trans RC.out)
        have IE := Lib.hid iE
        replace XB := XB.trans (ub.mono XB.size)
        clear iE ub
        obtain ⟨ta0, ta1, qa0, qa1⟩ := blk2 RC.out
        refine hK.out _ _ ?_ (fun hH2 => ?_)
        · exact HKP.out _ XB
        clear hK K hH1
        (try simp only [Act.put, List.setIfInBounds_toArray, List.set_cons_zero, List.set_cons_succ])
        refine wpAnyH_ready (rs := [5]) (by kernel_rfl) (by simp) ?_
        refine (AllReadyH.cons (o := ({ dst := some 9, op := Op.alloc 31, type := 0, pos := "continued.go:68", after := #[], guard := none } : Oper)) rfl (fun K hK => ?_) AllReadyH.nil)
        go_simp
        clear ta0 ta1 qa0 qa1
        obtain ⟨u3, hu⟩ : ∃ u, u = u2.alloc (.cells #[.bool false, .slice none 0 0] 31) := ⟨_, rfl⟩
        obtain ⟨bE, hbE⟩ : ∃ b, b = u2.heap.size := ⟨_, rfl⟩
        have ub : Below u2.heap.size u2 u3 := by rw [hu]; go_grown
        have rE : u3.heap[bE]? = some (.cells #[.bool false, .slice none 0 0] 31 (0, 0)) := by rw [hu, hbE]; exact heap_alloc_new u2 _
        have hsE : w4.heap.size ≤ bE := by rw [hbE]; exact XB.size
        have hCE : bC ≠ bE := by have := (Array.getElem?_eq_some_iff.1 RC.out).1; omega
        replace IC := Lib.hid (IC.out.below ub)
        replace RC := Lib.hid ((ub.block _ (Array.getElem?_eq_some_iff.1 RC.out).1).trans RC.out)
        replace IE := Lib.hid (IE.out.below ub)
        have RE := Lib.hid rE
        replace XB := XB.trans (ub.mono XB.size)
        rw [← hu, ← hbE]
        clear hu hbE rE ub
        obtain ⟨ta0, ta1, qa0, qa1⟩ := blk2 RC.out
        obtain ⟨tb0, tb1, qb0, qb1⟩ := blk2 RE.out
        refine hK.out _ _ ?_ (fun hH3 => ?_)
        · exact HKP.out _ XB
        clear hK K hH2
        (try simp only [Act.put, List.setIfInBounds_toArray, List.set_cons_zero, List.set_cons_succ])
        refine wpAnyH_ready (rs := [6]) (by kernel_rfl) (by simp) ?_
        refine (AllReadyH.cons (o := ({ dst := none, op := Op.store 31 (Operand.tmp 8) (Operand.tmp 23), type := 0, pos := "continued.go:68", after := #[{ on := 4, ground := Ground.data }, { on := 1, ground := Ground.data }, { on := 3, ground := Ground.chain }, { on := 0, ground := Ground.phase }, { on := 1, ground := Ground.phase }, { on := 2, ground := Ground.textOnly Departure.lateStores }, { on := 3, ground := Ground.textOnly Departure.lateStoresUnsure }, { on := 4, ground := Ground.phase }, { on := 5, ground := Ground.phase }], guard := none } : Oper)) rfl (fun K hK => ?_) AllReadyH.nil)
        go_simp
        clear ta0 ta1 qa0 qa1
        clear tb0 tb1 qb0 qb1
        obtain ⟨u4, hu⟩ : ∃ u, u = (u3.setCell ⟨bC, 0, none⟩ (.bool nC)).setCell ⟨bC, 1, none⟩ (.slice aC kC cC) := ⟨_, rfl⟩
        have BC := Lib.hid (show IBox u4 bC _ _ _ _ _ _ from by rw [hu]; exact IBox.put IC.out RC.out)
        have xb : Below w4.heap.size w4 u4 := by rw [hu]; exact (XB.setCell (p := ⟨bC, 0, none⟩) hsC _).setCell (p := ⟨bC, 1, none⟩) hsC _
        replace IE := Lib.hid (show IntAt u4 _ _ _ _ _ _ from by rw [hu]; exact IE.out.stored RC.out _ _)
        replace RE := Lib.hid (show u4.heap[bE]? = some (.cells #[.bool false, .slice none 0 0] 31 (0, 0)) from by rw [hu, Below.heap_setCell _ _ _ _ hCE.symm, Below.heap_setCell _ _ _ _ hCE.symm]; exact RE.out)
        rw [← hu]
        clear hu IC RC XB
        have XB := xb
        clear xb
        obtain ⟨tb0, tb1, qb0, qb1⟩ := blk2 RE.out
        refine hK.out _ _ ?_ (fun hH4 => ?_)
        · exact HKP.out _ XB
        clear hK K hH3
        (try simp only [Act.put, List.setIfInBounds_toArray, List.set_cons_zero, List.set_cons_succ])
        refine wpAnyH_ready (rs := [7]) (by kernel_rfl) (by simp) ?_
        refine (AllReadyH.cons (o := ({ dst := none, op := Op.store 31 (Operand.tmp 9) (Operand.tmp 25), type := 0, pos := "continued.go:68", after := #[{ on := 5, ground := Ground.data }, { on := 3, ground := Ground.data }, { on := 6, ground := Ground.chain }, { on := 0, ground := Ground.phase }, { on := 1, ground := Ground.phase }, { on := 2, ground := Ground.phase }, { on := 3, ground := Ground.phase }, { on := 4, ground := Ground.phase }, { on := 5, ground := Ground.phase }, { on := 6, ground := Ground.phase }], guard := none } : Oper)) rfl (fun K hK => ?_) AllReadyH.nil)
        go_simp
        clear tb0 tb1 qb0 qb1
        obtain ⟨u5, hu⟩ : ∃ u, u = (u4.setCell ⟨bE, 0, none⟩ (.bool nE)).setCell ⟨bE, 1, none⟩ (.slice aE kE cE) := ⟨_, rfl⟩
        have BE := Lib.hid (show IBox u5 bE _ _ _ _ _ _ from by rw [hu]; exact IBox.put IE.out RE.out)
        have xb : Below w4.heap.size w4 u5 := by rw [hu]; exact (XB.setCell (p := ⟨bE, 0, none⟩) hsE _).setCell (p := ⟨bE, 1, none⟩) hsE _
        replace BC := Lib.hid (show IBox u5 bC _ _ _ _ _ _ from by rw [hu]; exact BC.out.other RE.out hCE _ _)
        rw [← hu]
        clear hu IE RE XB
        have XB := xb
        clear xb
        refine hK.out _ _ ?_ (fun hH5 => ?_)
        · exact HKP.out _ XB
        clear hK K hH4
        (try simp only [Act.put, List.setIfInBounds_toArray, List.set_cons_zero, List.set_cons_succ])
        refine wpAnyH_done (by kernel_rfl) ?_ _
        refine NoPanic.normal ?_
        go_wp2
        go_meet
        exact ⟨bC, bE, rfl, rfl, hsC, hsE, hCE, _, _, _, _, _, _, _, _, _, _, BC.out, BE.out, hkC, by omega, XB⟩
      · go_simp
        clear ta0 ta1 qa0 qa1
        obtain ⟨u2, hu⟩ : ∃ u, u = u1.alloc (.cells #[.bool false, .slice none 0 0] 31) := ⟨_, rfl⟩
        obtain ⟨bE, hbE⟩ : ∃ b, b = u1.heap.size := ⟨_, rfl⟩
        have ub : Below u1.heap.size u1 u2 := by rw [hu]; go_grown
        have rE : u2.heap[bE]? = some (.cells #[.bool false, .slice none 0 0] 31 (0, 0)) := by rw [hu, hbE]; exact heap_alloc_new u1 _
        have hsE : w4.heap.size ≤ bE := by rw [hbE]; exact XB.size
        have hCE : bC ≠ bE := by have := (Array.getElem?_eq_some_iff.1 RC.out).1; omega
        replace IC := Lib.hid (IC.out.below ub)
        replace RC := Lib.hid ((ub.block _ (Array.getElem?_eq_some_iff.1 RC.out).1).trans RC.out)
        have RE := Lib.hid rE
        replace XB := XB.trans (ub.mono XB.size)
        rw [← hu, ← hbE]
        clear hu hbE rE ub
        obtain ⟨ta0, ta1, qa0, qa1⟩ := blk2 RC.out
        obtain ⟨tb0, tb1, qb0, qb1⟩ := blk2 RE.out
        refine hK.out _ _ ?_ (fun hH2 => ?_)
        · exact HKP.out _ XB
        clear hK K hH1
        (try simp only [Act.put, List.setIfInBounds_toArray, List.set_cons_zero, List.set_cons_succ])
        refine wpAnyH_ready (rs := [3]) (by kernel_rfl) (by simp) ?_
        refine (AllReadyH.cons (o := ({ dst := some 25, op := Op.call { callee := Callee.value (Operand.func 67), args := #[Operand.tmp 24], argTypes := #[38] }, type := 31, pos := "continued.go:68", after := #[{ on := 2, ground := Ground.data }], guard := none } : Oper)) rfl (fun K hK => ?_) AllReadyH.nil)
        go_simp
        clear ta0 ta1 qa0 qa1
        clear tb0 tb1 qb0 qb1
        refine (HDN.out _ (by first | exact XB | exact (Below.refl _ _).drew)).mono ?_
        rintro e u3 ⟨nE, aE, kE, cE, zE, rfl, iE, gE, ub⟩
        replace IC := Lib.hid (IC.out.below ub)
        replace RC := Lib.hid ((ub.block _ (Array.getElem?_eq_some_iff.1 RC.out).1).trans RC.out)
        replace RE := Lib.hid ((ub.block _ (Array.getElem?_eq_some_iff.1 RE.out).1).trans RE.out)
        have IE := Lib.hid iE
        replace XB := XB.trans (ub.mono XB.size)
        clear iE ub
        obtain ⟨ta0, ta1, qa0, qa1⟩ := blk2 RC.out
        obtain ⟨tb0, tb1, qb0, qb1⟩ := blk2 RE.out
        refine hK.out _ _ ?_ (fun hH3 => ?_)
        · exact HKP.out _ XB
        clear hK K hH2
        (try simp only [Act.put, List.setIfInBounds_toArray, List.set_cons_zero, List.set_cons_succ])
        refine wpAnyH_ready (rs := [6]) (by kernel_rfl) (by simp) ?_
        refine (AllReadyH.cons (o := ({ dst := none, op := Op.store 31 (Operand.tmp 8) (Operand.tmp 23), type := 0, pos := "continued.go:68", after := #[{ on := 4, ground := Ground.data }, { on := 1, ground := Ground.data }, { on := 3, ground := Ground.chain }, { on := 0, ground := Ground.phase }, { on := 1, ground := Ground.phase }, { on := 2, ground := Ground.textOnly Departure.lateStores }, { on := 3, ground := Ground.textOnly Departure.lateStoresUnsure }, { on := 4, ground := Ground.phase }, { on := 5, ground := Ground.phase }], guard := none } : Oper)) rfl (fun K hK => ?_) AllReadyH.nil)
        go_simp
        clear ta0 ta1 qa0 qa1
        clear tb0 tb1 qb0 qb1
        obtain ⟨u4, hu⟩ : ∃ u, u = (u3.setCell ⟨bC, 0, none⟩ (.bool nC)).setCell ⟨bC, 1, none⟩ (.slice aC kC cC) := ⟨_, rfl⟩
        have BC := Lib.hid (show IBox u4 bC _ _ _ _ _ _ from by rw [hu]; exact IBox.put IC.out RC.out)
        have xb : Below w4.heap.size w4 u4 := by rw [hu]; exact (XB.setCell (p := ⟨bC, 0, none⟩) hsC _).setCell (p := ⟨bC, 1, none⟩) hsC _
        replace IE := Lib.hid (show IntAt u4 _ _ _ _ _ _ from by rw [hu]; exact IE.out.stored RC.out _ _)
        replace RE := Lib.hid (show u4.heap[bE]? = some (.cells #[.bool false, .slice none 0 0] 31 (0, 0)) from by rw [hu, Below.heap_setCell _ _ _ _ hCE.symm, Below.heap_setCell _ _ _ _ hCE.symm]; exact RE.out)
        rw [← hu]
        clear hu IC RC XB
        have XB := xb
        clear xb
        obtain ⟨tb0, tb1, qb0, qb1⟩ := blk2 RE.out
        refine hK.out _ _ ?_ (fun hH4 => ?_)
        · exact HKP.out _ XB
        clear hK K hH3
        (try simp only [Act.put, List.setIfInBounds_toArray, List.set_cons_zero, List.set_cons_succ])
        refine wpAnyH_ready (rs := [7]) (by kernel_rfl) (by simp) ?_
        refine (AllReadyH.cons (o := ({ dst := none, op := Op.store 31 (Operand.tmp 9) (Operand.tmp 25), type := 0, pos := "continued.go:68", after := #[{ on := 5, ground := Ground.data }, { on := 3, ground := Ground.data }, { on := 6, ground := Ground.chain }, { on := 0, ground := Ground.phase }, { on := 1, ground := Ground.phase }, { on := 2, ground := Ground.phase }, { on := 3, ground := Ground.phase }, { on := 4, ground := Ground.phase }, { on := 5, ground := Ground.phase }, { on := 6, ground := Ground.phase }], guard := none } : Oper)) rfl (fun K hK => ?_) AllReadyH.nil)
        go_simp
        clear tb0 tb1 qb0 qb1
        obtain ⟨u5, hu⟩ : ∃ u, u = (u4.setCell ⟨bE, 0, none⟩ (.bool nE)).setCell ⟨bE, 1, none⟩ (.slice aE kE cE) := ⟨_, rfl⟩
        have BE := Lib.hid (show IBox u5 bE _ _ _ _ _ _ from by rw [hu]; exact IBox.put IE.out RE.out)
        have xb : Below w4.heap.size w4 u5 := by rw [hu]; exact (XB.setCell (p := ⟨bE, 0, none⟩) hsE _).setCell (p := ⟨bE, 1, none⟩) hsE _
        replace BC := Lib.hid (show IBox u5 bC _ _ _ _ _ _ from by rw [hu]; exact BC.out.other RE.out hCE _ _)
        rw [← hu]
        clear hu IE RE XB
        have XB := xb
        clear xb
        refine hK.out _ _ ?_ (fun hH5 => ?_)
        · exact HKP.out _ XB
        clear hK K hH4
        (try simp only [Act.put, List.setIfInBounds_toArray, List.set_cons_zero, List.set_cons_succ])
        refine wpAnyH_done (by kernel_rfl) ?_ _
        refine NoPanic.normal ?_
        go_wp2
        go_meet
        exact ⟨bC, bE, rfl, rfl, hsC, hsE, hCE, _, _, _, _, _, _, _, _, _, _, BC.out, BE.out, hkC, by omega, XB⟩
    · go_simp
      obtain ⟨u1, hu⟩ : ∃ u, u = (w4.alloc (.cells #[.bool false, .slice none 0 0] 31)).drew := ⟨_, rfl⟩
      obtain ⟨bE, hbE⟩ : ∃ b, b = w4.heap.size := ⟨_, rfl⟩
      have ub : Below w4.heap.size w4 u1 := by rw [hu]; exact ((Below.refl _ _).alloc (Nat.le_refl _) _).drew
      have rE : u1.heap[bE]? = some (.cells #[.bool false, .slice none 0 0] 31 (0, 0)) := by rw [hu, hbE]; exact heap_alloc_new w4 _
      have hsE : w4.heap.size ≤ bE := by rw [hbE]; exact Nat.le_refl _
      replace IC := Lib.hid (IC.out.below ub)
      have RE := Lib.hid rE
      have XB : Below w4.heap.size w4 u1 := ub
      rw [← hu, ← hbE]
      clear hu hbE rE ub
      obtain ⟨tb0, tb1, qb0, qb1⟩ := blk2 RE.out
      refine hK.out _ _ ?_ (fun hH1 => ?_)
      · exact HKP.out _ XB
      clear hK K hH0
      (try simp only [Act.put, List.setIfInBounds_toArray, List.set_cons_zero, List.set_cons_succ])
      refine wpAnyH_ready (rs := [3, 4]) (by kernel_rfl) (by simp) ?_
      refine (AllReadyH.cons (o := ({ dst := some 25, op := Op.call { callee := Callee.value (Operand.func 67), args := #[Operand.tmp 24], argTypes := #[38] }, type := 31, pos := "continued.go:68", after := #[{ on := 2, ground := Ground.data }], guard := none } : Oper)) rfl (fun K hK => ?_) (AllReadyH.cons (o := ({ dst := some 8, op := Op.alloc 31, type := 0, pos := "continued.go:68", after := #[], guard := none } : Oper)) rfl (fun K hK => ?_) AllReadyH.nil))
      · go_simp
        clear tb0 tb1 qb0 qb1
        refine (HDN.out _ (by first | exact XB | exact (Below.refl _ _).drew)).mono ?_
        rintro e u2 ⟨nE, aE, kE, cE, zE, rfl, iE, gE, ub⟩
        replace IC := Lib.hid (IC.out.below ub)
        replace RE := Lib.hid ((ub.block _ (Array.getElem?_eq_some_iff.1 RE.out).1).trans RE.out)
        have IE := Lib.hid iE
        replace XB := XB.trans (ub.mono XB.size)
        clear iE ub
        obtain ⟨tb0, tb1, qb0, qb1⟩ := blk2 RE.out
        refine hK.out _ _ ?_ (fun hH2 => ?_)
        · exact HKP.out _ XB
        clear hK K hH1
        (try simp only [Act.put, List.setIfInBounds_toArray, List.set_cons_zero, List.set_cons_succ])
        refine wpAnyH_ready (rs := [4]) (by kernel_rfl) (by simp) ?_
        refine (AllReadyH.cons (o := ({ dst := some 8, op := Op.alloc 31, type := 0, pos := "continued.go:68", after := #[], guard := none } : Oper)) rfl (fun K hK => ?_) AllReadyH.nil)
        go_simp
        clear tb0 tb1 qb0 qb1
        obtain ⟨u3, hu⟩ : ∃ u, u = u2.alloc (.cells #[.bool false, .slice none 0 0] 31) := ⟨_, rfl⟩
        obtain ⟨bC, hbC⟩ : ∃ b, b = u2.heap.size := ⟨_, rfl⟩
        have ub : Below u2.heap.size u2 u3 := by rw [hu]; go_grown
        have rC : u3.heap[bC]? = some (.cells #[.bool false, .slice none 0 0] 31 (0, 0)) := by rw [hu, hbC]; exact heap_alloc_new u2 _
        have hsC : w4.heap.size ≤ bC := by rw [hbC]; exact XB.size
        have hCE : bC ≠ bE := by have := (Array.getElem?_eq_some_iff.1 RE.out).1; omega
        replace IC := Lib.hid (IC.out.below ub)
        replace IE := Lib.hid (IE.out.below ub)
        replace RE := Lib.hid ((ub.block _ (Array.getElem?_eq_some_iff.1 RE.out).1).trans RE.out)
        have RC := Lib.hid rC
        replace XB := XB.trans (ub.mono XB.size)
        rw [← hu, ← hbC]
        clear hu hbC rC ub
        obtain ⟨ta0, ta1, qa0, qa1⟩ := blk2 RC.out
        obtain ⟨tb0, tb1, qb0, qb1⟩ := blk2 RE.out
        refine hK.out _ _ ?_ (fun hH3 => ?_)
        · exact HKP.out _ XB
        clear hK K hH2
        (try simp only [Act.put, List.setIfInBounds_toArray, List.set_cons_zero, List.set_cons_succ])
        refine wpAnyH_ready (rs := [6]) (by kernel_rfl) (by simp) ?_
        refine (AllReadyH.cons (o := ({ dst := none, op := Op.store 31 (Operand.tmp 8) (Operand.tmp 23), type := 0, pos := "continued.go:68", after := #[{ on := 4, ground := Ground.data }, { on := 1, ground := Ground.data }, { on := 3, ground := Ground.chain }, { on := 0, ground := Ground.phase }, { on := 1, ground := Ground.phase }, { on := 2, ground := Ground.textOnly Departure.lateStores }, { on := 3, ground := Ground.textOnly Departure.lateStoresUnsure }, { on := 4, ground := Ground.phase }, { on := 5, ground := Ground.phase }], guard := none } : Oper)) rfl (fun K hK => ?_) AllReadyH.nil)
        go_simp
        clear ta0 ta1 qa0 qa1
        clear tb0 tb1 qb0 qb1
        obtain ⟨u4, hu⟩ : ∃ u, u = (u3.setCell ⟨bC, 0, none⟩ (.bool nC)).setCell ⟨bC, 1, none⟩ (.slice aC kC cC) := ⟨_, rfl⟩
        have BC := Lib.hid (show IBox u4 bC _ _ _ _ _ _ from by rw [hu]; exact IBox.put IC.out RC.out)
        have xb : Below w4.heap.size w4 u4 := by rw [hu]; exact (XB.setCell (p := ⟨bC, 0, none⟩) hsC _).setCell (p := ⟨bC, 1, none⟩) hsC _
        replace IE := Lib.hid (show IntAt u4 _ _ _ _ _ _ from by rw [hu]; exact IE.out.stored RC.out _ _)
        replace RE := Lib.hid (show u4.heap[bE]? = some (.cells #[.bool false, .slice none 0 0] 31 (0, 0)) from by rw [hu, Below.heap_setCell _ _ _ _ hCE.symm, Below.heap_setCell _ _ _ _ hCE.symm]; exact RE.out)
        rw [← hu]
        clear hu IC RC XB
        have XB := xb
        clear xb
        obtain ⟨tb0, tb1, qb0, qb1⟩ := blk2 RE.out
        refine hK.out _ _ ?_ (fun hH4 => ?_)
        · exact HKP.out _ XB
        clear hK K hH3
        (try simp only [Act.put, List.setIfInBounds_toArray, List.set_cons_zero, List.set_cons_succ])
        refine wpAnyH_ready (rs := [7]) (by kernel_rfl) (by simp) ?_
        refine (AllReadyH.cons (o := ({ dst := none, op := Op.store 31 (Operand.tmp 9) (Operand.tmp 25), type := 0, pos := "continued.go:68", after := #[{ on := 5, ground := Ground.data }, { on := 3, ground := Ground.data }, { on := 6, ground := Ground.chain }, { on := 0, ground := Ground.phase }, { on := 1, ground := Ground.phase }, { on := 2, ground := Ground.phase }, { on := 3, ground := Ground.phase }, { on := 4, ground := Ground.phase }, { on := 5, ground := Ground.phase }, { on := 6, ground := Ground.phase }], guard := none } : Oper)) rfl (fun K hK => ?_) AllReadyH.nil)
        go_simp
        clear tb0 tb1 qb0 qb1
        obtain ⟨u5, hu⟩ : ∃ u, u = (u4.setCell ⟨bE, 0, none⟩ (.bool nE)).setCell ⟨bE, 1, none⟩ (.slice aE kE cE) := ⟨_, rfl⟩
        have BE := Lib.hid (show IBox u5 bE _ _ _ _ _ _ from by rw [hu]; exact IBox.put IE.out RE.out)
        have xb : Below w4.heap.size w4 u5 := by rw [hu]; exact (XB.setCell (p := ⟨bE, 0, none⟩) hsE _).setCell (p := ⟨bE, 1, none⟩) hsE _
        replace BC := Lib.hid (show IBox u5 bC _ _ _ _ _ _ from by rw [hu]; exact BC.out.other RE.out hCE _ _)
        rw [← hu]
        clear hu IE RE XB
        have XB := xb
        clear xb
        refine hK.out _ _ ?_ (fun hH5 => ?_)
        · exact HKP.out _ XB
        clear hK K hH4
        (try simp only [Act.put, List.setIfInBounds_toArray, List.set_cons_zero, List.set_cons_succ])
        refine wpAnyH_done (by kernel_rfl) ?_ _
        refine NoPanic.normal ?_
        go_wp2
        go_meet
        exact ⟨bC, bE, rfl, rfl, hsC, hsE, hCE, _, _, _, _, _, _, _, _, _, _, BC.out, BE.out, hkC, by omega, XB⟩
      · go_simp
        clear tb0 tb1 qb0 qb1
        obtain ⟨u2, hu⟩ : ∃ u, u = u1.alloc (.cells #[.bool false, .slice none 0 0] 31) := ⟨_, rfl⟩
        obtain ⟨bC, hbC⟩ : ∃ b, b = u1.heap.size := ⟨_, rfl⟩
        have ub : Below u1.heap.size u1 u2 := by rw [hu]; go_grown
        have rC : u2.heap[bC]? = some (.cells #[.bool false, .slice none 0 0] 31 (0, 0)) := by rw [hu, hbC]; exact heap_alloc_new u1 _
        have hsC : w4.heap.size ≤ bC := by rw [hbC]; exact XB.size
        have hCE : bC ≠ bE := by have := (Array.getElem?_eq_some_iff.1 RE.out).1; omega
        replace IC := Lib.hid (IC.out.below ub)
        replace RE := Lib.hid ((ub.block _ (Array.getElem?_eq_some_iff.1 RE.out).1).trans RE.out)
        have RC := Lib.hid rC
        replace XB := XB.trans (ub.mono XB.size)
        rw [← hu, ← hbC]
        clear hu hbC rC ub
        obtain ⟨ta0, ta1, qa0, qa1⟩ := blk2 RC.out
        obtain ⟨tb0, tb1, qb0, qb1⟩ := blk2 RE.out
        refine hK.out _ _ ?_ (fun hH2 => ?_)
        · exact HKP.out _ XB
        clear hK K hH1
        (try simp only [Act.put, List.setIfInBounds_toArray, List.set_cons_zero, List.set_cons_succ])
        refine wpAnyH_ready (rs := [3]) (by kernel_rfl) (by simp) ?_
        refine (AllReadyH.cons (o := ({ dst := some 25, op := Op.call { callee := Callee.value (Operand.func 67), args := #[Operand.tmp 24], argTypes := #[38] }, type := 31, pos := "continued.go:68", after := #[{ on := 2, ground := Ground.data }], guard := none } : Oper)) rfl (fun K hK => ?_) AllReadyH.nil)
        go_simp
        clear ta0 ta1 qa0 qa1
        clear tb0 tb1 qb0 qb1
        refine (HDN.out _ (by first | exact XB | exact (Below.refl _ _).drew)).mono ?_
        rintro e u3 ⟨nE, aE, kE, cE, zE, rfl, iE, gE, ub⟩
        replace IC := Lib.hid (IC.out.below ub)
        replace RC := Lib.hid ((ub.block _ (Array.getElem?_eq_some_iff.1 RC.out).1).trans RC.out)
        replace RE := Lib.hid ((ub.block _ (Array.getElem?_eq_some_iff.1 RE.out).1).trans RE.out)
        have IE := Lib.hid iE
        replace XB := XB.trans (ub.mono XB.size)
        clear iE ub
        obtain ⟨ta0, ta1, qa0, qa1⟩ := blk2 RC.out
        obtain ⟨tb0, tb1, qb0, qb1⟩ := blk2 RE.out
        refine hK.out _ _ ?_ (fun hH3 => ?_)
        · exact HKP.out _ XB
        clear hK K hH2
        (try simp only [Act.put, List.setIfInBounds_toArray, List.set_cons_zero, List.set_cons_succ])
        refine wpAnyH_ready (rs := [6]) (by kernel_rfl) (by simp) ?_
        refine (AllReadyH.cons (o := ({ dst := none, op := Op.store 31 (Operand.tmp 8) (Operand.tmp 23), type := 0, pos := "continued.go:68", after := #[{ on := 4, ground := Ground.data }, { on := 1, ground := Ground.data }, { on := 3, ground := Ground.chain }, { on := 0, ground := Ground.phase }, { on := 1, ground := Ground.phase }, { on := 2, ground := Ground.textOnly Departure.lateStores }, { on := 3, ground := Ground.textOnly Departure.lateStoresUnsure }, { on := 4, ground := Ground.phase }, { on := 5, ground := Ground.phase }], guard := none } : Oper)) rfl (fun K hK => ?_) AllReadyH.nil)
        go_simp
        clear ta0 ta1 qa0 qa1
        clear tb0 tb1 qb0 qb1
        obtain ⟨u4, hu⟩ : ∃ u, u = (u3.setCell ⟨bC, 0, none⟩ (.bool nC)).setCell ⟨bC, 1, none⟩ (.slice aC kC cC) := ⟨_, rfl⟩
        have BC := Lib.hid (show IBox u4 bC _ _ _ _ _ _ from by rw [hu]; exact IBox.put IC.out RC.out)
        have xb : Below w4.heap.size w4 u4 := by rw [hu]; exact (XB.setCell (p := ⟨bC, 0, none⟩) hsC _).setCell (p := ⟨bC, 1, none⟩) hsC _
        replace IE := Lib.hid (show IntAt u4 _ _ _ _ _ _ from by rw [hu]; exact IE.out.stored RC.out _ _)
        replace RE := Lib.hid (show u4.heap[bE]? = some (.cells #[.bool false, .slice none 0 0] 31 (0, 0)) from by rw [hu, Below.heap_setCell _ _ _ _ hCE.symm, Below.heap_setCell _ _ _ _ hCE.symm]; exact RE.out)
        rw [← hu]
        clear hu IC RC XB
        have XB := xb
        clear xb
        obtain ⟨tb0, tb1, qb0, qb1⟩ := blk2 RE.out
        refine hK.out _ _ ?_ (fun hH4 => ?_)
        · exact HKP.out _ XB
        clear hK K hH3
        (try simp only [Act.put, List.setIfInBounds_toArray, List.set_cons_zero, List.set_cons_succ])
        refine wpAnyH_ready (rs := [7]) (by kernel_rfl) (by simp) ?_
        refine (AllReadyH.cons (o := ({ dst := none, op := Op.store 31 (Operand.tmp 9) (Operand.tmp 25), type := 0, pos := "continued.go:68", after := #[{ on := 5, ground := Ground.data }, { on := 3, ground := Ground.data }, { on := 6, ground := Ground.chain }, { on := 0, ground := Ground.phase }, { on := 1, ground := Ground.phase }, { on := 2, ground := Ground.phase }, { on := 3, ground := Ground.phase }, { on := 4, ground := Ground.phase }, { on := 5, ground := Ground.phase }, { on := 6, ground := Ground.phase }], guard := none } : Oper)) rfl (fun K hK => ?_) AllReadyH.nil)
        go_simp
        clear tb0 tb1 qb0 qb1
        obtain ⟨u5, hu⟩ : ∃ u, u = (u4.setCell ⟨bE, 0, none⟩ (.bool nE)).setCell ⟨bE, 1, none⟩ (.slice aE kE cE) := ⟨_, rfl⟩
        have BE := Lib.hid (show IBox u5 bE _ _ _ _ _ _ from by rw [hu]; exact IBox.put IE.out RE.out)
        have xb : Below w4.heap.size w4 u5 := by rw [hu]; exact (XB.setCell (p := ⟨bE, 0, none⟩) hsE _).setCell (p := ⟨bE, 1, none⟩) hsE _
        replace BC := Lib.hid (show IBox u5 bC _ _ _ _ _ _ from by rw [hu]; exact BC.out.other RE.out hCE _ _)
        rw [← hu]
        clear hu IE RE XB
        have XB := xb
        clear xb
        refine hK.out _ _ ?_ (fun hH5 => ?_)
        · exact HKP.out _ XB
        clear hK K hH4
        (try simp only [Act.put, List.setIfInBounds_toArray, List.set_cons_zero, List.set_cons_succ])
        refine wpAnyH_done (by kernel_rfl) ?_ _
        refine NoPanic.normal ?_
        go_wp2
        go_meet
        exact ⟨bC, bE, rfl, rfl, hsC, hsE, hCE, _, _, _, _, _, _, _, _, _, _, BC.out, BE.out, hkC, by omega, XB⟩
  case rest =>
  obtain ⟨bC, bE, rfl, rfl, hsC, hsE, hCE, nC', aC', kC', cC', zC', nE, aE, kE, cE, zE, hba, hbb, hka, hkb, hwb⟩ := hcut
  rename World => w5
  have BC := Lib.hid hba
  have BE := Lib.hid hbb
  clear hba hbb HKP HDN IC
  have hA4 : bA < w4.heap.size := (Array.getElem?_eq_some_iff.1 BA.out.row).1
  have hB4 : bB < w4.heap.size := (Array.getElem?_eq_some_iff.1 BB.out.row).1
  have hC5 : bC < w5.heap.size := (Array.getElem?_eq_some_iff.1 BC.out.row).1
  have hE5 : bE < w5.heap.size := (Array.getElem?_eq_some_iff.1 BE.out.row).1
  replace R2 := Lib.hid ((hwb.block (P + 1 + 1) (Array.getElem?_eq_some_iff.1 R2.out).1).trans R2.out)
  replace BO := Lib.hid (BO.out.below hwb)
  replace BA := Lib.hid (BA.out.below hwb)
  replace BB := Lib.hid (BB.out.below hwb)
  replace HB := Lib.hid (HB.out.trans (hwb.mono HB.out.size))
  have HW4 := Lib.hid hwb
  clear hwb l0 QC R1
  go_wp2_with fail
  have LIE : Hid (Lie w.heap.size w5.heap.size bA bB bC bE bO (P + 1 + 1)) := Lib.hid (by
    have h1 := HP.out
    constructor <;> omega)
  have FV : Hid (Five w w5 w.heap.size w5.heap.size bA bB bC bE bO (P + 1 + 1) (some (.cells #[.bool false, .slice none 0 0, .bool false, .slice none 0 0] 38 (0, 0))) 31 100 8 25 (.slice none 0 0) []) := Lib.hid ⟨⟨_, _, _, _, _, BA.out⟩, ⟨_, _, _, _, _, BB.out⟩, ⟨_, _, _, _, _, BC.out⟩, ⟨_, _, _, _, _, BE.out⟩, ⟨_, _, _, _, _, BO.out⟩, Rowed.nil _ _, HB.out, R2.out, Nat.le_refl _⟩
  clear BA BB BC BE BO R2 HB HW3 HW4 hA4 hB4 hC5 hE5 hO3 hbO1 hsA hsB hAB hsC hsE hCE
  go_loopw [10] (fun l wr => SR w w5.heap.size bA bB bC bE bO (P + 1 + 1) l wr) (fun l _ => 3 - sliceLen l)
  case atStart => exact .inl ⟨rfl, FV.out⟩
  case round =>
    clear FV
    rcases hrel with ⟨rfl, hfv⟩ | ⟨⟨g0, cap0, rfl⟩, hfv⟩ | ⟨⟨g0, cap0, rfl⟩, hfv⟩
    · have FV := Lib.hid hfv
      clear hfv
      have HS0 := Lib.hid FV.out.s
      obtain ⟨sA, aA, nA, cA, zA, iA⟩ := FV.out.fA
      obtain ⟨sB, aB, nB, cB, zB, iB⟩ := FV.out.fB
      obtain ⟨ta0, ta1, -, -⟩ := blk2 iA.row
      obtain ⟨tb0, tb1, -, -⟩ := blk2 iB.row
      have IA := Lib.hid iA.it
      have IB := Lib.hid iB.it
      clear iA iB
      go_wp2_with fail
      refine (floor_pos wr sA sB aA aB nA nB cA cB zA zB 31 100 IA.out IB.out (by decide) (by decide) (by have := int_small IA.out (by decide) (by decide); omega)).mono ?_
      rintro e v1 ⟨s1, a1, m1, k1, z1, s2, a2, m2, k2, z2, rfl, j1, -, j2, -, ub⟩
      replace j1 : IntAt v1 s1 a1 m1 k1 z1 0 := j1
      replace j2 : IntAt v1 s2 a2 m2 k2 z2 31 := j2
      have HQ := Lib.hid ub.size
      replace FV := Lib.hid (FV.out.below LIE.out ub)
      have J1 := Lib.hid j1
      have J2 := Lib.hid j2
      clear ub j1 j2 ta0 ta1 tb0 tb1 IA IB
      go_upto_region 6 with (fail)
      obtain ⟨v2, hv⟩ : ∃ x, x = (v1.alloc (.cells #[.bool s1, .slice a1 m1 k1] 31)).alloc (.cells #[.bool s2, .slice a2 m2 k2] 31) := ⟨_, rfl⟩
      have ub : Below v1.heap.size v1 v2 := by rw [hv]; go_grown
      have ra : IBox v2 v1.heap.size s1 a1 m1 k1 z1 0 := ⟨by rw [hv]; exact (heap_alloc2 v1 _ _).2, J1.out.below ub⟩
      have rb : IBox v2 (v1.heap.size + 1) s2 a2 m2 k2 z2 31 := ⟨by rw [hv]; exact (heap_alloc2 v1 _ _).1, J2.out.below ub⟩
      rw [← hv]
      clear hv
      replace FV := Lib.hid (FV.out.below LIE.out ub)
      obtain ⟨Q, hQ⟩ : ∃ Q, Q = v1.heap.size := ⟨_, rfl⟩
      rw [← hQ] at ra rb HQ ⊢
      have RQ := Lib.hid ra
      have RR := Lib.hid rb
      obtain ⟨tb0, tb1, -, -⟩ := blk2 rb.row
      clear ub ra rb hQ J1 J2
      go_wp2_with fail
      refine (sign_int _ _ _ _ _ _ 31 RR.out.it).mono ?_
      rintro e v3 ⟨rfl, ub⟩
      rw [show cmpI 31 0 = 1 by decide]
      replace FV := Lib.hid (FV.out.below LIE.out ub)
      replace RQ := Lib.hid (RQ.out.below ub)
      replace RR := Lib.hid (RR.out.below ub)
      clear ub tb0 tb1
      obtain ⟨sC, aC, nC, cC, zC, iC⟩ := FV.out.fC
      obtain ⟨sE, aE, nE, cE, zE, iE⟩ := FV.out.fE
      obtain ⟨ta0, ta1, -, -⟩ := blk2 iC.row
      obtain ⟨tb0, tb1, -, -⟩ := blk2 iE.row
      have IC := Lib.hid iC.it
      have IE := Lib.hid iE.it
      clear iC iE
      go_wp2_with fail
      refine (floor_pos v3 sC sE aC aE nC nE cC cE zC zE 8 25 IC.out IE.out (by decide) (by decide) (by have := int_small IC.out (by decide) (by decide); omega)).mono ?_
      rintro e v4 ⟨s3, a3, m3, k3, z3, s4, a4, m4, k4, z4, rfl, j1, -, j2, -, ub⟩
      replace j1 : IntAt v4 s3 a3 m3 k3 z3 0 := j1
      replace j2 : IntAt v4 s4 a4 m4 k4 z4 8 := j2
      have HV : Hid (Q + 1 < v4.heap.size) := Lib.hid (by have := (Array.getElem?_eq_some_iff.1 RR.out.row).1; have := ub.size; omega)
      replace FV := Lib.hid (FV.out.below LIE.out ub)
      replace RQ := Lib.hid (RQ.out.below ub)
      replace RR := Lib.hid (RR.out.below ub)
      have J1 := Lib.hid j1
      have J2 := Lib.hid j2
      clear ub j1 j2 ta0 ta1 tb0 tb1 IC IE
      go_upto_region 9 with (fail)
      obtain ⟨v5, hv⟩ : ∃ x, x = (v4.alloc (.cells #[.bool s3, .slice a3 m3 k3] 31)).alloc (.cells #[.bool s4, .slice a4 m4 k4] 31) := ⟨_, rfl⟩
      have ub : Below v4.heap.size v4 v5 := by rw [hv]; go_grown
      have ra : IBox v5 v4.heap.size s3 a3 m3 k3 z3 0 := ⟨by rw [hv]; exact (heap_alloc2 v4 _ _).2, J1.out.below ub⟩
      have rb : IBox v5 (v4.heap.size + 1) s4 a4 m4 k4 z4 8 := ⟨by rw [hv]; exact (heap_alloc2 v4 _ _).1, J2.out.below ub⟩
      rw [← hv]
      clear hv
      replace FV := Lib.hid (FV.out.below LIE.out ub)
      replace RQ := Lib.hid (RQ.out.below ub)
      replace RR := Lib.hid (RR.out.below ub)
      obtain ⟨V, hQ⟩ : ∃ V, V = v4.heap.size := ⟨_, rfl⟩
      rw [← hQ] at ra rb HV ⊢
      have RL := Lib.hid ra
      have RV := Lib.hid rb
      obtain ⟨tb0, tb1, -, -⟩ := blk2 ra.row
      obtain ⟨ta0, ta1, -, -⟩ := blk2 RQ.out.row
      clear ub ra rb hQ J1 J2
      go_wp2_with fail
      refine (cmp_int _ _ _ _ _ _ _ _ _ _ _ 0 0 RQ.out.it RL.out.it).mono ?_
      rintro e v6 ⟨rfl, ub⟩
      rw [show cmpI 0 0 = 0 by decide]
      replace FV := Lib.hid (FV.out.below LIE.out ub)
      replace RQ := Lib.hid (RQ.out.below ub)
      replace RR := Lib.hid (RR.out.below ub)
      replace RV := Lib.hid (RV.out.below ub)
      clear ub ta0 ta1 tb0 tb1 RL
      obtain ⟨ta0, ta1, -, -⟩ := blk2 RQ.out.row
      have hbn : Below v6.heap.size v6 (v6.alloc (.cells #[.bool s1, .slice a1 m1 k1] 31)) := by go_grown
      have HBN := Lib.hid hbn
      clear hbn
      go_wp2_with (first | (at_builtin; refine wpList_append_rowed (B := w5.heap.size) rfl (.tmp 55) (.tmp 57) rfl (.slice none 0 0) [] 0 rfl v6 FV.out.r (by first | exact HBN.out | skip) ⟨v6.heap.size, 0, none⟩ 1 s1 a1 m1 k1 z1 (RQ.out.it.below HBN.out) rfl ?c1 (by decide) ?c2 ?_) | fail)
      case c1 => exact cell_two _ _ _ _
      case c2 => have := FV.out.s; simp; omega
      intro g cap w7 hrow hgrow hat hlt hlim
      have FW := Lib.hid ((FV.out.below LIE.out HBN.out).grown LIE.out hrow hgrow hlim)
      replace RR := Lib.hid ((RR.out.below HBN.out).grown hgrow hlim (by intro h; cases h))
      replace RV := Lib.hid ((RV.out.below HBN.out).grown hgrow hlim (by intro h; cases h))
      have HS : Hid (w5.heap.size ≤ Q) := Lib.hid (by have h1 := HS0.out; have h2 := HQ.out; omega)
      clear hrow hgrow hat hlt hlim FV HBN RQ ta0 ta1 HS0 HQ
      obtain ⟨sA, aA, nA, cA, zA, iA⟩ := FW.out.fA
      obtain ⟨tA0, tA1, fA0, fA1⟩ := blk2 iA.row
      have IA := Lib.hid iA.it
      clear iA
      obtain ⟨sB, aB, nB, cB, zB, iB⟩ := FW.out.fB
      obtain ⟨tB0, tB1, fB0, fB1⟩ := blk2 iB.row
      have IB := Lib.hid iB.it
      clear iB
      obtain ⟨sC, aC, nC, cC, zC, iC⟩ := FW.out.fC
      obtain ⟨tC0, tC1, fC0, fC1⟩ := blk2 iC.row
      have IC := Lib.hid iC.it
      clear iC
      obtain ⟨sE, aE, nE, cE, zE, iE⟩ := FW.out.fE
      obtain ⟨tE0, tE1, fE0, fE1⟩ := blk2 iE.row
      have IE := Lib.hid iE.it
      clear iE
      obtain ⟨tR0, tR1, -, -⟩ := blk2 RR.out.row
      obtain ⟨tV0, tV1, -, -⟩ := blk2 RV.out.row
      have LL := LIE.out
      obtain ⟨dAB, dAC, dAE, dBC, dBE, dCE, lA, lB, lC, lE, oA, oB, oC, oE, hP, hN⟩ := LL
      have hS := HS.out
      have hV := HV.out
      have dQA : Q + 1 ≠ bA := by omega
      have dVA : V + 1 ≠ bA := by omega
      have dQB : Q + 1 ≠ bB := by omega
      have dVB : V + 1 ≠ bB := by omega
      have dQC : Q + 1 ≠ bC := by omega
      have dVC : V + 1 ≠ bC := by omega
      have dQE : Q + 1 ≠ bE := by omega
      have dVE : V + 1 ≠ bE := by omega
      clear lA lB lC lE oA oB oC oE hP hN hS hV
      go_wp2_with fail
      go_region
      have F9 := (four_put FW.out LIE.out IE.out RV.out.it IB.out RR.out.it).below LIE.out (Below.refl _ _).drew
      go_roundw
      case rel => exact ⟨_, _, _, _, _, _, _, _, _, _, _, _, _, _, _, _, _, _, _, _, _, _, _, _, _, _, _, _, _, _, _, _, _, _, _, _, _, _, _, _, _, _, .inr (.inl ⟨⟨_, _, rfl⟩, F9⟩), rfl⟩
      case measure => simp [sliceLen]
    · have FV := Lib.hid hfv
      clear hfv
      have HS0 := Lib.hid FV.out.s
      have HG := Lib.hid (FV.out.r.block (g := g0) rfl).2
      obtain ⟨sA, aA, nA, cA, zA, iA⟩ := FV.out.fA
      obtain ⟨sB, aB, nB, cB, zB, iB⟩ := FV.out.fB
      obtain ⟨ta0, ta1, -, -⟩ := blk2 iA.row
      obtain ⟨tb0, tb1, -, -⟩ := blk2 iB.row
      have IA := Lib.hid iA.it
      have IB := Lib.hid iB.it
      clear iA iB
      go_wp2_with fail
      refine (floor_pos wr sA sB aA aB nA nB cA cB zA zB 25 8 IA.out IB.out (by decide) (by decide) (by have := int_small IA.out (by decide) (by decide); omega)).mono ?_
      rintro e v1 ⟨s1, a1, m1, k1, z1, s2, a2, m2, k2, z2, rfl, j1, -, j2, -, ub⟩
      replace j1 : IntAt v1 s1 a1 m1 k1 z1 3 := j1
      replace j2 : IntAt v1 s2 a2 m2 k2 z2 1 := j2
      have HQ := Lib.hid ub.size
      replace FV := Lib.hid (FV.out.below LIE.out ub)
      have J1 := Lib.hid j1
      have J2 := Lib.hid j2
      clear ub j1 j2 ta0 ta1 tb0 tb1 IA IB
      go_upto_region 6 with (fail)
      obtain ⟨v2, hv⟩ : ∃ x, x = (v1.alloc (.cells #[.bool s1, .slice a1 m1 k1] 31)).alloc (.cells #[.bool s2, .slice a2 m2 k2] 31) := ⟨_, rfl⟩
      have ub : Below v1.heap.size v1 v2 := by rw [hv]; go_grown
      have ra : IBox v2 v1.heap.size s1 a1 m1 k1 z1 3 := ⟨by rw [hv]; exact (heap_alloc2 v1 _ _).2, J1.out.below ub⟩
      have rb : IBox v2 (v1.heap.size + 1) s2 a2 m2 k2 z2 1 := ⟨by rw [hv]; exact (heap_alloc2 v1 _ _).1, J2.out.below ub⟩
      rw [← hv]
      clear hv
      replace FV := Lib.hid (FV.out.below LIE.out ub)
      obtain ⟨Q, hQ⟩ : ∃ Q, Q = v1.heap.size := ⟨_, rfl⟩
      rw [← hQ] at ra rb HQ ⊢
      have RQ := Lib.hid ra
      have RR := Lib.hid rb
      obtain ⟨tb0, tb1, -, -⟩ := blk2 rb.row
      clear ub ra rb hQ J1 J2
      go_wp2_with fail
      refine (sign_int _ _ _ _ _ _ 1 RR.out.it).mono ?_
      rintro e v3 ⟨rfl, ub⟩
      rw [show cmpI 1 0 = 1 by decide]
      replace FV := Lib.hid (FV.out.below LIE.out ub)
      replace RQ := Lib.hid (RQ.out.below ub)
      replace RR := Lib.hid (RR.out.below ub)
      clear ub tb0 tb1
      obtain ⟨sC, aC, nC, cC, zC, iC⟩ := FV.out.fC
      obtain ⟨sE, aE, nE, cE, zE, iE⟩ := FV.out.fE
      obtain ⟨ta0, ta1, -, -⟩ := blk2 iC.row
      obtain ⟨tb0, tb1, -, -⟩ := blk2 iE.row
      have IC := Lib.hid iC.it
      have IE := Lib.hid iE.it
      clear iC iE
      go_wp2_with fail
      refine (floor_pos v3 sC sE aC aE nC nE cC cE zC zE 100 31 IC.out IE.out (by decide) (by decide) (by have := int_small IC.out (by decide) (by decide); omega)).mono ?_
      rintro e v4 ⟨s3, a3, m3, k3, z3, s4, a4, m4, k4, z4, rfl, j1, -, j2, -, ub⟩
      replace j1 : IntAt v4 s3 a3 m3 k3 z3 3 := j1
      replace j2 : IntAt v4 s4 a4 m4 k4 z4 7 := j2
      have HV : Hid (Q + 1 < v4.heap.size) := Lib.hid (by have := (Array.getElem?_eq_some_iff.1 RR.out.row).1; have := ub.size; omega)
      replace FV := Lib.hid (FV.out.below LIE.out ub)
      replace RQ := Lib.hid (RQ.out.below ub)
      replace RR := Lib.hid (RR.out.below ub)
      have J1 := Lib.hid j1
      have J2 := Lib.hid j2
      clear ub j1 j2 ta0 ta1 tb0 tb1 IC IE
      go_upto_region 9 with (fail)
      obtain ⟨v5, hv⟩ : ∃ x, x = (v4.alloc (.cells #[.bool s3, .slice a3 m3 k3] 31)).alloc (.cells #[.bool s4, .slice a4 m4 k4] 31) := ⟨_, rfl⟩
      have ub : Below v4.heap.size v4 v5 := by rw [hv]; go_grown
      have ra : IBox v5 v4.heap.size s3 a3 m3 k3 z3 3 := ⟨by rw [hv]; exact (heap_alloc2 v4 _ _).2, J1.out.below ub⟩
      have rb : IBox v5 (v4.heap.size + 1) s4 a4 m4 k4 z4 7 := ⟨by rw [hv]; exact (heap_alloc2 v4 _ _).1, J2.out.below ub⟩
      rw [← hv]
      clear hv
      replace FV := Lib.hid (FV.out.below LIE.out ub)
      replace RQ := Lib.hid (RQ.out.below ub)
      replace RR := Lib.hid (RR.out.below ub)
      obtain ⟨V, hQ⟩ : ∃ V, V = v4.heap.size := ⟨_, rfl⟩
      rw [← hQ] at ra rb HV ⊢
      have RL := Lib.hid ra
      have RV := Lib.hid rb
      obtain ⟨tb0, tb1, -, -⟩ := blk2 ra.row
      obtain ⟨ta0, ta1, -, -⟩ := blk2 RQ.out.row
      clear ub ra rb hQ J1 J2
      go_wp2_with fail
      refine (cmp_int _ _ _ _ _ _ _ _ _ _ _ 3 3 RQ.out.it RL.out.it).mono ?_
      rintro e v6 ⟨rfl, ub⟩
      rw [show cmpI 3 3 = 0 by decide]
      replace FV := Lib.hid (FV.out.below LIE.out ub)
      replace RQ := Lib.hid (RQ.out.below ub)
      replace RR := Lib.hid (RR.out.below ub)
      replace RV := Lib.hid (RV.out.below ub)
      clear ub ta0 ta1 tb0 tb1 RL
      obtain ⟨ta0, ta1, -, -⟩ := blk2 RQ.out.row
      have hbn : Below v6.heap.size v6 (v6.alloc (.cells #[.bool s1, .slice a1 m1 k1] 31)) := by go_grown
      have HBN := Lib.hid hbn
      clear hbn
      go_wp2_with (first | (at_builtin; refine wpList_append_rowed (B := w5.heap.size) rfl (.tmp 55) (.tmp 57) rfl (.slice (some ⟨g0, 0, none⟩) 1 cap0) [0] 3 rfl v6 FV.out.r (by first | exact HBN.out | skip) ⟨v6.heap.size, 0, none⟩ 1 s1 a1 m1 k1 z1 (RQ.out.it.below HBN.out) rfl ?c1 (by decide) ?c2 ?_) | fail)
      case c1 => exact cell_two _ _ _ _
      case c2 => have := FV.out.s; simp; omega
      intro g cap w7 hrow hgrow hat hlt hlim
      have FW := Lib.hid ((FV.out.below LIE.out HBN.out).grown LIE.out hrow hgrow hlim)
      replace RR := Lib.hid ((RR.out.below HBN.out).grown hgrow hlim (by intro h; simp [Value.ownBlock] at h; have h1 := HG.out; have h2 := HQ.out; have h3 := HV.out; omega))
      replace RV := Lib.hid ((RV.out.below HBN.out).grown hgrow hlim (by intro h; simp [Value.ownBlock] at h; have h1 := HG.out; have h2 := HQ.out; have h3 := HV.out; omega))
      have HS : Hid (w5.heap.size ≤ Q) := Lib.hid (by have h1 := HS0.out; have h2 := HQ.out; omega)
      clear hrow hgrow hat hlt hlim FV HBN RQ ta0 ta1 HS0 HQ
      obtain ⟨sA, aA, nA, cA, zA, iA⟩ := FW.out.fA
      obtain ⟨tA0, tA1, fA0, fA1⟩ := blk2 iA.row
      have IA := Lib.hid iA.it
      clear iA
      obtain ⟨sB, aB, nB, cB, zB, iB⟩ := FW.out.fB
      obtain ⟨tB0, tB1, fB0, fB1⟩ := blk2 iB.row
      have IB := Lib.hid iB.it
      clear iB
      obtain ⟨sC, aC, nC, cC, zC, iC⟩ := FW.out.fC
      obtain ⟨tC0, tC1, fC0, fC1⟩ := blk2 iC.row
      have IC := Lib.hid iC.it
      clear iC
      obtain ⟨sE, aE, nE, cE, zE, iE⟩ := FW.out.fE
      obtain ⟨tE0, tE1, fE0, fE1⟩ := blk2 iE.row
      have IE := Lib.hid iE.it
      clear iE
      obtain ⟨tR0, tR1, -, -⟩ := blk2 RR.out.row
      obtain ⟨tV0, tV1, -, -⟩ := blk2 RV.out.row
      have LL := LIE.out
      obtain ⟨dAB, dAC, dAE, dBC, dBE, dCE, lA, lB, lC, lE, oA, oB, oC, oE, hP, hN⟩ := LL
      have hS := HS.out
      have hV := HV.out
      have dQA : Q + 1 ≠ bA := by omega
      have dVA : V + 1 ≠ bA := by omega
      have dQB : Q + 1 ≠ bB := by omega
      have dVB : V + 1 ≠ bB := by omega
      have dQC : Q + 1 ≠ bC := by omega
      have dVC : V + 1 ≠ bC := by omega
      have dQE : Q + 1 ≠ bE := by omega
      have dVE : V + 1 ≠ bE := by omega
      clear lA lB lC lE oA oB oC oE hP hN hS hV
      go_wp2_with fail
      go_region
      have F9 := (four_put FW.out LIE.out IE.out RV.out.it IB.out RR.out.it).below LIE.out (Below.refl _ _).drew
      go_roundw
      case rel => exact ⟨_, _, _, _, _, _, _, _, _, _, _, _, _, _, _, _, _, _, _, _, _, _, _, _, _, _, _, _, _, _, _, _, _, _, _, _, _, _, _, _, _, _, .inr (.inr ⟨⟨_, _, rfl⟩, F9⟩), rfl⟩
      case measure => simp [sliceLen]
    · have FV := Lib.hid hfv
      clear hfv
      have HS0 := Lib.hid FV.out.s
      have HG := Lib.hid (FV.out.r.block (g := g0) rfl).2
      obtain ⟨sA, aA, nA, cA, zA, iA⟩ := FV.out.fA
      obtain ⟨sB, aB, nB, cB, zB, iB⟩ := FV.out.fB
      obtain ⟨ta0, ta1, -, -⟩ := blk2 iA.row
      obtain ⟨tb0, tb1, -, -⟩ := blk2 iB.row
      have IA := Lib.hid iA.it
      have IB := Lib.hid iB.it
      clear iA iB
      go_wp2_with fail
      refine (floor_pos wr sA sB aA aB nA nB cA cB zA zB 31 7 IA.out IB.out (by decide) (by decide) (by have := int_small IA.out (by decide) (by decide); omega)).mono ?_
      rintro e v1 ⟨s1, a1, m1, k1, z1, s2, a2, m2, k2, z2, rfl, j1, -, j2, -, ub⟩
      replace j1 : IntAt v1 s1 a1 m1 k1 z1 4 := j1
      replace j2 : IntAt v1 s2 a2 m2 k2 z2 3 := j2
      have HQ := Lib.hid ub.size
      replace FV := Lib.hid (FV.out.below LIE.out ub)
      have J1 := Lib.hid j1
      have J2 := Lib.hid j2
      clear ub j1 j2 ta0 ta1 tb0 tb1 IA IB
      go_upto_region 6 with (fail)
      obtain ⟨v2, hv⟩ : ∃ x, x = (v1.alloc (.cells #[.bool s1, .slice a1 m1 k1] 31)).alloc (.cells #[.bool s2, .slice a2 m2 k2] 31) := ⟨_, rfl⟩
      have ub : Below v1.heap.size v1 v2 := by rw [hv]; go_grown
      have ra : IBox v2 v1.heap.size s1 a1 m1 k1 z1 4 := ⟨by rw [hv]; exact (heap_alloc2 v1 _ _).2, J1.out.below ub⟩
      have rb : IBox v2 (v1.heap.size + 1) s2 a2 m2 k2 z2 3 := ⟨by rw [hv]; exact (heap_alloc2 v1 _ _).1, J2.out.below ub⟩
      rw [← hv]
      clear hv
      replace FV := Lib.hid (FV.out.below LIE.out ub)
      obtain ⟨Q, hQ⟩ : ∃ Q, Q = v1.heap.size := ⟨_, rfl⟩
      rw [← hQ] at ra rb HQ ⊢
      have RQ := Lib.hid ra
      have RR := Lib.hid rb
      obtain ⟨tb0, tb1, -, -⟩ := blk2 rb.row
      clear ub ra rb hQ J1 J2
      go_wp2_with fail
      refine (sign_int _ _ _ _ _ _ 3 RR.out.it).mono ?_
      rintro e v3 ⟨rfl, ub⟩
      rw [show cmpI 3 0 = 1 by decide]
      replace FV := Lib.hid (FV.out.below LIE.out ub)
      replace RQ := Lib.hid (RQ.out.below ub)
      replace RR := Lib.hid (RR.out.below ub)
      clear ub tb0 tb1
      obtain ⟨sC, aC, nC, cC, zC, iC⟩ := FV.out.fC
      obtain ⟨sE, aE, nE, cE, zE, iE⟩ := FV.out.fE
      obtain ⟨ta0, ta1, -, -⟩ := blk2 iC.row
      obtain ⟨tb0, tb1, -, -⟩ := blk2 iE.row
      have IC := Lib.hid iC.it
      have IE := Lib.hid iE.it
      clear iC iE
      go_wp2_with fail
      refine (floor_pos v3 sC sE aC aE nC nE cC cE zC zE 8 1 IC.out IE.out (by decide) (by decide) (by have := int_small IC.out (by decide) (by decide); omega)).mono ?_
      rintro e v4 ⟨s3, a3, m3, k3, z3, s4, a4, m4, k4, z4, rfl, j1, -, j2, -, ub⟩
      replace j1 : IntAt v4 s3 a3 m3 k3 z3 8 := j1
      replace j2 : IntAt v4 s4 a4 m4 k4 z4 0 := j2
      have HV : Hid (Q + 1 < v4.heap.size) := Lib.hid (by have := (Array.getElem?_eq_some_iff.1 RR.out.row).1; have := ub.size; omega)
      replace FV := Lib.hid (FV.out.below LIE.out ub)
      replace RQ := Lib.hid (RQ.out.below ub)
      replace RR := Lib.hid (RR.out.below ub)
      have J1 := Lib.hid j1
      have J2 := Lib.hid j2
      clear ub j1 j2 ta0 ta1 tb0 tb1 IC IE
      go_upto_region 9 with (fail)
      obtain ⟨v5, hv⟩ : ∃ x, x = (v4.alloc (.cells #[.bool s3, .slice a3 m3 k3] 31)).alloc (.cells #[.bool s4, .slice a4 m4 k4] 31) := ⟨_, rfl⟩
      have ub : Below v4.heap.size v4 v5 := by rw [hv]; go_grown
      have ra : IBox v5 v4.heap.size s3 a3 m3 k3 z3 8 := ⟨by rw [hv]; exact (heap_alloc2 v4 _ _).2, J1.out.below ub⟩
      have rb : IBox v5 (v4.heap.size + 1) s4 a4 m4 k4 z4 0 := ⟨by rw [hv]; exact (heap_alloc2 v4 _ _).1, J2.out.below ub⟩
      rw [← hv]
      clear hv
      replace FV := Lib.hid (FV.out.below LIE.out ub)
      replace RQ := Lib.hid (RQ.out.below ub)
      replace RR := Lib.hid (RR.out.below ub)
      obtain ⟨V, hQ⟩ : ∃ V, V = v4.heap.size := ⟨_, rfl⟩
      rw [← hQ] at ra rb HV ⊢
      have RL := Lib.hid ra
      have RV := Lib.hid rb
      obtain ⟨tb0, tb1, -, -⟩ := blk2 ra.row
      obtain ⟨ta0, ta1, -, -⟩ := blk2 RQ.out.row
      clear ub ra rb hQ J1 J2
      go_wp2_with fail
      refine (cmp_int _ _ _ _ _ _ _ _ _ _ _ 4 8 RQ.out.it RL.out.it).mono ?_
      rintro e v6 ⟨rfl, ub⟩
      rw [show cmpI 4 8 = -1 by decide]
      replace FV := Lib.hid (FV.out.below LIE.out ub)
      replace RQ := Lib.hid (RQ.out.below ub)
      replace RR := Lib.hid (RR.out.below ub)
      replace RV := Lib.hid (RV.out.below ub)
      clear ub ta0 ta1 tb0 tb1 RL
      obtain ⟨ta0, ta1, -, -⟩ := blk2 RQ.out.row
      obtain ⟨sO, aO, nO, cO, zO, iO⟩ := FV.out.fO
      obtain ⟨tb0, tb1, -, -⟩ := blk2 iO.row
      have IO := Lib.hid iO.it
      clear iO
      go_wp2_with fail
      refine (add_int v6 _ _ _ _ _ _ _ _ _ _ 4 1 RQ.out.it IO.out (by have := int_small RQ.out.it (by decide) (by decide); omega) (by have := int_small IO.out (by decide) (by decide); omega)).mono ?_
      rintro e v7 ⟨s5, a5, m5, k5, z5, rfl, j1, -, ub⟩
      replace j1 : IntAt v7 s5 a5 m5 k5 z5 5 := j1
      replace FV := Lib.hid (FV.out.below LIE.out ub)
      have J1 := Lib.hid j1
      clear ub j1 ta0 ta1 tb0 tb1 IO RQ RR RV
      have hbn : Below v7.heap.size v7 (v7.alloc (.cells #[.bool s5, .slice a5 m5 k5] 31)) := by go_grown
      have HBN := Lib.hid hbn
      clear hbn
      go_wp2_with (first | (at_builtin; refine wpList_append_rowed (B := w5.heap.size) rfl (.tmp 49) (.tmp 53) rfl (.slice (some ⟨g0, 0, none⟩) 2 cap0) [0, 3] 5 rfl v7 FV.out.r (by first | exact HBN.out | skip) ⟨v7.heap.size, 0, none⟩ 1 s5 a5 m5 k5 z5 (J1.out.below HBN.out) rfl ?c1 (by decide) ?c2 ?_) | fail)
      case c1 => exact cell_two _ _ _ _
      case c2 => have := FV.out.s; simp; omega
      intro g cap w7 hrow hgrow hat hlt hlim
      have FW := Lib.hid ((FV.out.below LIE.out HBN.out).grown LIE.out hrow hgrow hlim)
      clear hrow hgrow hat hlt hlim FV HBN HQ HV J1
      obtain ⟨y0, b0, m0, e0, f0, y1, b1, m1, e1, f1, y2, b2, m2, e2, f2, hthree, hcap, -⟩ := FW.out.r.three
      have H3 := Lib.hid hthree
      clear hthree
      go_wp2_with fail
      refine (contract3 w7 g cap y0 b0 m0 e0 f0 0 y1 b1 m1 e1 f1 3 y2 b2 m2 e2 f2 5 H3.out (by have := int_small H3.out.i0 (by decide) (by decide); omega) (by have := int_small H3.out.i1 (by decide) (by decide); omega) (by have := int_small H3.out.i2 (by decide) (by decide); omega) hcap (by decide) (by decide) (by unfold Low; decide)).mono ?_
      rintro e w8 ⟨tn, ta, t, tc, zt, bn, ba, b, bc, zb, x, rfl, hr, ht, hb, ub⟩
      replace hr : RatAt w8 tn ta t tc zt bn ba b bc zb 5 x 16 := hr
      replace FW := Lib.hid (FW.out.below LIE.out ub)
      have HR := Lib.hid hr
      clear hr ub H3
      go_upto_region 14 with (fail)
      obtain ⟨w9, hv⟩ : ∃ x, x = w8.alloc (.cells #[.bool tn, .slice ta t tc, .bool bn, .slice ba b bc] 38) := ⟨_, rfl⟩
      have ub : Below w8.heap.size w8 w9 := by rw [hv]; go_grown
      have r9 : w9.heap[w8.heap.size]? = some (.cells #[.bool tn, .slice ta t tc, .bool bn, .slice ba b bc] 38 (0, 0)) := by rw [hv]; exact heap_alloc_new w8 _
      rw [← hv]
      clear hv
      replace FW := Lib.hid (FW.out.below LIE.out ub)
      replace HR := Lib.hid (HR.out.below ub)
      obtain ⟨x0, x1, x2, x3⟩ := blk4 r9
      have R2 := Lib.hid FW.out.p
      obtain ⟨p0, p1, p2, p3⟩ := blk4 R2.out
      obtain ⟨pf0, pf1, pf2, pf3⟩ := blk4f R2.out
      have HX := Lib.hid (rat_stored HR.out R2.out (.bool tn) (.slice ta t tc) (.bool bn) (.slice ba b bc))
      have HZ := Lib.hid (below4 FW.out.l (B := P + 1 + 1) (by have := HP.out; omega) (.bool tn) (.slice ta t tc) (.bool bn) (.slice ba b bc))
      clear ub r9 HR FW R2
      go_wp2_with fail
      refine bodyPost_ret (v := .agg #[.bool tn, .slice ta t tc, .bool bn, .slice ba b bc]) (by simp [results, Tryz.results104, go_sem, p0, p1, p2, p3]) rfl ?_
      exact ⟨_, _, _, _, _, _, _, _, _, _, _, rfl, HX.out, ht, hb, HZ.out⟩


end Go.Proofs.YtdfepdhflnnjpaaGreat
