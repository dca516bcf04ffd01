/- Gcd of the reference. -/
import Derived.Test.YtdfepdhflnnjpaaGreatRPows
import Derived.Deep.DeepCutAuto
import Derived.Deep.LoopGhost
namespace Go.Proofs.YtdfepdhflnnjpaaGreat
open Go.RowKit
set_option autoImplicit false
set_option linter.unusedVariables false

theorem RBox.other {w : World} {p q : Nat} {neg a : Bool} {ao b : Option Addr} {n cap c d : Nat} {zs : List Int} {x : Int} (h : RBox w p neg ao n cap zs x) (hr : w.heap[q]? = some (.cells #[.bool a, .slice b c d] 34 (0, 0))) (hpq : p ≠ q) (u v : Value) :
    RBox ((w.setCell ⟨q, 0, none⟩ u).setCell ⟨q, 1, none⟩ v) p neg ao n cap zs x :=
  ⟨by rw [Below.heap_setCell _ _ _ _ hpq, Below.heap_setCell _ _ _ _ hpq]; exact h.row, h.it.stored hr u v⟩

/-- Both numbers of Gcd's loop in their boxes. -/
def GcdAt (w1 : World) (bA bB G K C : Nat) (wr : World) : Prop :=
  ∃ (A : Nat) (nA : Bool) (aA : Option Addr) (kA cA : Nat) (zA : List Int) (nB : Bool) (aB : Option Addr) (kB cB : Nat) (zB : List Int), RBox wr bA nA aA kA cA zA (A : Int) ∧ RBox wr bB nB aB kB cB zB (C : Int) ∧ Nat.gcd A C = G ∧ kA ≤ K ∧ kB ≤ K ∧ Below w1.heap.size w1 wr

set_option maxRecDepth 100000 in
set_option maxHeartbeats 4000000 in
theorem rgcd_any (w : World) (nx ny : Bool) (ao bo : Option Addr) (n m capa capb : Nat) (xs ys : List Int) (x y : Int) (hx : RefAt w nx ao n capa xs x) (hy : RefAt w ny bo m capb ys y) (K : Nat) (hn : n ≤ K) (hm : m ≤ K) (hK : K ≤ 1000000) :
    Calls Tryz.prog 80 #[.agg #[.bool nx, .slice ao n capa], .agg #[.bool ny, .slice bo m capb]] w (RetRef w (Nat.gcd x.natAbs y.natAbs : Int) K) := by
  have HX := Lib.hid hx
  have HY := Lib.hid hy
  clear hx hy
  obtain ⟨G, hG⟩ : ∃ G, Nat.gcd x.natAbs y.natAbs = G := ⟨_, rfl⟩
  rw [hG]
  have HG := Lib.hid hG
  clear hG
  go_enter Tryz.func80, Tryz.ntmps80
  go_upto_region 1 with (fail)
  obtain ⟨w1, hw1⟩ : ∃ w1, w1 = ((w.alloc (.cells #[.bool nx, .slice ao n capa] 34)).alloc (.cells #[.bool ny, .slice bo m capb] 34)).alloc (.cells #[.bool false, .slice none 0 0] 34) := ⟨_, rfl⟩
  have hbw : Below w.heap.size w w1 := by rw [hw1]; exact (((Below.refl _ _).alloc (Nat.le_refl _) _).alloc (by simp) _).alloc (by simp; omega) _
  have hsz : w1.heap.size = w.heap.size + 1 + 1 + 1 := by rw [hw1]; simp
  have r0 : w1.heap[w.heap.size]? = some (.cells #[.bool nx, .slice ao n capa] 34 (0, 0)) := by rw [hw1, heap_alloc_old _ _ (by simp; omega), heap_alloc_old _ _ (by simp)]; exact heap_alloc_new w _
  have r1 : w1.heap[w.heap.size + 1]? = some (.cells #[.bool ny, .slice bo m capb] 34 (0, 0)) := by
    rw [hw1, heap_alloc_old _ _ (by simp)]
    have := heap_alloc_new (w.alloc (.cells #[.bool nx, .slice ao n capa] 34)) (.cells #[.bool ny, .slice bo m capb] 34)
    simpa using this
  have r2 : w1.heap[w.heap.size + 1 + 1]? = some (.cells #[.bool false, .slice none 0 0] 34 (0, 0)) := by
    rw [hw1]
    have := heap_alloc_new ((w.alloc (.cells #[.bool nx, .slice ao n capa] 34)).alloc (.cells #[.bool ny, .slice bo m capb] 34)) (.cells #[.bool false, .slice none 0 0] 34)
    simpa using this
  rw [← hw1]
  clear hw1
  obtain ⟨p, hp⟩ : ∃ p, p = w.heap.size := ⟨_, rfl⟩
  rw [← hp] at r0 r1 r2 hsz ⊢
  obtain ⟨x0, x1, -, -⟩ := blk2 r0
  obtain ⟨y0, y1, -, -⟩ := blk2 r1
  have hl0 : p < w1.heap.size := by omega
  have hl1 : p + 1 < w1.heap.size := by omega
  have hl2 : p + 1 + 1 < w1.heap.size := by omega
  have HP := Lib.hid hp
  have R2 := Lib.hid r2
  have HBW := Lib.hid hbw
  have HX1 := Lib.hid (HX.out.below hbw)
  have HY1 := Lib.hid (HY.out.below hbw)
  have HKP : Hid (∀ w', Below w1.heap.size w1 w' → (w'.cell? ⟨p, 0, none⟩ = some (.bool nx) ∧ w'.cell? ⟨p, 1, none⟩ = some (.slice ao n capa) ∧ w'.cell? ⟨p + 1, 0, none⟩ = some (.bool ny) ∧ w'.cell? ⟨p + 1, 1, none⟩ = some (.slice bo m capb))) := Lib.hid (fun w' hb => ⟨(hb.cell (p := ⟨p, 0, none⟩) hl0).trans x0, (hb.cell (p := ⟨p, 1, none⟩) hl0).trans x1, (hb.cell (p := ⟨p + 1, 0, none⟩) hl1).trans y0, (hb.cell (p := ⟨p + 1, 1, none⟩) hl1).trans y1⟩)
  clear r0 r1 r2 hp hbw hsz
  go_cut [5, 6] (fun pa pb wx => ∃ bA bB : Nat, pa = .pointer (some ⟨bA, 0, none⟩) ∧ pb = .pointer (some ⟨bB, 0, none⟩) ∧ w1.heap.size ≤ bA ∧ w1.heap.size ≤ bB ∧ bA ≠ bB ∧ GcdAt w1 bA bB G K y.natAbs wx)
  case first =>
    as_aux_lemma =>
      refine wp_region_noPanic ?_
      refine wp_region_held_drew (S := (fun w' => w'.cell? ⟨p, 0, none⟩ = some (.bool nx) ∧ w'.cell? ⟨p, 1, none⟩ = some (.slice ao n capa) ∧ w'.cell? ⟨p + 1, 0, none⟩ = some (.bool ny) ∧ w'.cell? ⟨p + 1, 1, none⟩ = some (.slice bo m capb))) (by kernel_rfl) ?_ (fun hH0 => ?_)
      · exact HKP.out _ (Below.refl _ _).drew
      refine wpAnyH_take (i := 0) (oi := ({ dst := some 10, op := Op.load 34 (Operand.tmp 2), type := 34, pos := "ref.go:236", after := #[], guard := none } : Oper)) (v := ?_) rfl (by kernel_rfl) (by kernel_rfl) (by kernel_rfl) (fun _ _ _ h => h) (Or.inl ⟨by rfl, ?_⟩) (by assumption) ?_
      rotate_left
      · (intro w hSw; (try dsimp only at hSw); go_simp; try with_reducible rfl)
      (try simp only [Act.put, List.setIfInBounds_toArray, List.set_cons_zero, List.set_cons_succ])
      refine wpAnyH_take (i := 2) (oi := ({ dst := some 12, op := Op.load 34 (Operand.tmp 3), type := 34, pos := "ref.go:236", after := #[], guard := none } : Oper)) (v := ?_) rfl (by kernel_rfl) (by kernel_rfl) (by kernel_rfl) (fun _ _ _ h => h) (Or.inl ⟨by rfl, ?_⟩) (by assumption) ?_
      rotate_left
      · (intro w hSw; (try dsimp only at hSw); go_simp; try with_reducible rfl)
      (try simp only [Act.put, List.setIfInBounds_toArray, List.set_cons_zero, List.set_cons_succ])
      refine wpAnyH_ready (rs := [1, 4, 5]) (by kernel_rfl) (by simp) ?_
      refine (AllReadyH.cons (o := ({ dst := some 11, op := Op.call { callee := Callee.value (Operand.func 29), args := #[Operand.tmp 10], argTypes := #[34] }, type := 34, pos := "ref.go:236", after := #[{ on := 0, ground := Ground.data }], guard := none } : Oper)) rfl (fun K hK => ?_) (AllReadyH.cons (o := ({ dst := some 5, op := Op.alloc 34, type := 0, pos := "ref.go:236", after := #[], guard := none } : Oper)) rfl (fun K hK => ?_) (AllReadyH.cons (o := ({ dst := some 6, op := Op.alloc 34, type := 0, pos := "ref.go:236", after := #[], guard := none } : Oper)) rfl (fun K hK => ?_) AllReadyH.nil)))
      · go_simp
        refine (rabs_any _ nx ao n capa xs x (HX1.out.below (Below.refl _ _).drew)).mono ?_
        rintro e u1 ⟨nA, aA, kA, cA, zA, rfl, iA, gA, ub⟩
        have IA := Lib.hid iA
        have XB : Below w1.heap.size w1 u1 := (Below.refl _ _).drew.trans ub
        clear iA ub
        refine hK.out _ _ ?_ (fun hH1 => ?_)
        · exact HKP.out _ XB
        clear hK K hH0
        (try simp only [Act.put, List.setIfInBounds_toArray, List.set_cons_zero, List.set_cons_succ])
        refine wpAnyH_ready (rs := [3, 4, 5]) (by kernel_rfl) (by simp) ?_
        refine (AllReadyH.cons (o := ({ dst := some 13, op := Op.call { callee := Callee.value (Operand.func 29), args := #[Operand.tmp 12], argTypes := #[34] }, type := 34, pos := "ref.go:236", after := #[{ on := 2, ground := Ground.data }, { on := 1, ground := Ground.chain }], guard := none } : Oper)) rfl (fun K hK => ?_) (AllReadyH.cons (o := ({ dst := some 5, op := Op.alloc 34, type := 0, pos := "ref.go:236", after := #[], guard := none } : Oper)) rfl (fun K hK => ?_) (AllReadyH.cons (o := ({ dst := some 6, op := Op.alloc 34, type := 0, pos := "ref.go:236", after := #[], guard := none } : Oper)) rfl (fun K hK => ?_) AllReadyH.nil)))
        · go_simp
          refine (rabs_any _ ny bo m capb ys y (HY1.out.below XB)).mono ?_
          rintro e u2 ⟨nB, aB, kB, cB, zB, rfl, iB, gB, ub⟩
          replace IA := Lib.hid (IA.out.below ub)
          have IB := Lib.hid iB
          replace XB := XB.trans (ub.mono XB.size)
          clear iB ub
          refine hK.out _ _ ?_ (fun hH2 => ?_)
          · exact HKP.out _ XB
          clear hK K hH1
          (try simp only [Act.put, List.setIfInBounds_toArray, List.set_cons_zero, List.set_cons_succ])
          refine wpAnyH_ready (rs := [4, 5]) (by kernel_rfl) (by simp) ?_
          refine (AllReadyH.cons (o := ({ dst := some 5, op := Op.alloc 34, type := 0, pos := "ref.go:236", after := #[], guard := none } : Oper)) rfl (fun K hK => ?_) (AllReadyH.cons (o := ({ dst := some 6, op := Op.alloc 34, type := 0, pos := "ref.go:236", after := #[], guard := none } : Oper)) rfl (fun K hK => ?_) AllReadyH.nil))
          · go_simp
            obtain ⟨u3, hu⟩ : ∃ u, u = u2.alloc (.cells #[.bool false, .slice none 0 0] 34) := ⟨_, rfl⟩
            obtain ⟨bA, hbA⟩ : ∃ b, b = u2.heap.size := ⟨_, rfl⟩
            have ub : Below u2.heap.size u2 u3 := by rw [hu]; go_grown
            have rA : u3.heap[bA]? = some (.cells #[.bool false, .slice none 0 0] 34 (0, 0)) := by rw [hu, hbA]; exact heap_alloc_new u2 _
            have hsA : w1.heap.size ≤ bA := by rw [hbA]; exact XB.size
            replace IA := Lib.hid (IA.out.below ub)
            replace IB := Lib.hid (IB.out.below ub)
            have RA := Lib.hid rA
            replace XB := XB.trans (ub.mono XB.size)
            rw [← hu, ← hbA]
            clear hu hbA rA ub
            obtain ⟨ta0, ta1, qa0, qa1⟩ := blk2 RA.out
            refine hK.out _ _ ?_ (fun hH3 => ?_)
            · exact HKP.out _ XB
            clear hK K hH2
            (try simp only [Act.put, List.setIfInBounds_toArray, List.set_cons_zero, List.set_cons_succ])
            refine wpAnyH_ready (rs := [5]) (by kernel_rfl) (by simp) ?_
            refine (AllReadyH.cons (o := ({ dst := some 6, op := Op.alloc 34, type := 0, pos := "ref.go:236", after := #[], guard := none } : Oper)) rfl (fun K hK => ?_) AllReadyH.nil)
            go_simp
            clear ta0 ta1 qa0 qa1
            obtain ⟨u4, hu⟩ : ∃ u, u = u3.alloc (.cells #[.bool false, .slice none 0 0] 34) := ⟨_, rfl⟩
            obtain ⟨bB, hbB⟩ : ∃ b, b = u3.heap.size := ⟨_, rfl⟩
            have ub : Below u3.heap.size u3 u4 := by rw [hu]; go_grown
            have rB : u4.heap[bB]? = some (.cells #[.bool false, .slice none 0 0] 34 (0, 0)) := by rw [hu, hbB]; exact heap_alloc_new u3 _
            have hsB : w1.heap.size ≤ bB := by rw [hbB]; exact XB.size
            have hAB : bA ≠ bB := by have := (Array.getElem?_eq_some_iff.1 RA.out).1; omega
            replace IA := Lib.hid (IA.out.below ub)
            replace RA := Lib.hid ((ub.block _ (Array.getElem?_eq_some_iff.1 RA.out).1).trans RA.out)
            replace IB := Lib.hid (IB.out.below ub)
            have RB := Lib.hid rB
            replace XB := XB.trans (ub.mono XB.size)
            rw [← hu, ← hbB]
            clear hu hbB rB ub
            obtain ⟨ta0, ta1, qa0, qa1⟩ := blk2 RA.out
            obtain ⟨tb0, tb1, qb0, qb1⟩ := blk2 RB.out
            refine hK.out _ _ ?_ (fun hH4 => ?_)
            · exact HKP.out _ XB
            clear hK K hH3
            (try simp only [Act.put, List.setIfInBounds_toArray, List.set_cons_zero, List.set_cons_succ])
            refine wpAnyH_ready (rs := [6]) (by kernel_rfl) (by simp) ?_
            refine (AllReadyH.cons (o := ({ dst := none, op := Op.store 34 (Operand.tmp 5) (Operand.tmp 11), type := 0, pos := "ref.go:236", after := #[{ on := 4, ground := Ground.data }, { on := 1, ground := Ground.data }, { on := 3, ground := Ground.chain }, { on := 0, ground := Ground.phase }, { on := 1, ground := Ground.phase }, { on := 2, ground := Ground.textOnly Departure.lateStores }, { on := 3, ground := Ground.textOnly Departure.lateStoresUnsure }, { on := 4, ground := Ground.phase }, { on := 5, ground := Ground.phase }], guard := none } : Oper)) rfl (fun K hK => ?_) AllReadyH.nil)
            go_simp
            clear ta0 ta1 qa0 qa1
            clear tb0 tb1 qb0 qb1
            obtain ⟨u5, hu⟩ : ∃ u, u = (u4.setCell ⟨bA, 0, none⟩ (.bool nA)).setCell ⟨bA, 1, none⟩ (.slice aA kA cA) := ⟨_, rfl⟩
            have BA := Lib.hid (show RBox u5 bA _ _ _ _ _ _ from by rw [hu]; exact RBox.put IA.out RA.out)
            have xb : Below w1.heap.size w1 u5 := by rw [hu]; exact (XB.setCell (p := ⟨bA, 0, none⟩) hsA _).setCell (p := ⟨bA, 1, none⟩) hsA _
            replace IB := Lib.hid (show RefAt u5 _ _ _ _ _ _ from by rw [hu]; exact IB.out.stored RA.out _ _)
            replace RB := Lib.hid (show u5.heap[bB]? = some (.cells #[.bool false, .slice none 0 0] 34 (0, 0)) from by rw [hu, Below.heap_setCell _ _ _ _ hAB.symm, Below.heap_setCell _ _ _ _ hAB.symm]; exact RB.out)
            rw [← hu]
            clear hu IA RA XB
            have XB := xb
            clear xb
            obtain ⟨tb0, tb1, qb0, qb1⟩ := blk2 RB.out
            refine hK.out _ _ ?_ (fun hH5 => ?_)
            · exact HKP.out _ XB
            clear hK K hH4
            (try simp only [Act.put, List.setIfInBounds_toArray, List.set_cons_zero, List.set_cons_succ])
            refine wpAnyH_ready (rs := [7]) (by kernel_rfl) (by simp) ?_
            refine (AllReadyH.cons (o := ({ dst := none, op := Op.store 34 (Operand.tmp 6) (Operand.tmp 13), type := 0, pos := "ref.go:236", after := #[{ on := 5, ground := Ground.data }, { on := 3, ground := Ground.data }, { on := 6, ground := Ground.chain }, { on := 0, ground := Ground.phase }, { on := 1, ground := Ground.phase }, { on := 2, ground := Ground.phase }, { on := 3, ground := Ground.phase }, { on := 4, ground := Ground.phase }, { on := 5, ground := Ground.phase }, { on := 6, ground := Ground.phase }], guard := none } : Oper)) rfl (fun K hK => ?_) AllReadyH.nil)
            go_simp
            clear tb0 tb1 qb0 qb1
            obtain ⟨u6, hu⟩ : ∃ u, u = (u5.setCell ⟨bB, 0, none⟩ (.bool nB)).setCell ⟨bB, 1, none⟩ (.slice aB kB cB) := ⟨_, rfl⟩
            have BB := Lib.hid (show RBox u6 bB _ _ _ _ _ _ from by rw [hu]; exact RBox.put IB.out RB.out)
            have xb : Below w1.heap.size w1 u6 := by rw [hu]; exact (XB.setCell (p := ⟨bB, 0, none⟩) hsB _).setCell (p := ⟨bB, 1, none⟩) hsB _
            replace BA := Lib.hid (show RBox u6 bA _ _ _ _ _ _ from by rw [hu]; exact BA.out.other RB.out hAB _ _)
            rw [← hu]
            clear hu IB RB XB
            have XB := xb
            clear xb
            refine hK.out _ _ ?_ (fun hH6 => ?_)
            · exact HKP.out _ XB
            clear hK K hH5
            (try simp only [Act.put, List.setIfInBounds_toArray, List.set_cons_zero, List.set_cons_succ])
            refine wpAnyH_done (by kernel_rfl) ?_ _
            refine NoPanic.normal ?_
            go_wp2
            go_meet
            exact ⟨bA, bB, rfl, rfl, hsA, hsB, hAB, _, _, _, _, _, _, _, _, _, _, _, BA.out, BB.out, HG.out, by omega, by omega, XB⟩
          · go_simp
            obtain ⟨u3, hu⟩ : ∃ u, u = u2.alloc (.cells #[.bool false, .slice none 0 0] 34) := ⟨_, rfl⟩
            obtain ⟨bB, hbB⟩ : ∃ b, b = u2.heap.size := ⟨_, rfl⟩
            have ub : Below u2.heap.size u2 u3 := by rw [hu]; go_grown
            have rB : u3.heap[bB]? = some (.cells #[.bool false, .slice none 0 0] 34 (0, 0)) := by rw [hu, hbB]; exact heap_alloc_new u2 _
            have hsB : w1.heap.size ≤ bB := by rw [hbB]; exact XB.size
            replace IA := Lib.hid (IA.out.below ub)
            replace IB := Lib.hid (IB.out.below ub)
            have RB := Lib.hid rB
            replace XB := XB.trans (ub.mono XB.size)
            rw [← hu, ← hbB]
            clear hu hbB rB ub
            obtain ⟨tb0, tb1, qb0, qb1⟩ := blk2 RB.out
            refine hK.out _ _ ?_ (fun hH3 => ?_)
            · exact HKP.out _ XB
            clear hK K hH2
            (try simp only [Act.put, List.setIfInBounds_toArray, List.set_cons_zero, List.set_cons_succ])
            refine wpAnyH_ready (rs := [4]) (by kernel_rfl) (by simp) ?_
            refine (AllReadyH.cons (o := ({ dst := some 5, op := Op.alloc 34, type := 0, pos := "ref.go:236", after := #[], guard := none } : Oper)) rfl (fun K hK => ?_) AllReadyH.nil)
            go_simp
            clear tb0 tb1 qb0 qb1
            obtain ⟨u4, hu⟩ : ∃ u, u = u3.alloc (.cells #[.bool false, .slice none 0 0] 34) := ⟨_, rfl⟩
            obtain ⟨bA, hbA⟩ : ∃ b, b = u3.heap.size := ⟨_, rfl⟩
            have ub : Below u3.heap.size u3 u4 := by rw [hu]; go_grown
            have rA : u4.heap[bA]? = some (.cells #[.bool false, .slice none 0 0] 34 (0, 0)) := by rw [hu, hbA]; exact heap_alloc_new u3 _
            have hsA : w1.heap.size ≤ bA := by rw [hbA]; exact XB.size
            have hAB : bA ≠ bB := by have := (Array.getElem?_eq_some_iff.1 RB.out).1; omega
            replace IA := Lib.hid (IA.out.below ub)
            replace IB := Lib.hid (IB.out.below ub)
            replace RB := Lib.hid ((ub.block _ (Array.getElem?_eq_some_iff.1 RB.out).1).trans RB.out)
            have RA := Lib.hid rA
            replace XB := XB.trans (ub.mono XB.size)
            rw [← hu, ← hbA]
            clear hu hbA rA ub
            obtain ⟨ta0, ta1, qa0, qa1⟩ := blk2 RA.out
            obtain ⟨tb0, tb1, qb0, qb1⟩ := blk2 RB.out
            refine hK.out _ _ ?_ (fun hH4 => ?_)
            · exact HKP.out _ XB
            clear hK K hH3
            (try simp only [Act.put, List.setIfInBounds_toArray, List.set_cons_zero, List.set_cons_succ])
            refine wpAnyH_ready (rs := [6]) (by kernel_rfl) (by simp) ?_
            refine (AllReadyH.cons (o := ({ dst := none, op := Op.store 34 (Operand.tmp 5) (Operand.tmp 11), type := 0, pos := "ref.go:236", after := #[{ on := 4, ground := Ground.data }, { on := 1, ground := Ground.data }, { on := 3, ground := Ground.chain }, { on := 0, ground := Ground.phase }, { on := 1, ground := Ground.phase }, { on := 2, ground := Ground.textOnly Departure.lateStores }, { on := 3, ground := Ground.textOnly Departure.lateStoresUnsure }, { on := 4, ground := Ground.phase }, { on := 5, ground := Ground.phase }], guard := none } : Oper)) rfl (fun K hK => ?_) AllReadyH.nil)
            go_simp
            clear ta0 ta1 qa0 qa1
            clear tb0 tb1 qb0 qb1
            obtain ⟨u5, hu⟩ : ∃ u, u = (u4.setCell ⟨bA, 0, none⟩ (.bool nA)).setCell ⟨bA, 1, none⟩ (.slice aA kA cA) := ⟨_, rfl⟩
            have BA := Lib.hid (show RBox u5 bA _ _ _ _ _ _ from by rw [hu]; exact RBox.put IA.out RA.out)
            have xb : Below w1.heap.size w1 u5 := by rw [hu]; exact (XB.setCell (p := ⟨bA, 0, none⟩) hsA _).setCell (p := ⟨bA, 1, none⟩) hsA _
            replace IB := Lib.hid (show RefAt u5 _ _ _ _ _ _ from by rw [hu]; exact IB.out.stored RA.out _ _)
            replace RB := Lib.hid (show u5.heap[bB]? = some (.cells #[.bool false, .slice none 0 0] 34 (0, 0)) from by rw [hu, Below.heap_setCell _ _ _ _ hAB.symm, Below.heap_setCell _ _ _ _ hAB.symm]; exact RB.out)
            rw [← hu]
            clear hu IA RA XB
            have XB := xb
            clear xb
            obtain ⟨tb0, tb1, qb0, qb1⟩ := blk2 RB.out
            refine hK.out _ _ ?_ (fun hH5 => ?_)
            · exact HKP.out _ XB
            clear hK K hH4
            (try simp only [Act.put, List.setIfInBounds_toArray, List.set_cons_zero, List.set_cons_succ])
            refine wpAnyH_ready (rs := [7]) (by kernel_rfl) (by simp) ?_
            refine (AllReadyH.cons (o := ({ dst := none, op := Op.store 34 (Operand.tmp 6) (Operand.tmp 13), type := 0, pos := "ref.go:236", after := #[{ on := 5, ground := Ground.data }, { on := 3, ground := Ground.data }, { on := 6, ground := Ground.chain }, { on := 0, ground := Ground.phase }, { on := 1, ground := Ground.phase }, { on := 2, ground := Ground.phase }, { on := 3, ground := Ground.phase }, { on := 4, ground := Ground.phase }, { on := 5, ground := Ground.phase }, { on := 6, ground := Ground.phase }], guard := none } : Oper)) rfl (fun K hK => ?_) AllReadyH.nil)
            go_simp
            clear tb0 tb1 qb0 qb1
            obtain ⟨u6, hu⟩ : ∃ u, u = (u5.setCell ⟨bB, 0, none⟩ (.bool nB)).setCell ⟨bB, 1, none⟩ (.slice aB kB cB) := ⟨_, rfl⟩
            have BB := Lib.hid (show RBox u6 bB _ _ _ _ _ _ from by rw [hu]; exact RBox.put IB.out RB.out)
            have xb : Below w1.heap.size w1 u6 := by rw [hu]; exact (XB.setCell (p := ⟨bB, 0, none⟩) hsB _).setCell (p := ⟨bB, 1, none⟩) hsB _
            replace BA := Lib.hid (show RBox u6 bA _ _ _ _ _ _ from by rw [hu]; exact BA.out.other RB.out hAB _ _)
            rw [← hu]
            clear hu IB RB XB
            have XB := xb
            clear xb
            refine hK.out _ _ ?_ (fun hH6 => ?_)
            · exact HKP.out _ XB
            clear hK K hH5
            (try simp only [Act.put, List.setIfInBounds_toArray, List.set_cons_zero, List.set_cons_succ])
            refine wpAnyH_done (by kernel_rfl) ?_ _
            refine NoPanic.normal ?_
            go_wp2
            go_meet
            exact ⟨bA, bB, rfl, rfl, hsA, hsB, hAB, _, _, _, _, _, _, _, _, _, _, _, BA.out, BB.out, HG.out, by omega, by omega, XB⟩
        · go_simp
          obtain ⟨u2, hu⟩ : ∃ u, u = u1.alloc (.cells #[.bool false, .slice none 0 0] 34) := ⟨_, rfl⟩
          obtain ⟨bA, hbA⟩ : ∃ b, b = u1.heap.size := ⟨_, rfl⟩
          have ub : Below u1.heap.size u1 u2 := by rw [hu]; go_grown
          have rA : u2.heap[bA]? = some (.cells #[.bool false, .slice none 0 0] 34 (0, 0)) := by rw [hu, hbA]; exact heap_alloc_new u1 _
          have hsA : w1.heap.size ≤ bA := by rw [hbA]; exact XB.size
          replace IA := Lib.hid (IA.out.below ub)
          have RA := Lib.hid rA
          replace XB := XB.trans (ub.mono XB.size)
          rw [← hu, ← hbA]
          clear hu hbA rA ub
          obtain ⟨ta0, ta1, qa0, qa1⟩ := blk2 RA.out
          refine hK.out _ _ ?_ (fun hH2 => ?_)
          · exact HKP.out _ XB
          clear hK K hH1
          (try simp only [Act.put, List.setIfInBounds_toArray, List.set_cons_zero, List.set_cons_succ])
          refine wpAnyH_ready (rs := [3, 5]) (by kernel_rfl) (by simp) ?_
          refine (AllReadyH.cons (o := ({ dst := some 13, op := Op.call { callee := Callee.value (Operand.func 29), args := #[Operand.tmp 12], argTypes := #[34] }, type := 34, pos := "ref.go:236", after := #[{ on := 2, ground := Ground.data }, { on := 1, ground := Ground.chain }], guard := none } : Oper)) rfl (fun K hK => ?_) (AllReadyH.cons (o := ({ dst := some 6, op := Op.alloc 34, type := 0, pos := "ref.go:236", after := #[], guard := none } : Oper)) rfl (fun K hK => ?_) AllReadyH.nil))
          · go_simp
            clear ta0 ta1 qa0 qa1
            refine (rabs_any _ ny bo m capb ys y (HY1.out.below XB)).mono ?_
            rintro e u3 ⟨nB, aB, kB, cB, zB, rfl, iB, gB, ub⟩
            replace IA := Lib.hid (IA.out.below ub)
            replace RA := Lib.hid ((ub.block _ (Array.getElem?_eq_some_iff.1 RA.out).1).trans RA.out)
            have IB := Lib.hid iB
            replace XB := XB.trans (ub.mono XB.size)
            clear iB ub
            obtain ⟨ta0, ta1, qa0, qa1⟩ := blk2 RA.out
            refine hK.out _ _ ?_ (fun hH3 => ?_)
            · exact HKP.out _ XB
            clear hK K hH2
            (try simp only [Act.put, List.setIfInBounds_toArray, List.set_cons_zero, List.set_cons_succ])
            refine wpAnyH_ready (rs := [5]) (by kernel_rfl) (by simp) ?_
            refine (AllReadyH.cons (o := ({ dst := some 6, op := Op.alloc 34, type := 0, pos := "ref.go:236", after := #[], guard := none } : Oper)) rfl (fun K hK => ?_) AllReadyH.nil)
            go_simp
            clear ta0 ta1 qa0 qa1
            obtain ⟨u4, hu⟩ : ∃ u, u = u3.alloc (.cells #[.bool false, .slice none 0 0] 34) := ⟨_, rfl⟩
            obtain ⟨bB, hbB⟩ : ∃ b, b = u3.heap.size := ⟨_, rfl⟩
            have ub : Below u3.heap.size u3 u4 := by rw [hu]; go_grown
            have rB : u4.heap[bB]? = some (.cells #[.bool false, .slice none 0 0] 34 (0, 0)) := by rw [hu, hbB]; exact heap_alloc_new u3 _
            have hsB : w1.heap.size ≤ bB := by rw [hbB]; exact XB.size
            have hAB : bA ≠ bB := by have := (Array.getElem?_eq_some_iff.1 RA.out).1; omega
            replace IA := Lib.hid (IA.out.below ub)
            replace RA := Lib.hid ((ub.block _ (Array.getElem?_eq_some_iff.1 RA.out).1).trans RA.out)
            replace IB := Lib.hid (IB.out.below ub)
            have RB := Lib.hid rB
            replace XB := XB.trans (ub.mono XB.size)
            rw [← hu, ← hbB]
            clear hu hbB rB ub
            obtain ⟨ta0, ta1, qa0, qa1⟩ := blk2 RA.out
            obtain ⟨tb0, tb1, qb0, qb1⟩ := blk2 RB.out
            refine hK.out _ _ ?_ (fun hH4 => ?_)
            · exact HKP.out _ XB
            clear hK K hH3
            (try simp only [Act.put, List.setIfInBounds_toArray, List.set_cons_zero, List.set_cons_succ])
            refine wpAnyH_ready (rs := [6]) (by kernel_rfl) (by simp) ?_
            refine (AllReadyH.cons (o := ({ dst := none, op := Op.store 34 (Operand.tmp 5) (Operand.tmp 11), type := 0, pos := "ref.go:236", after := #[{ on := 4, ground := Ground.data }, { on := 1, ground := Ground.data }, { on := 3, ground := Ground.chain }, { on := 0, ground := Ground.phase }, { on := 1, ground := Ground.phase }, { on := 2, ground := Ground.textOnly Departure.lateStores }, { on := 3, ground := Ground.textOnly Departure.lateStoresUnsure }, { on := 4, ground := Ground.phase }, { on := 5, ground := Ground.phase }], guard := none } : Oper)) rfl (fun K hK => ?_) AllReadyH.nil)
            go_simp
            clear ta0 ta1 qa0 qa1
            clear tb0 tb1 qb0 qb1
            obtain ⟨u5, hu⟩ : ∃ u, u = (u4.setCell ⟨bA, 0, none⟩ (.bool nA)).setCell ⟨bA, 1, none⟩ (.slice aA kA cA) := ⟨_, rfl⟩
            have BA := Lib.hid (show RBox u5 bA _ _ _ _ _ _ from by rw [hu]; exact RBox.put IA.out RA.out)
            have xb : Below w1.heap.size w1 u5 := by rw [hu]; exact (XB.setCell (p := ⟨bA, 0, none⟩) hsA _).setCell (p := ⟨bA, 1, none⟩) hsA _
            replace IB := Lib.hid (show RefAt u5 _ _ _ _ _ _ from by rw [hu]; exact IB.out.stored RA.out _ _)
            replace RB := Lib.hid (show u5.heap[bB]? = some (.cells #[.bool false, .slice none 0 0] 34 (0, 0)) from by rw [hu, Below.heap_setCell _ _ _ _ hAB.symm, Below.heap_setCell _ _ _ _ hAB.symm]; exact RB.out)
            rw [← hu]
            clear hu IA RA XB
            have XB := xb
            clear xb
            obtain ⟨tb0, tb1, qb0, qb1⟩ := blk2 RB.out
            refine hK.out _ _ ?_ (fun hH5 => ?_)
            · exact HKP.out _ XB
            clear hK K hH4
            (try simp only [Act.put, List.setIfInBounds_toArray, List.set_cons_zero, List.set_cons_succ])
            refine wpAnyH_ready (rs := [7]) (by kernel_rfl) (by simp) ?_
            refine (AllReadyH.cons (o := ({ dst := none, op := Op.store 34 (Operand.tmp 6) (Operand.tmp 13), type := 0, pos := "ref.go:236", after := #[{ on := 5, ground := Ground.data }, { on := 3, ground := Ground.data }, { on := 6, ground := Ground.chain }, { on := 0, ground := Ground.phase }, { on := 1, ground := Ground.phase }, { on := 2, ground := Ground.phase }, { on := 3, ground := Ground.phase }, { on := 4, ground := Ground.phase }, { on := 5, ground := Ground.phase }, { on := 6, ground := Ground.phase }], guard := none } : Oper)) rfl (fun K hK => ?_) AllReadyH.nil)
            go_simp
            clear tb0 tb1 qb0 qb1
            obtain ⟨u6, hu⟩ : ∃ u, u = (u5.setCell ⟨bB, 0, none⟩ (.bool nB)).setCell ⟨bB, 1, none⟩ (.slice aB kB cB) := ⟨_, rfl⟩
            have BB := Lib.hid (show RBox u6 bB _ _ _ _ _ _ from by rw [hu]; exact RBox.put IB.out RB.out)
            have xb : Below w1.heap.size w1 u6 := by rw [hu]; exact (XB.setCell (p := ⟨bB, 0, none⟩) hsB _).setCell (p := ⟨bB, 1, none⟩) hsB _
            replace BA := Lib.hid (show RBox u6 bA _ _ _ _ _ _ from by rw [hu]; exact BA.out.other RB.out hAB _ _)
            rw [← hu]
            clear hu IB RB XB
            have XB := xb
            clear xb
            refine hK.out _ _ ?_ (fun hH6 => ?_)
            · exact HKP.out _ XB
            clear hK K hH5
            (try simp only [Act.put, List.setIfInBounds_toArray, List.set_cons_zero, List.set_cons_succ])
            refine wpAnyH_done (by kernel_rfl) ?_ _
            refine NoPanic.normal ?_
            go_wp2
            go_meet
            exact ⟨bA, bB, rfl, rfl, hsA, hsB, hAB, _, _, _, _, _, _, _, _, _, _, _, BA.out, BB.out, HG.out, by omega, by omega, XB⟩
          · go_simp
            clear ta0 ta1 qa0 qa1
            obtain ⟨u3, hu⟩ : ∃ u, u = u2.alloc (.cells #[.bool false, .slice none 0 0] 34) := ⟨_, rfl⟩
            obtain ⟨bB, hbB⟩ : ∃ b, b = u2.heap.size := ⟨_, rfl⟩
            have ub : Below u2.heap.size u2 u3 := by rw [hu]; go_grown
            have rB : u3.heap[bB]? = some (.cells #[.bool false, .slice none 0 0] 34 (0, 0)) := by rw [hu, hbB]; exact heap_alloc_new u2 _
            have hsB : w1.heap.size ≤ bB := by rw [hbB]; exact XB.size
            have hAB : bA ≠ bB := by have := (Array.getElem?_eq_some_iff.1 RA.out).1; omega
            replace IA := Lib.hid (IA.out.below ub)
            replace RA := Lib.hid ((ub.block _ (Array.getElem?_eq_some_iff.1 RA.out).1).trans RA.out)
            have RB := Lib.hid rB
            replace XB := XB.trans (ub.mono XB.size)
            rw [← hu, ← hbB]
            clear hu hbB rB ub
            obtain ⟨ta0, ta1, qa0, qa1⟩ := blk2 RA.out
            obtain ⟨tb0, tb1, qb0, qb1⟩ := blk2 RB.out
            refine hK.out _ _ ?_ (fun hH3 => ?_)
            · exact HKP.out _ XB
            clear hK K hH2
            (try simp only [Act.put, List.setIfInBounds_toArray, List.set_cons_zero, List.set_cons_succ])
            refine wpAnyH_ready (rs := [3]) (by kernel_rfl) (by simp) ?_
            refine (AllReadyH.cons (o := ({ dst := some 13, op := Op.call { callee := Callee.value (Operand.func 29), args := #[Operand.tmp 12], argTypes := #[34] }, type := 34, pos := "ref.go:236", after := #[{ on := 2, ground := Ground.data }, { on := 1, ground := Ground.chain }], guard := none } : Oper)) rfl (fun K hK => ?_) AllReadyH.nil)
            go_simp
            clear ta0 ta1 qa0 qa1
            clear tb0 tb1 qb0 qb1
            refine (rabs_any _ ny bo m capb ys y (HY1.out.below XB)).mono ?_
            rintro e u4 ⟨nB, aB, kB, cB, zB, rfl, iB, gB, ub⟩
            replace IA := Lib.hid (IA.out.below ub)
            replace RA := Lib.hid ((ub.block _ (Array.getElem?_eq_some_iff.1 RA.out).1).trans RA.out)
            replace RB := Lib.hid ((ub.block _ (Array.getElem?_eq_some_iff.1 RB.out).1).trans RB.out)
            have IB := Lib.hid iB
            replace XB := XB.trans (ub.mono XB.size)
            clear iB ub
            obtain ⟨ta0, ta1, qa0, qa1⟩ := blk2 RA.out
            obtain ⟨tb0, tb1, qb0, qb1⟩ := blk2 RB.out
            refine hK.out _ _ ?_ (fun hH4 => ?_)
            · exact HKP.out _ XB
            clear hK K hH3
            (try simp only [Act.put, List.setIfInBounds_toArray, List.set_cons_zero, List.set_cons_succ])
            refine wpAnyH_ready (rs := [6]) (by kernel_rfl) (by simp) ?_
            refine (AllReadyH.cons (o := ({ dst := none, op := Op.store 34 (Operand.tmp 5) (Operand.tmp 11), type := 0, pos := "ref.go:236", after := #[{ on := 4, ground := Ground.data }, { on := 1, ground := Ground.data }, { on := 3, ground := Ground.chain }, { on := 0, ground := Ground.phase }, { on := 1, ground := Ground.phase }, { on := 2, ground := Ground.textOnly Departure.lateStores }, { on := 3, ground := Ground.textOnly Departure.lateStoresUnsure }, { on := 4, ground := Ground.phase }, { on := 5, ground := Ground.phase }], guard := none } : Oper)) rfl (fun K hK => ?_) AllReadyH.nil)
            go_simp
            clear ta0 ta1 qa0 qa1
            clear tb0 tb1 qb0 qb1
            obtain ⟨u5, hu⟩ : ∃ u, u = (u4.setCell ⟨bA, 0, none⟩ (.bool nA)).setCell ⟨bA, 1, none⟩ (.slice aA kA cA) := ⟨_, rfl⟩
            have BA := Lib.hid (show RBox u5 bA _ _ _ _ _ _ from by rw [hu]; exact RBox.put IA.out RA.out)
            have xb : Below w1.heap.size w1 u5 := by rw [hu]; exact (XB.setCell (p := ⟨bA, 0, none⟩) hsA _).setCell (p := ⟨bA, 1, none⟩) hsA _
            replace IB := Lib.hid (show RefAt u5 _ _ _ _ _ _ from by rw [hu]; exact IB.out.stored RA.out _ _)
            replace RB := Lib.hid (show u5.heap[bB]? = some (.cells #[.bool false, .slice none 0 0] 34 (0, 0)) from by rw [hu, Below.heap_setCell _ _ _ _ hAB.symm, Below.heap_setCell _ _ _ _ hAB.symm]; exact RB.out)
            rw [← hu]
            clear hu IA RA XB
            have XB := xb
            clear xb
            obtain ⟨tb0, tb1, qb0, qb1⟩ := blk2 RB.out
            refine hK.out _ _ ?_ (fun hH5 => ?_)
            · exact HKP.out _ XB
            clear hK K hH4
            (try simp only [Act.put, List.setIfInBounds_toArray, List.set_cons_zero, List.set_cons_succ])
            refine wpAnyH_ready (rs := [7]) (by kernel_rfl) (by simp) ?_
            refine (AllReadyH.cons (o := ({ dst := none, op := Op.store 34 (Operand.tmp 6) (Operand.tmp 13), type := 0, pos := "ref.go:236", after := #[{ on := 5, ground := Ground.data }, { on := 3, ground := Ground.data }, { on := 6, ground := Ground.chain }, { on := 0, ground := Ground.phase }, { on := 1, ground := Ground.phase }, { on := 2, ground := Ground.phase }, { on := 3, ground := Ground.phase }, { on := 4, ground := Ground.phase }, { on := 5, ground := Ground.phase }, { on := 6, ground := Ground.phase }], guard := none } : Oper)) rfl (fun K hK => ?_) AllReadyH.nil)
            go_simp
            clear tb0 tb1 qb0 qb1
            obtain ⟨u6, hu⟩ : ∃ u, u = (u5.setCell ⟨bB, 0, none⟩ (.bool nB)).setCell ⟨bB, 1, none⟩ (.slice aB kB cB) := ⟨_, rfl⟩
            have BB := Lib.hid (show RBox u6 bB _ _ _ _ _ _ from by rw [hu]; exact RBox.put IB.out RB.out)
            have xb : Below w1.heap.size w1 u6 := by rw [hu]; exact (XB.setCell (p := ⟨bB, 0, none⟩) hsB _).setCell (p := ⟨bB, 1, none⟩) hsB _
            replace BA := Lib.hid (show RBox u6 bA _ _ _ _ _ _ from by rw [hu]; exact BA.out.other RB.out hAB _ _)
            rw [← hu]
            clear hu IB RB XB
            have XB := xb
            clear xb
            refine hK.out _ _ ?_ (fun hH6 => ?_)
            · exact HKP.out _ XB
            clear hK K hH5
            (try simp only [Act.put, List.setIfInBounds_toArray, List.set_cons_zero, List.set_cons_succ])
            refine wpAnyH_done (by kernel_rfl) ?_ _
            refine NoPanic.normal ?_
            go_wp2
            go_meet
            exact ⟨bA, bB, rfl, rfl, hsA, hsB, hAB, _, _, _, _, _, _, _, _, _, _, _, BA.out, BB.out, HG.out, by omega, by omega, XB⟩
        · go_simp
          obtain ⟨u2, hu⟩ : ∃ u, u = u1.alloc (.cells #[.bool false, .slice none 0 0] 34) := ⟨_, rfl⟩
          obtain ⟨bB, hbB⟩ : ∃ b, b = u1.heap.size := ⟨_, rfl⟩
          have ub : Below u1.heap.size u1 u2 := by rw [hu]; go_grown
          have rB : u2.heap[bB]? = some (.cells #[.bool false, .slice none 0 0] 34 (0, 0)) := by rw [hu, hbB]; exact heap_alloc_new u1 _
          have hsB : w1.heap.size ≤ bB := by rw [hbB]; exact XB.size
          replace IA := Lib.hid (IA.out.below ub)
          have RB := Lib.hid rB
          replace XB := XB.trans (ub.mono XB.size)
          rw [← hu, ← hbB]
          clear hu hbB rB ub
          obtain ⟨tb0, tb1, qb0, qb1⟩ := blk2 RB.out
          refine hK.out _ _ ?_ (fun hH2 => ?_)
          · exact HKP.out _ XB
          clear hK K hH1
          (try simp only [Act.put, List.setIfInBounds_toArray, List.set_cons_zero, List.set_cons_succ])
          refine wpAnyH_ready (rs := [3, 4]) (by kernel_rfl) (by simp) ?_
          refine (AllReadyH.cons (o := ({ dst := some 13, op := Op.call { callee := Callee.value (Operand.func 29), args := #[Operand.tmp 12], argTypes := #[34] }, type := 34, pos := "ref.go:236", after := #[{ on := 2, ground := Ground.data }, { on := 1, ground := Ground.chain }], guard := none } : Oper)) rfl (fun K hK => ?_) (AllReadyH.cons (o := ({ dst := some 5, op := Op.alloc 34, type := 0, pos := "ref.go:236", after := #[], guard := none } : Oper)) rfl (fun K hK => ?_) AllReadyH.nil))
          · go_simp
            clear tb0 tb1 qb0 qb1
            refine (rabs_any _ ny bo m capb ys y (HY1.out.below XB)).mono ?_
            rintro e u3 ⟨nB, aB, kB, cB, zB, rfl, iB, gB, ub⟩
            replace IA := Lib.hid (IA.out.below ub)
            replace RB := Lib.hid ((ub.block _ (Array.getElem?_eq_some_iff.1 RB.out).1).trans RB.out)
            have IB := Lib.hid iB
            replace XB := XB.trans (ub.mono XB.size)
            clear iB ub
            obtain ⟨tb0, tb1, qb0, qb1⟩ := blk2 RB.out
            refine hK.out _ _ ?_ (fun hH3 => ?_)
            · exact HKP.out _ XB
            clear hK K hH2
            (try simp only [Act.put, List.setIfInBounds_toArray, List.set_cons_zero, List.set_cons_succ])
            refine wpAnyH_ready (rs := [4]) (by kernel_rfl) (by simp) ?_
            refine (AllReadyH.cons (o := ({ dst := some 5, op := Op.alloc 34, type := 0, pos := "ref.go:236", after := #[], guard := none } : Oper)) rfl (fun K hK => ?_) AllReadyH.nil)
            go_simp
            clear tb0 tb1 qb0 qb1
            obtain ⟨u4, hu⟩ : ∃ u, u = u3.alloc (.cells #[.bool false, .slice none 0 0] 34) := ⟨_, rfl⟩
            obtain ⟨bA, hbA⟩ : ∃ b, b = u3.heap.size := ⟨_, rfl⟩
            have ub : Below u3.heap.size u3 u4 := by rw [hu]; go_grown
            have rA : u4.heap[bA]? = some (.cells #[.bool false, .slice none 0 0] 34 (0, 0)) := by rw [hu, hbA]; exact heap_alloc_new u3 _
            have hsA : w1.heap.size ≤ bA := by rw [hbA]; exact XB.size
            have hAB : bA ≠ bB := by have := (Array.getElem?_eq_some_iff.1 RB.out).1; omega
            replace IA := Lib.hid (IA.out.below ub)
            replace IB := Lib.hid (IB.out.below ub)
            replace RB := Lib.hid ((ub.block _ (Array.getElem?_eq_some_iff.1 RB.out).1).trans RB.out)
            have RA := Lib.hid rA
            replace XB := XB.trans (ub.mono XB.size)
            rw [← hu, ← hbA]
            clear hu hbA rA ub
            obtain ⟨ta0, ta1, qa0, qa1⟩ := blk2 RA.out
            obtain ⟨tb0, tb1, qb0, qb1⟩ := blk2 RB.out
            refine hK.out _ _ ?_ (fun hH4 => ?_)
            · exact HKP.out _ XB
            clear hK K hH3
            (try simp only [Act.put, List.setIfInBounds_toArray, List.set_cons_zero, List.set_cons_succ])
            refine wpAnyH_ready (rs := [6]) (by kernel_rfl) (by simp) ?_
            refine (AllReadyH.cons (o := ({ dst := none, op := Op.store 34 (Operand.tmp 5) (Operand.tmp 11), type := 0, pos := "ref.go:236", after := #[{ on := 4, ground := Ground.data }, { on := 1, ground := Ground.data }, { on := 3, ground := Ground.chain }, { on := 0, ground := Ground.phase }, { on := 1, ground := Ground.phase }, { on := 2, ground := Ground.textOnly Departure.lateStores }, { on := 3, ground := Ground.textOnly Departure.lateStoresUnsure }, { on := 4, ground := Ground.phase }, { on := 5, ground := Ground.phase }], guard := none } : Oper)) rfl (fun K hK => ?_) AllReadyH.nil)
            go_simp
            clear ta0 ta1 qa0 qa1
            clear tb0 tb1 qb0 qb1
            obtain ⟨u5, hu⟩ : ∃ u, u = (u4.setCell ⟨bA, 0, none⟩ (.bool nA)).setCell ⟨bA, 1, none⟩ (.slice aA kA cA) := ⟨_, rfl⟩
            have BA := Lib.hid (show RBox u5 bA _ _ _ _ _ _ from by rw [hu]; exact RBox.put IA.out RA.out)
            have xb : Below w1.heap.size w1 u5 := by rw [hu]; exact (XB.setCell (p := ⟨bA, 0, none⟩) hsA _).setCell (p := ⟨bA, 1, none⟩) hsA _
            replace IB := Lib.hid (show RefAt u5 _ _ _ _ _ _ from by rw [hu]; exact IB.out.stored RA.out _ _)
            replace RB := Lib.hid (show u5.heap[bB]? = some (.cells #[.bool false, .slice none 0 0] 34 (0, 0)) from by rw [hu, Below.heap_setCell _ _ _ _ hAB.symm, Below.heap_setCell _ _ _ _ hAB.symm]; exact RB.out)
            rw [← hu]
            clear hu IA RA XB
            have XB := xb
            clear xb
            obtain ⟨tb0, tb1, qb0, qb1⟩ := blk2 RB.out
            refine hK.out _ _ ?_ (fun hH5 => ?_)
            · exact HKP.out _ XB
            clear hK K hH4
            (try simp only [Act.put, List.setIfInBounds_toArray, List.set_cons_zero, List.set_cons_succ])
            refine wpAnyH_ready (rs := [7]) (by kernel_rfl) (by simp) ?_
            refine (AllReadyH.cons (o := ({ dst := none, op := Op.store 34 (Operand.tmp 6) (Operand.tmp 13), type := 0, pos := "ref.go:236", after := #[{ on := 5, ground := Ground.data }, { on := 3, ground := Ground.data }, { on := 6, ground := Ground.chain }, { on := 0, ground := Ground.phase }, { on := 1, ground := Ground.phase }, { on := 2, ground := Ground.phase }, { on := 3, ground := Ground.phase }, { on := 4, ground := Ground.phase }, { on := 5, ground := Ground.phase }, { on := 6, ground := Ground.phase }], guard := none } : Oper)) rfl (fun K hK => ?_) AllReadyH.nil)
            go_simp
            clear tb0 tb1 qb0 qb1
            obtain ⟨u6, hu⟩ : ∃ u, u = (u5.setCell ⟨bB, 0, none⟩ (.bool nB)).setCell ⟨bB, 1, none⟩ (.slice aB kB cB) := ⟨_, rfl⟩
            have BB := Lib.hid (show RBox u6 bB _ _ _ _ _ _ from by rw [hu]; exact RBox.put IB.out RB.out)
            have xb : Below w1.heap.size w1 u6 := by rw [hu]; exact (XB.setCell (p := ⟨bB, 0, none⟩) hsB _).setCell (p := ⟨bB, 1, none⟩) hsB _
            replace BA := Lib.hid (show RBox u6 bA _ _ _ _ _ _ from by rw [hu]; exact BA.out.other RB.out hAB _ _)
            rw [← hu]
            clear hu IB RB XB
            have XB := xb
            clear xb
            refine hK.out _ _ ?_ (fun hH6 => ?_)
            · exact HKP.out _ XB
            clear hK K hH5
            (try simp only [Act.put, List.setIfInBounds_toArray, List.set_cons_zero, List.set_cons_succ])
            refine wpAnyH_done (by kernel_rfl) ?_ _
            refine NoPanic.normal ?_
            go_wp2
            go_meet
            exact ⟨bA, bB, rfl, rfl, hsA, hsB, hAB, _, _, _, _, _, _, _, _, _, _, _, BA.out, BB.out, HG.out, by omega, by omega, XB⟩
          · go_simp
            clear tb0 tb1 qb0 qb1
            obtain ⟨u3, hu⟩ : ∃ u, u = u2.alloc (.cells #[.bool false, .slice none 0 0] 34) := ⟨_, rfl⟩
            obtain ⟨bA, hbA⟩ : ∃ b, b = u2.heap.size := ⟨_, rfl⟩
            have ub : Below u2.heap.size u2 u3 := by rw [hu]; go_grown
            have rA : u3.heap[bA]? = some (.cells #[.bool false, .slice none 0 0] 34 (0, 0)) := by rw [hu, hbA]; exact heap_alloc_new u2 _
            have hsA : w1.heap.size ≤ bA := by rw [hbA]; exact XB.size
            have hAB : bA ≠ bB := by have := (Array.getElem?_eq_some_iff.1 RB.out).1; omega
            replace IA := Lib.hid (IA.out.below ub)
            replace RB := Lib.hid ((ub.block _ (Array.getElem?_eq_some_iff.1 RB.out).1).trans RB.out)
            have RA := Lib.hid rA
            replace XB := XB.trans (ub.mono XB.size)
            rw [← hu, ← hbA]
            clear hu hbA rA ub
            obtain ⟨ta0, ta1, qa0, qa1⟩ := blk2 RA.out
            obtain ⟨tb0, tb1, qb0, qb1⟩ := blk2 RB.out
            refine hK.out _ _ ?_ (fun hH3 => ?_)
            · exact HKP.out _ XB
            clear hK K hH2
            (try simp only [Act.put, List.setIfInBounds_toArray, List.set_cons_zero, List.set_cons_succ])
            refine wpAnyH_ready (rs := [3]) (by kernel_rfl) (by simp) ?_
            refine (AllReadyH.cons (o := ({ dst := some 13, op := Op.call { callee := Callee.value (Operand.func 29), args := #[Operand.tmp 12], argTypes := #[34] }, type := 34, pos := "ref.go:236", after := #[{ on := 2, ground := Ground.data }, { on := 1, ground := Ground.chain }], guard := none } : Oper)) rfl (fun K hK => ?_) AllReadyH.nil)
            go_simp
            clear ta0 ta1 qa0 qa1
            clear tb0 tb1 qb0 qb1
            refine (rabs_any _ ny bo m capb ys y (HY1.out.below XB)).mono ?_
            rintro e u4 ⟨nB, aB, kB, cB, zB, rfl, iB, gB, ub⟩
            replace IA := Lib.hid (IA.out.below ub)
            replace RA := Lib.hid ((ub.block _ (Array.getElem?_eq_some_iff.1 RA.out).1).trans RA.out)
            replace RB := Lib.hid ((ub.block _ (Array.getElem?_eq_some_iff.1 RB.out).1).trans RB.out)
            have IB := Lib.hid iB
            replace XB := XB.trans (ub.mono XB.size)
            clear iB ub
            obtain ⟨ta0, ta1, qa0, qa1⟩ := blk2 RA.out
            obtain ⟨tb0, tb1, qb0, qb1⟩ := blk2 RB.out
            refine hK.out _ _ ?_ (fun hH4 => ?_)
            · exact HKP.out _ XB
            clear hK K hH3
            (try simp only [Act.put, List.setIfInBounds_toArray, List.set_cons_zero, List.set_cons_succ])
            refine wpAnyH_ready (rs := [6]) (by kernel_rfl) (by simp) ?_
            refine (AllReadyH.cons (o := ({ dst := none, op := Op.store 34 (Operand.tmp 5) (Operand.tmp 11), type := 0, pos := "ref.go:236", after := #[{ on := 4, ground := Ground.data }, { on := 1, ground := Ground.data }, { on := 3, ground := Ground.chain }, { on := 0, ground := Ground.phase }, { on := 1, ground := Ground.phase }, { on := 2, ground := Ground.textOnly Departure.lateStores }, { on := 3, ground := Ground.textOnly Departure.lateStoresUnsure }, { on := 4, ground := Ground.phase }, { on := 5, ground := Ground.phase }], guard := none } : Oper)) rfl (fun K hK => ?_) AllReadyH.nil)
            go_simp
            clear ta0 ta1 qa0 qa1
            clear tb0 tb1 qb0 qb1
            obtain ⟨u5, hu⟩ : ∃ u, u = (u4.setCell ⟨bA, 0, none⟩ (.bool nA)).setCell ⟨bA, 1, none⟩ (.slice aA kA cA) := ⟨_, rfl⟩
            have BA := Lib.hid (show RBox u5 bA _ _ _ _ _ _ from by rw [hu]; exact RBox.put IA.out RA.out)
            have xb : Below w1.heap.size w1 u5 := by rw [hu]; exact (XB.setCell (p := ⟨bA, 0, none⟩) hsA _).setCell (p := ⟨bA, 1, none⟩) hsA _
            replace IB := Lib.hid (show RefAt u5 _ _ _ _ _ _ from by rw [hu]; exact IB.out.stored RA.out _ _)
            replace RB := Lib.hid (show u5.heap[bB]? = some (.cells #[.bool false, .slice none 0 0] 34 (0, 0)) from by rw [hu, Below.heap_setCell _ _ _ _ hAB.symm, Below.heap_setCell _ _ _ _ hAB.symm]; exact RB.out)
            rw [← hu]
            clear hu IA RA XB
            have XB := xb
            clear xb
            obtain ⟨tb0, tb1, qb0, qb1⟩ := blk2 RB.out
            refine hK.out _ _ ?_ (fun hH5 => ?_)
            · exact HKP.out _ XB
            clear hK K hH4
            (try simp only [Act.put, List.setIfInBounds_toArray, List.set_cons_zero, List.set_cons_succ])
            refine wpAnyH_ready (rs := [7]) (by kernel_rfl) (by simp) ?_
            refine (AllReadyH.cons (o := ({ dst := none, op := Op.store 34 (Operand.tmp 6) (Operand.tmp 13), type := 0, pos := "ref.go:236", after := #[{ on := 5, ground := Ground.data }, { on := 3, ground := Ground.data }, { on := 6, ground := Ground.chain }, { on := 0, ground := Ground.phase }, { on := 1, ground := Ground.phase }, { on := 2, ground := Ground.phase }, { on := 3, ground := Ground.phase }, { on := 4, ground := Ground.phase }, { on := 5, ground := Ground.phase }, { on := 6, ground := Ground.phase }], guard := none } : Oper)) rfl (fun K hK => ?_) AllReadyH.nil)
            go_simp
            clear tb0 tb1 qb0 qb1
            obtain ⟨u6, hu⟩ : ∃ u, u = (u5.setCell ⟨bB, 0, none⟩ (.bool nB)).setCell ⟨bB, 1, none⟩ (.slice aB kB cB) := ⟨_, rfl⟩
            have BB := Lib.hid (show RBox u6 bB _ _ _ _ _ _ from by rw [hu]; exact RBox.put IB.out RB.out)
            have xb : Below w1.heap.size w1 u6 := by rw [hu]; exact (XB.setCell (p := ⟨bB, 0, none⟩) hsB _).setCell (p := ⟨bB, 1, none⟩) hsB _
            replace BA := Lib.hid (show RBox u6 bA _ _ _ _ _ _ from by rw [hu]; exact BA.out.other RB.out hAB _ _)
            rw [← hu]
            clear hu IB RB XB
            have XB := xb
            clear xb
            refine hK.out _ _ ?_ (fun hH6 => ?_)
            · exact HKP.out _ XB
            clear hK K hH5
            (try simp only [Act.put, List.setIfInBounds_toArray, List.set_cons_zero, List.set_cons_succ])
            refine wpAnyH_done (by kernel_rfl) ?_ _
            refine NoPanic.normal ?_
            go_wp2
            go_meet
            exact ⟨bA, bB, rfl, rfl, hsA, hsB, hAB, _, _, _, _, _, _, _, _, _, _, _, BA.out, BB.out, HG.out, by omega, by omega, XB⟩
      · go_simp
        obtain ⟨u1, hu⟩ : ∃ u, u = (w1.alloc (.cells #[.bool false, .slice none 0 0] 34)).drew := ⟨_, rfl⟩
        obtain ⟨bA, hbA⟩ : ∃ b, b = w1.heap.size := ⟨_, rfl⟩
        have ub : Below w1.heap.size w1 u1 := by rw [hu]; exact ((Below.refl _ _).alloc (Nat.le_refl _) _).drew
        have rA : u1.heap[bA]? = some (.cells #[.bool false, .slice none 0 0] 34 (0, 0)) := by rw [hu, hbA]; exact heap_alloc_new w1 _
        have hsA : w1.heap.size ≤ bA := by rw [hbA]; exact Nat.le_refl _
        have RA := Lib.hid rA
        have XB : Below w1.heap.size w1 u1 := ub
        rw [← hu, ← hbA]
        clear hu hbA rA ub
        obtain ⟨ta0, ta1, qa0, qa1⟩ := blk2 RA.out
        refine hK.out _ _ ?_ (fun hH1 => ?_)
        · exact HKP.out _ XB
        clear hK K hH0
        (try simp only [Act.put, List.setIfInBounds_toArray, List.set_cons_zero, List.set_cons_succ])
        refine wpAnyH_ready (rs := [1, 5]) (by kernel_rfl) (by simp) ?_
        refine (AllReadyH.cons (o := ({ dst := some 11, op := Op.call { callee := Callee.value (Operand.func 29), args := #[Operand.tmp 10], argTypes := #[34] }, type := 34, pos := "ref.go:236", after := #[{ on := 0, ground := Ground.data }], guard := none } : Oper)) rfl (fun K hK => ?_) (AllReadyH.cons (o := ({ dst := some 6, op := Op.alloc 34, type := 0, pos := "ref.go:236", after := #[], guard := none } : Oper)) rfl (fun K hK => ?_) AllReadyH.nil))
        · go_simp
          clear ta0 ta1 qa0 qa1
          refine (rabs_any _ nx ao n capa xs x (HX1.out.below XB)).mono ?_
          rintro e u2 ⟨nA, aA, kA, cA, zA, rfl, iA, gA, ub⟩
          replace RA := Lib.hid ((ub.block _ (Array.getElem?_eq_some_iff.1 RA.out).1).trans RA.out)
          have IA := Lib.hid iA
          replace XB := XB.trans (ub.mono XB.size)
          clear iA ub
          obtain ⟨ta0, ta1, qa0, qa1⟩ := blk2 RA.out
          refine hK.out _ _ ?_ (fun hH2 => ?_)
          · exact HKP.out _ XB
          clear hK K hH1
          (try simp only [Act.put, List.setIfInBounds_toArray, List.set_cons_zero, List.set_cons_succ])
          refine wpAnyH_ready (rs := [3, 5]) (by kernel_rfl) (by simp) ?_
          refine (AllReadyH.cons (o := ({ dst := some 13, op := Op.call { callee := Callee.value (Operand.func 29), args := #[Operand.tmp 12], argTypes := #[34] }, type := 34, pos := "ref.go:236", after := #[{ on := 2, ground := Ground.data }, { on := 1, ground := Ground.chain }], guard := none } : Oper)) rfl (fun K hK => ?_) (AllReadyH.cons (o := ({ dst := some 6, op := Op.alloc 34, type := 0, pos := "ref.go:236", after := #[], guard := none } : Oper)) rfl (fun K hK => ?_) AllReadyH.nil))
          · go_simp
            clear ta0 ta1 qa0 qa1
            refine (rabs_any _ ny bo m capb ys y (HY1.out.below XB)).mono ?_
            rintro e u3 ⟨nB, aB, kB, cB, zB, rfl, iB, gB, ub⟩
            replace IA := Lib.hid (IA.out.below ub)
            replace RA := Lib.hid ((ub.block _ (Array.getElem?_eq_some_iff.1 RA.out).1).trans RA.out)
            have IB := Lib.hid iB
            replace XB := XB.trans (ub.mono XB.size)
            clear iB ub
            obtain ⟨ta0, ta1, qa0, qa1⟩ := blk2 RA.out
            refine hK.out _ _ ?_ (fun hH3 => ?_)
            · exact HKP.out _ XB
            clear hK K hH2
            (try simp only [Act.put, List.setIfInBounds_toArray, List.set_cons_zero, List.set_cons_succ])
            refine wpAnyH_ready (rs := [5]) (by kernel_rfl) (by simp) ?_
            refine (AllReadyH.cons (o := ({ dst := some 6, op := Op.alloc 34, type := 0, pos := "ref.go:236", after := #[], guard := none } : Oper)) rfl (fun K hK => ?_) AllReadyH.nil)
            go_simp
            clear ta0 ta1 qa0 qa1
            obtain ⟨u4, hu⟩ : ∃ u, u = u3.alloc (.cells #[.bool false, .slice none 0 0] 34) := ⟨_, rfl⟩
            obtain ⟨bB, hbB⟩ : ∃ b, b = u3.heap.size := ⟨_, rfl⟩
            have ub : Below u3.heap.size u3 u4 := by rw [hu]; go_grown
            have rB : u4.heap[bB]? = some (.cells #[.bool false, .slice none 0 0] 34 (0, 0)) := by rw [hu, hbB]; exact heap_alloc_new u3 _
            have hsB : w1.heap.size ≤ bB := by rw [hbB]; exact XB.size
            have hAB : bA ≠ bB := by have := (Array.getElem?_eq_some_iff.1 RA.out).1; omega
            replace IA := Lib.hid (IA.out.below ub)
            replace RA := Lib.hid ((ub.block _ (Array.getElem?_eq_some_iff.1 RA.out).1).trans RA.out)
            replace IB := Lib.hid (IB.out.below ub)
            have RB := Lib.hid rB
            replace XB := XB.trans (ub.mono XB.size)
            rw [← hu, ← hbB]
            clear hu hbB rB ub
            obtain ⟨ta0, ta1, qa0, qa1⟩ := blk2 RA.out
            obtain ⟨tb0, tb1, qb0, qb1⟩ := blk2 RB.out
            refine hK.out _ _ ?_ (fun hH4 => ?_)
            · exact HKP.out _ XB
            clear hK K hH3
            (try simp only [Act.put, List.setIfInBounds_toArray, List.set_cons_zero, List.set_cons_succ])
            refine wpAnyH_ready (rs := [6]) (by kernel_rfl) (by simp) ?_
            refine (AllReadyH.cons (o := ({ dst := none, op := Op.store 34 (Operand.tmp 5) (Operand.tmp 11), type := 0, pos := "ref.go:236", after := #[{ on := 4, ground := Ground.data }, { on := 1, ground := Ground.data }, { on := 3, ground := Ground.chain }, { on := 0, ground := Ground.phase }, { on := 1, ground := Ground.phase }, { on := 2, ground := Ground.textOnly Departure.lateStores }, { on := 3, ground := Ground.textOnly Departure.lateStoresUnsure }, { on := 4, ground := Ground.phase }, { on := 5, ground := Ground.phase }], guard := none } : Oper)) rfl (fun K hK => ?_) AllReadyH.nil)
            go_simp
            clear ta0 ta1 qa0 qa1
            clear tb0 tb1 qb0 qb1
            obtain ⟨u5, hu⟩ : ∃ u, u = (u4.setCell ⟨bA, 0, none⟩ (.bool nA)).setCell ⟨bA, 1, none⟩ (.slice aA kA cA) := ⟨_, rfl⟩
            have BA := Lib.hid (show RBox u5 bA _ _ _ _ _ _ from by rw [hu]; exact RBox.put IA.out RA.out)
            have xb : Below w1.heap.size w1 u5 := by rw [hu]; exact (XB.setCell (p := ⟨bA, 0, none⟩) hsA _).setCell (p := ⟨bA, 1, none⟩) hsA _
            replace IB := Lib.hid (show RefAt u5 _ _ _ _ _ _ from by rw [hu]; exact IB.out.stored RA.out _ _)
            replace RB := Lib.hid (show u5.heap[bB]? = some (.cells #[.bool false, .slice none 0 0] 34 (0, 0)) from by rw [hu, Below.heap_setCell _ _ _ _ hAB.symm, Below.heap_setCell _ _ _ _ hAB.symm]; exact RB.out)
            rw [← hu]
            clear hu IA RA XB
            have XB := xb
            clear xb
            obtain ⟨tb0, tb1, qb0, qb1⟩ := blk2 RB.out
            refine hK.out _ _ ?_ (fun hH5 => ?_)
            · exact HKP.out _ XB
            clear hK K hH4
            (try simp only [Act.put, List.setIfInBounds_toArray, List.set_cons_zero, List.set_cons_succ])
            refine wpAnyH_ready (rs := [7]) (by kernel_rfl) (by simp) ?_
            refine (AllReadyH.cons (o := ({ dst := none, op := Op.store 34 (Operand.tmp 6) (Operand.tmp 13), type := 0, pos := "ref.go:236", after := #[{ on := 5, ground := Ground.data }, { on := 3, ground := Ground.data }, { on := 6, ground := Ground.chain }, { on := 0, ground := Ground.phase }, { on := 1, ground := Ground.phase }, { on := 2, ground := Ground.phase }, { on := 3, ground := Ground.phase }, { on := 4, ground := Ground.phase }, { on := 5, ground := Ground.phase }, { on := 6, ground := Ground.phase }], guard := none } : Oper)) rfl (fun K hK => ?_) AllReadyH.nil)
            go_simp
            clear tb0 tb1 qb0 qb1
            obtain ⟨u6, hu⟩ : ∃ u, u = (u5.setCell ⟨bB, 0, none⟩ (.bool nB)).setCell ⟨bB, 1, none⟩ (.slice aB kB cB) := ⟨_, rfl⟩
            have BB := Lib.hid (show RBox u6 bB _ _ _ _ _ _ from by rw [hu]; exact RBox.put IB.out RB.out)
            have xb : Below w1.heap.size w1 u6 := by rw [hu]; exact (XB.setCell (p := ⟨bB, 0, none⟩) hsB _).setCell (p := ⟨bB, 1, none⟩) hsB _
            replace BA := Lib.hid (show RBox u6 bA _ _ _ _ _ _ from by rw [hu]; exact BA.out.other RB.out hAB _ _)
            rw [← hu]
            clear hu IB RB XB
            have XB := xb
            clear xb
            refine hK.out _ _ ?_ (fun hH6 => ?_)
            · exact HKP.out _ XB
            clear hK K hH5
            (try simp only [Act.put, List.setIfInBounds_toArray, List.set_cons_zero, List.set_cons_succ])
            refine wpAnyH_done (by kernel_rfl) ?_ _
            refine NoPanic.normal ?_
            go_wp2
            go_meet
            exact ⟨bA, bB, rfl, rfl, hsA, hsB, hAB, _, _, _, _, _, _, _, _, _, _, _, BA.out, BB.out, HG.out, by omega, by omega, XB⟩
          · go_simp
            clear ta0 ta1 qa0 qa1
            obtain ⟨u3, hu⟩ : ∃ u, u = u2.alloc (.cells #[.bool false, .slice none 0 0] 34) := ⟨_, rfl⟩
            obtain ⟨bB, hbB⟩ : ∃ b, b = u2.heap.size := ⟨_, rfl⟩
            have ub : Below u2.heap.size u2 u3 := by rw [hu]; go_grown
            have rB : u3.heap[bB]? = some (.cells #[.bool false, .slice none 0 0] 34 (0, 0)) := by rw [hu, hbB]; exact heap_alloc_new u2 _
            have hsB : w1.heap.size ≤ bB := by rw [hbB]; exact XB.size
            have hAB : bA ≠ bB := by have := (Array.getElem?_eq_some_iff.1 RA.out).1; omega
            replace IA := Lib.hid (IA.out.below ub)
            replace RA := Lib.hid ((ub.block _ (Array.getElem?_eq_some_iff.1 RA.out).1).trans RA.out)
            have RB := Lib.hid rB
            replace XB := XB.trans (ub.mono XB.size)
            rw [← hu, ← hbB]
            clear hu hbB rB ub
            obtain ⟨ta0, ta1, qa0, qa1⟩ := blk2 RA.out
            obtain ⟨tb0, tb1, qb0, qb1⟩ := blk2 RB.out
            refine hK.out _ _ ?_ (fun hH3 => ?_)
            · exact HKP.out _ XB
            clear hK K hH2
            (try simp only [Act.put, List.setIfInBounds_toArray, List.set_cons_zero, List.set_cons_succ])
            refine wpAnyH_ready (rs := [3]) (by kernel_rfl) (by simp) ?_
            refine (AllReadyH.cons (o := ({ dst := some 13, op := Op.call { callee := Callee.value (Operand.func 29), args := #[Operand.tmp 12], argTypes := #[34] }, type := 34, pos := "ref.go:236", after := #[{ on := 2, ground := Ground.data }, { on := 1, ground := Ground.chain }], guard := none } : Oper)) rfl (fun K hK => ?_) AllReadyH.nil)
            go_simp
            clear ta0 ta1 qa0 qa1
            clear tb0 tb1 qb0 qb1
            refine (rabs_any _ ny bo m capb ys y (HY1.out.below XB)).mono ?_
            rintro e u4 ⟨nB, aB, kB, cB, zB, rfl, iB, gB, ub⟩
            replace IA := Lib.hid (IA.out.below ub)
            replace RA := Lib.hid ((ub.block _ (Array.getElem?_eq_some_iff.1 RA.out).1).trans RA.out)
            replace RB := Lib.hid ((ub.block _ (Array.getElem?_eq_some_iff.1 RB.out).1).trans RB.out)
            have IB := Lib.hid iB
            replace XB := XB.trans (ub.mono XB.size)
            clear iB ub
            obtain ⟨ta0, ta1, qa0, qa1⟩ := blk2 RA.out
            obtain ⟨tb0, tb1, qb0, qb1⟩ := blk2 RB.out
            refine hK.out _ _ ?_ (fun hH4 => ?_)
            · exact HKP.out _ XB
            clear hK K hH3
            (try simp only [Act.put, List.setIfInBounds_toArray, List.set_cons_zero, List.set_cons_succ])
            refine wpAnyH_ready (rs := [6]) (by kernel_rfl) (by simp) ?_
            refine (AllReadyH.cons (o := ({ dst := none, op := Op.store 34 (Operand.tmp 5) (Operand.tmp 11), type := 0, pos := "ref.go:236", after := #[{ on := 4, ground := Ground.data }, { on := 1, ground := Ground.data }, { on := 3, ground := Ground.chain }, { on := 0, ground := Ground.phase }, { on := 1, ground := Ground.phase }, { on := 2, ground := Ground.textOnly Departure.lateStores }, { on := 3, ground := Ground.textOnly Departure.lateStoresUnsure }, { on := 4, ground := Ground.phase }, { on := 5, ground := Ground.phase }], guard := none } : Oper)) rfl (fun K hK => ?_) AllReadyH.nil)
            go_simp
            clear ta0 ta1 qa0 qa1
            clear tb0 tb1 qb0 qb1
            obtain ⟨u5, hu⟩ : ∃ u, u = (u4.setCell ⟨bA, 0, none⟩ (.bool nA)).setCell ⟨bA, 1, none⟩ (.slice aA kA cA) := ⟨_, rfl⟩
            have BA := Lib.hid (show RBox u5 bA _ _ _ _ _ _ from by rw [hu]; exact RBox.put IA.out RA.out)
            have xb : Below w1.heap.size w1 u5 := by rw [hu]; exact (XB.setCell (p := ⟨bA, 0, none⟩) hsA _).setCell (p := ⟨bA, 1, none⟩) hsA _
            replace IB := Lib.hid (show RefAt u5 _ _ _ _ _ _ from by rw [hu]; exact IB.out.stored RA.out _ _)
            replace RB := Lib.hid (show u5.heap[bB]? = some (.cells #[.bool false, .slice none 0 0] 34 (0, 0)) from by rw [hu, Below.heap_setCell _ _ _ _ hAB.symm, Below.heap_setCell _ _ _ _ hAB.symm]; exact RB.out)
            rw [← hu]
            clear hu IA RA XB
            have XB := xb
            clear xb
            obtain ⟨tb0, tb1, qb0, qb1⟩ := blk2 RB.out
            refine hK.out _ _ ?_ (fun hH5 => ?_)
            · exact HKP.out _ XB
            clear hK K hH4
            (try simp only [Act.put, List.setIfInBounds_toArray, List.set_cons_zero, List.set_cons_succ])
            refine wpAnyH_ready (rs := [7]) (by kernel_rfl) (by simp) ?_
            refine (AllReadyH.cons (o := ({ dst := none, op := Op.store 34 (Operand.tmp 6) (Operand.tmp 13), type := 0, pos := "ref.go:236", after := #[{ on := 5, ground := Ground.data }, { on := 3, ground := Ground.data }, { on := 6, ground := Ground.chain }, { on := 0, ground := Ground.phase }, { on := 1, ground := Ground.phase }, { on := 2, ground := Ground.phase }, { on := 3, ground := Ground.phase }, { on := 4, ground := Ground.phase }, { on := 5, ground := Ground.phase }, { on := 6, ground := Ground.phase }], guard := none } : Oper)) rfl (fun K hK => ?_) AllReadyH.nil)
            go_simp
            clear tb0 tb1 qb0 qb1
            obtain ⟨u6, hu⟩ : ∃ u, u = (u5.setCell ⟨bB, 0, none⟩ (.bool nB)).setCell ⟨bB, 1, none⟩ (.slice aB kB cB) := ⟨_, rfl⟩
            have BB := Lib.hid (show RBox u6 bB _ _ _ _ _ _ from by rw [hu]; exact RBox.put IB.out RB.out)
            have xb : Below w1.heap.size w1 u6 := by rw [hu]; exact (XB.setCell (p := ⟨bB, 0, none⟩) hsB _).setCell (p := ⟨bB, 1, none⟩) hsB _
            replace BA := Lib.hid (show RBox u6 bA _ _ _ _ _ _ from by rw [hu]; exact BA.out.other RB.out hAB _ _)
            rw [← hu]
            clear hu IB RB XB
            have XB := xb
            clear xb
            refine hK.out _ _ ?_ (fun hH6 => ?_)
            · exact HKP.out _ XB
            clear hK K hH5
            (try simp only [Act.put, List.setIfInBounds_toArray, List.set_cons_zero, List.set_cons_succ])
            refine wpAnyH_done (by kernel_rfl) ?_ _
            refine NoPanic.normal ?_
            go_wp2
            go_meet
            exact ⟨bA, bB, rfl, rfl, hsA, hsB, hAB, _, _, _, _, _, _, _, _, _, _, _, BA.out, BB.out, HG.out, by omega, by omega, XB⟩
        · go_simp
          clear ta0 ta1 qa0 qa1
          obtain ⟨u2, hu⟩ : ∃ u, u = u1.alloc (.cells #[.bool false, .slice none 0 0] 34) := ⟨_, rfl⟩
          obtain ⟨bB, hbB⟩ : ∃ b, b = u1.heap.size := ⟨_, rfl⟩
          have ub : Below u1.heap.size u1 u2 := by rw [hu]; go_grown
          have rB : u2.heap[bB]? = some (.cells #[.bool false, .slice none 0 0] 34 (0, 0)) := by rw [hu, hbB]; exact heap_alloc_new u1 _
          have hsB : w1.heap.size ≤ bB := by rw [hbB]; exact XB.size
          have hAB : bA ≠ bB := by have := (Array.getElem?_eq_some_iff.1 RA.out).1; omega
          replace RA := Lib.hid ((ub.block _ (Array.getElem?_eq_some_iff.1 RA.out).1).trans RA.out)
          have RB := Lib.hid rB
          replace XB := XB.trans (ub.mono XB.size)
          rw [← hu, ← hbB]
          clear hu hbB rB ub
          obtain ⟨ta0, ta1, qa0, qa1⟩ := blk2 RA.out
          obtain ⟨tb0, tb1, qb0, qb1⟩ := blk2 RB.out
          refine hK.out _ _ ?_ (fun hH2 => ?_)
          · exact HKP.out _ XB
          clear hK K hH1
          (try simp only [Act.put, List.setIfInBounds_toArray, List.set_cons_zero, List.set_cons_succ])
          refine wpAnyH_ready (rs := [1]) (by kernel_rfl) (by simp) ?_
          refine (AllReadyH.cons (o := ({ dst := some 11, op := Op.call { callee := Callee.value (Operand.func 29), args := #[Operand.tmp 10], argTypes := #[34] }, type := 34, pos := "ref.go:236", after := #[{ on := 0, ground := Ground.data }], guard := none } : Oper)) rfl (fun K hK => ?_) AllReadyH.nil)
          go_simp
          clear ta0 ta1 qa0 qa1
          clear tb0 tb1 qb0 qb1
          refine (rabs_any _ nx ao n capa xs x (HX1.out.below XB)).mono ?_
          rintro e u3 ⟨nA, aA, kA, cA, zA, rfl, iA, gA, ub⟩
          replace RA := Lib.hid ((ub.block _ (Array.getElem?_eq_some_iff.1 RA.out).1).trans RA.out)
          replace RB := Lib.hid ((ub.block _ (Array.getElem?_eq_some_iff.1 RB.out).1).trans RB.out)
          have IA := Lib.hid iA
          replace XB := XB.trans (ub.mono XB.size)
          clear iA ub
          obtain ⟨ta0, ta1, qa0, qa1⟩ := blk2 RA.out
          obtain ⟨tb0, tb1, qb0, qb1⟩ := blk2 RB.out
          refine hK.out _ _ ?_ (fun hH3 => ?_)
          · exact HKP.out _ XB
          clear hK K hH2
          (try simp only [Act.put, List.setIfInBounds_toArray, List.set_cons_zero, List.set_cons_succ])
          refine wpAnyH_ready (rs := [3]) (by kernel_rfl) (by simp) ?_
          refine (AllReadyH.cons (o := ({ dst := some 13, op := Op.call { callee := Callee.value (Operand.func 29), args := #[Operand.tmp 12], argTypes := #[34] }, type := 34, pos := "ref.go:236", after := #[{ on := 2, ground := Ground.data }, { on := 1, ground := Ground.chain }], guard := none } : Oper)) rfl (fun K hK => ?_) AllReadyH.nil)
          go_simp
          clear ta0 ta1 qa0 qa1
          clear tb0 tb1 qb0 qb1
          refine (rabs_any _ ny bo m capb ys y (HY1.out.below XB)).mono ?_
          rintro e u4 ⟨nB, aB, kB, cB, zB, rfl, iB, gB, ub⟩
          replace IA := Lib.hid (IA.out.below ub)
          replace RA := Lib.hid ((ub.block _ (Array.getElem?_eq_some_iff.1 RA.out).1).trans RA.out)
          replace RB := Lib.hid ((ub.block _ (Array.getElem?_eq_some_iff.1 RB.out).1).trans RB.out)
          have IB := Lib.hid iB
          replace XB := XB.trans (ub.mono XB.size)
          clear iB ub
          obtain ⟨ta0, ta1, qa0, qa1⟩ := blk2 RA.out
          obtain ⟨tb0, tb1, qb0, qb1⟩ := blk2 RB.out
          refine hK.out _ _ ?_ (fun hH4 => ?_)
          · exact HKP.out _ XB
          clear hK K hH3
          (try simp only [Act.put, List.setIfInBounds_toArray, List.set_cons_zero, List.set_cons_succ])
          refine wpAnyH_ready (rs := [6]) (by kernel_rfl) (by simp) ?_
          refine (AllReadyH.cons (o := ({ dst := none, op := Op.store 34 (Operand.tmp 5) (Operand.tmp 11), type := 0, pos := "ref.go:236", after := #[{ on := 4, ground := Ground.data }, { on := 1, ground := Ground.data }, { on := 3, ground := Ground.chain }, { on := 0, ground := Ground.phase }, { on := 1, ground := Ground.phase }, { on := 2, ground := Ground.textOnly Departure.lateStores }, { on := 3, ground := Ground.textOnly Departure.lateStoresUnsure }, { on := 4, ground := Ground.phase }, { on := 5, ground := Ground.phase }], guard := none } : Oper)) rfl (fun K hK => ?_) AllReadyH.nil)
          go_simp
          clear ta0 ta1 qa0 qa1
          clear tb0 tb1 qb0 qb1
          obtain ⟨u5, hu⟩ : ∃ u, u = (u4.setCell ⟨bA, 0, none⟩ (.bool nA)).setCell ⟨bA, 1, none⟩ (.slice aA kA cA) := ⟨_, rfl⟩
          have BA := Lib.hid (show RBox u5 bA _ _ _ _ _ _ from by rw [hu]; exact RBox.put IA.out RA.out)
          have xb : Below w1.heap.size w1 u5 := by rw [hu]; exact (XB.setCell (p := ⟨bA, 0, none⟩) hsA _).setCell (p := ⟨bA, 1, none⟩) hsA _
          replace IB := Lib.hid (show RefAt u5 _ _ _ _ _ _ from by rw [hu]; exact IB.out.stored RA.out _ _)
          replace RB := Lib.hid (show u5.heap[bB]? = some (.cells #[.bool false, .slice none 0 0] 34 (0, 0)) from by rw [hu, Below.heap_setCell _ _ _ _ hAB.symm, Below.heap_setCell _ _ _ _ hAB.symm]; exact RB.out)
          rw [← hu]
          clear hu IA RA XB
          have XB := xb
          clear xb
          obtain ⟨tb0, tb1, qb0, qb1⟩ := blk2 RB.out
          refine hK.out _ _ ?_ (fun hH5 => ?_)
          · exact HKP.out _ XB
          clear hK K hH4
          (try simp only [Act.put, List.setIfInBounds_toArray, List.set_cons_zero, List.set_cons_succ])
          refine wpAnyH_ready (rs := [7]) (by kernel_rfl) (by simp) ?_
          refine (AllReadyH.cons (o := ({ dst := none, op := Op.store 34 (Operand.tmp 6) (Operand.tmp 13), type := 0, pos := "ref.go:236", after := #[{ on := 5, ground := Ground.data }, { on := 3, ground := Ground.data }, { on := 6, ground := Ground.chain }, { on := 0, ground := Ground.phase }, { on := 1, ground := Ground.phase }, { on := 2, ground := Ground.phase }, { on := 3, ground := Ground.phase }, { on := 4, ground := Ground.phase }, { on := 5, ground := Ground.phase }, { on := 6, ground := Ground.phase }], guard := none } : Oper)) rfl (fun K hK => ?_) AllReadyH.nil)
          go_simp
          clear tb0 tb1 qb0 qb1
          obtain ⟨u6, hu⟩ : ∃ u, u = (u5.setCell ⟨bB, 0, none⟩ (.bool nB)).setCell ⟨bB, 1, none⟩ (.slice aB kB cB) := ⟨_, rfl⟩
          have BB := Lib.hid (show RBox u6 bB _ _ _ _ _ _ from by rw [hu]; exact RBox.put IB.out RB.out)
          have xb : Below w1.heap.size w1 u6 := by rw [hu]; exact (XB.setCell (p := ⟨bB, 0, none⟩) hsB _).setCell (p := ⟨bB, 1, none⟩) hsB _
          replace BA := Lib.hid (show RBox u6 bA _ _ _ _ _ _ from by rw [hu]; exact BA.out.other RB.out hAB _ _)
          rw [← hu]
          clear hu IB RB XB
          have XB := xb
          clear xb
          refine hK.out _ _ ?_ (fun hH6 => ?_)
          · exact HKP.out _ XB
          clear hK K hH5
          (try simp only [Act.put, List.setIfInBounds_toArray, List.set_cons_zero, List.set_cons_succ])
          refine wpAnyH_done (by kernel_rfl) ?_ _
          refine NoPanic.normal ?_
          go_wp2
          go_meet
          exact ⟨bA, bB, rfl, rfl, hsA, hsB, hAB, _, _, _, _, _, _, _, _, _, _, _, BA.out, BB.out, HG.out, by omega, by omega, XB⟩
      · go_simp
        obtain ⟨u1, hu⟩ : ∃ u, u = (w1.alloc (.cells #[.bool false, .slice none 0 0] 34)).drew := ⟨_, rfl⟩
        obtain ⟨bB, hbB⟩ : ∃ b, b = w1.heap.size := ⟨_, rfl⟩
        have ub : Below w1.heap.size w1 u1 := by rw [hu]; exact ((Below.refl _ _).alloc (Nat.le_refl _) _).drew
        have rB : u1.heap[bB]? = some (.cells #[.bool false, .slice none 0 0] 34 (0, 0)) := by rw [hu, hbB]; exact heap_alloc_new w1 _
        have hsB : w1.heap.size ≤ bB := by rw [hbB]; exact Nat.le_refl _
        have RB := Lib.hid rB
        have XB : Below w1.heap.size w1 u1 := ub
        rw [← hu, ← hbB]
        clear hu hbB rB ub
        obtain ⟨tb0, tb1, qb0, qb1⟩ := blk2 RB.out
        refine hK.out _ _ ?_ (fun hH1 => ?_)
        · exact HKP.out _ XB
        clear hK K hH0
        (try simp only [Act.put, List.setIfInBounds_toArray, List.set_cons_zero, List.set_cons_succ])
        refine wpAnyH_ready (rs := [1, 4]) (by kernel_rfl) (by simp) ?_
        refine (AllReadyH.cons (o := ({ dst := some 11, op := Op.call { callee := Callee.value (Operand.func 29), args := #[Operand.tmp 10], argTypes := #[34] }, type := 34, pos := "ref.go:236", after := #[{ on := 0, ground := Ground.data }], guard := none } : Oper)) rfl (fun K hK => ?_) (AllReadyH.cons (o := ({ dst := some 5, op := Op.alloc 34, type := 0, pos := "ref.go:236", after := #[], guard := none } : Oper)) rfl (fun K hK => ?_) AllReadyH.nil))
        · go_simp
          clear tb0 tb1 qb0 qb1
          refine (rabs_any _ nx ao n capa xs x (HX1.out.below XB)).mono ?_
          rintro e u2 ⟨nA, aA, kA, cA, zA, rfl, iA, gA, ub⟩
          replace RB := Lib.hid ((ub.block _ (Array.getElem?_eq_some_iff.1 RB.out).1).trans RB.out)
          have IA := Lib.hid iA
          replace XB := XB.trans (ub.mono XB.size)
          clear iA ub
          obtain ⟨tb0, tb1, qb0, qb1⟩ := blk2 RB.out
          refine hK.out _ _ ?_ (fun hH2 => ?_)
          · exact HKP.out _ XB
          clear hK K hH1
          (try simp only [Act.put, List.setIfInBounds_toArray, List.set_cons_zero, List.set_cons_succ])
          refine wpAnyH_ready (rs := [3, 4]) (by kernel_rfl) (by simp) ?_
          refine (AllReadyH.cons (o := ({ dst := some 13, op := Op.call { callee := Callee.value (Operand.func 29), args := #[Operand.tmp 12], argTypes := #[34] }, type := 34, pos := "ref.go:236", after := #[{ on := 2, ground := Ground.data }, { on := 1, ground := Ground.chain }], guard := none } : Oper)) rfl (fun K hK => ?_) (AllReadyH.cons (o := ({ dst := some 5, op := Op.alloc 34, type := 0, pos := "ref.go:236", after := #[], guard := none } : Oper)) rfl (fun K hK => ?_) AllReadyH.nil))
          · go_simp
            clear tb0 tb1 qb0 qb1
            refine (rabs_any _ ny bo m capb ys y (HY1.out.below XB)).mono ?_
            rintro e u3 ⟨nB, aB, kB, cB, zB, rfl, iB, gB, ub⟩
            replace IA := Lib.hid (IA.out.below ub)
            replace RB := Lib.hid ((ub.block _ (Array.getElem?_eq_some_iff.1 RB.out).1).trans RB.out)
            have IB := Lib.hid iB
            replace XB := XB.trans (ub.mono XB.size)
            clear iB ub
            obtain ⟨tb0, tb1, qb0, qb1⟩ := blk2 RB.out
            refine hK.out _ _ ?_ (fun hH3 => ?_)
            · exact HKP.out _ XB
            clear hK K hH2
            (try simp only [Act.put, List.setIfInBounds_toArray, List.set_cons_zero, List.set_cons_succ])
            refine wpAnyH_ready (rs := [4]) (by kernel_rfl) (by simp) ?_
            refine (AllReadyH.cons (o := ({ dst := some 5, op := Op.alloc 34, type := 0, pos := "ref.go:236", after := #[], guard := none } : Oper)) rfl (fun K hK => ?_) AllReadyH.nil)
            go_simp
            clear tb0 tb1 qb0 qb1
            obtain ⟨u4, hu⟩ : ∃ u, u = u3.alloc (.cells #[.bool false, .slice none 0 0] 34) := ⟨_, rfl⟩
            obtain ⟨bA, hbA⟩ : ∃ b, b = u3.heap.size := ⟨_, rfl⟩
            have ub : Below u3.heap.size u3 u4 := by rw [hu]; go_grown
            have rA : u4.heap[bA]? = some (.cells #[.bool false, .slice none 0 0] 34 (0, 0)) := by rw [hu, hbA]; exact heap_alloc_new u3 _
            have hsA : w1.heap.size ≤ bA := by rw [hbA]; exact XB.size
            have hAB : bA ≠ bB := by have := (Array.getElem?_eq_some_iff.1 RB.out).1; omega
            replace IA := Lib.hid (IA.out.below ub)
            replace IB := Lib.hid (IB.out.below ub)
            replace RB := Lib.hid ((ub.block _ (Array.getElem?_eq_some_iff.1 RB.out).1).trans RB.out)
            have RA := Lib.hid rA
            replace XB := XB.trans (ub.mono XB.size)
            rw [← hu, ← hbA]
            clear hu hbA rA ub
            obtain ⟨ta0, ta1, qa0, qa1⟩ := blk2 RA.out
            obtain ⟨tb0, tb1, qb0, qb1⟩ := blk2 RB.out
            refine hK.out _ _ ?_ (fun hH4 => ?_)
            · exact HKP.out _ XB
            clear hK K hH3
            (try simp only [Act.put, List.setIfInBounds_toArray, List.set_cons_zero, List.set_cons_succ])
            refine wpAnyH_ready (rs := [6]) (by kernel_rfl) (by simp) ?_
            refine (AllReadyH.cons (o := ({ dst := none, op := Op.store 34 (Operand.tmp 5) (Operand.tmp 11), type := 0, pos := "ref.go:236", after := #[{ on := 4, ground := Ground.data }, { on := 1, ground := Ground.data }, { on := 3, ground := Ground.chain }, { on := 0, ground := Ground.phase }, { on := 1, ground := Ground.phase }, { on := 2, ground := Ground.textOnly Departure.lateStores }, { on := 3, ground := Ground.textOnly Departure.lateStoresUnsure }, { on := 4, ground := Ground.phase }, { on := 5, ground := Ground.phase }], guard := none } : Oper)) rfl (fun K hK => ?_) AllReadyH.nil)
            go_simp
            clear ta0 ta1 qa0 qa1
            clear tb0 tb1 qb0 qb1
            obtain ⟨u5, hu⟩ : ∃ u, u = (u4.setCell ⟨bA, 0, none⟩ (.bool nA)).setCell ⟨bA, 1, none⟩ (.slice aA kA cA) := ⟨_, rfl⟩
            have BA := Lib.hid (show RBox u5 bA _ _ _ _ _ _ from by rw [hu]; exact RBox.put IA.out RA.out)
            have xb : Below w1.heap.size w1 u5 := by rw [hu]; exact (XB.setCell (p := ⟨bA, 0, none⟩) hsA _).setCell (p := ⟨bA, 1, none⟩) hsA _
            replace IB := Lib.hid (show RefAt u5 _ _ _ _ _ _ from by rw [hu]; exact IB.out.stored RA.out _ _)
            replace RB := Lib.hid (show u5.heap[bB]? = some (.cells #[.bool false, .slice none 0 0] 34 (0, 0)) from by rw [hu, Below.heap_setCell _ _ _ _ hAB.symm, Below.heap_setCell _ _ _ _ hAB.symm]; exact RB.out)
            rw [← hu]
            clear hu IA RA XB
            have XB := xb
            clear xb
            obtain ⟨tb0, tb1, qb0, qb1⟩ := blk2 RB.out
            refine hK.out _ _ ?_ (fun hH5 => ?_)
            · exact HKP.out _ XB
            clear hK K hH4
            (try simp only [Act.put, List.setIfInBounds_toArray, List.set_cons_zero, List.set_cons_succ])
            refine wpAnyH_ready (rs := [7]) (by kernel_rfl) (by simp) ?_
            refine (AllReadyH.cons (o := ({ dst := none, op := Op.store 34 (Operand.tmp 6) (Operand.tmp 13), type := 0, pos := "ref.go:236", after := #[{ on := 5, ground := Ground.data }, { on := 3, ground := Ground.data }, { on := 6, ground := Ground.chain }, { on := 0, ground := Ground.phase }, { on := 1, ground := Ground.phase }, { on := 2, ground := Ground.phase }, { on := 3, ground := Ground.phase }, { on := 4, ground := Ground.phase }, { on := 5, ground := Ground.phase }, { on := 6, ground := Ground.phase }], guard := none } : Oper)) rfl (fun K hK => ?_) AllReadyH.nil)
            go_simp
            clear tb0 tb1 qb0 qb1
            obtain ⟨u6, hu⟩ : ∃ u, u = (u5.setCell ⟨bB, 0, none⟩ (.bool nB)).setCell ⟨bB, 1, none⟩ (.slice aB kB cB) := ⟨_, rfl⟩
            have BB := Lib.hid (show RBox u6 bB _ _ _ _ _ _ from by rw [hu]; exact RBox.put IB.out RB.out)
            have xb : Below w1.heap.size w1 u6 := by rw [hu]; exact (XB.setCell (p := ⟨bB, 0, none⟩) hsB _).setCell (p := ⟨bB, 1, none⟩) hsB _
            replace BA := Lib.hid (show RBox u6 bA _ _ _ _ _ _ from by rw [hu]; exact BA.out.other RB.out hAB _ _)
            rw [← hu]
            clear hu IB RB XB
            have XB := xb
            clear xb
            refine hK.out _ _ ?_ (fun hH6 => ?_)
            · exact HKP.out _ XB
            clear hK K hH5
            (try simp only [Act.put, List.setIfInBounds_toArray, List.set_cons_zero, List.set_cons_succ])
            refine wpAnyH_done (by kernel_rfl) ?_ _
            refine NoPanic.normal ?_
            go_wp2
            go_meet
            exact ⟨bA, bB, rfl, rfl, hsA, hsB, hAB, _, _, _, _, _, _, _, _, _, _, _, BA.out, BB.out, HG.out, by omega, by omega, XB⟩
          · go_simp
            clear tb0 tb1 qb0 qb1
            obtain ⟨u3, hu⟩ : ∃ u, u = u2.alloc (.cells #[.bool false, .slice none 0 0] 34) := ⟨_, rfl⟩
            obtain ⟨bA, hbA⟩ : ∃ b, b = u2.heap.size := ⟨_, rfl⟩
            have ub : Below u2.heap.size u2 u3 := by rw [hu]; go_grown
            have rA : u3.heap[bA]? = some (.cells #[.bool false, .slice none 0 0] 34 (0, 0)) := by rw [hu, hbA]; exact heap_alloc_new u2 _
            have hsA : w1.heap.size ≤ bA := by rw [hbA]; exact XB.size
            have hAB : bA ≠ bB := by have := (Array.getElem?_eq_some_iff.1 RB.out).1; omega
            replace IA := Lib.hid (IA.out.below ub)
            replace RB := Lib.hid ((ub.block _ (Array.getElem?_eq_some_iff.1 RB.out).1).trans RB.out)
            have RA := Lib.hid rA
            replace XB := XB.trans (ub.mono XB.size)
            rw [← hu, ← hbA]
            clear hu hbA rA ub
            obtain ⟨ta0, ta1, qa0, qa1⟩ := blk2 RA.out
            obtain ⟨tb0, tb1, qb0, qb1⟩ := blk2 RB.out
            refine hK.out _ _ ?_ (fun hH3 => ?_)
            · exact HKP.out _ XB
            clear hK K hH2
            (try simp only [Act.put, List.setIfInBounds_toArray, List.set_cons_zero, List.set_cons_succ])
            refine wpAnyH_ready (rs := [3]) (by kernel_rfl) (by simp) ?_
            refine (AllReadyH.cons (o := ({ dst := some 13, op := Op.call { callee := Callee.value (Operand.func 29), args := #[Operand.tmp 12], argTypes := #[34] }, type := 34, pos := "ref.go:236", after := #[{ on := 2, ground := Ground.data }, { on := 1, ground := Ground.chain }], guard := none } : Oper)) rfl (fun K hK => ?_) AllReadyH.nil)
            go_simp
            clear ta0 ta1 qa0 qa1
            clear tb0 tb1 qb0 qb1
            refine (rabs_any _ ny bo m capb ys y (HY1.out.below XB)).mono ?_
            rintro e u4 ⟨nB, aB, kB, cB, zB, rfl, iB, gB, ub⟩
            replace IA := Lib.hid (IA.out.below ub)
            replace RA := Lib.hid ((ub.block _ (Array.getElem?_eq_some_iff.1 RA.out).1).trans RA.out)
            replace RB := Lib.hid ((ub.block _ (Array.getElem?_eq_some_iff.1 RB.out).1).trans RB.out)
            have IB := Lib.hid iB
            replace XB := XB.trans (ub.mono XB.size)
            clear iB ub
            obtain ⟨ta0, ta1, qa0, qa1⟩ := blk2 RA.out
            obtain ⟨tb0, tb1, qb0, qb1⟩ := blk2 RB.out
            refine hK.out _ _ ?_ (fun hH4 => ?_)
            · exact HKP.out _ XB
            clear hK K hH3
            (try simp only [Act.put, List.setIfInBounds_toArray, List.set_cons_zero, List.set_cons_succ])
            refine wpAnyH_ready (rs := [6]) (by kernel_rfl) (by simp) ?_
            refine (AllReadyH.cons (o := ({ dst := none, op := Op.store 34 (Operand.tmp 5) (Operand.tmp 11), type := 0, pos := "ref.go:236", after := #[{ on := 4, ground := Ground.data }, { on := 1, ground := Ground.data }, { on := 3, ground := Ground.chain }, { on := 0, ground := Ground.phase }, { on := 1, ground := Ground.phase }, { on := 2, ground := Ground.textOnly Departure.lateStores }, { on := 3, ground := Ground.textOnly Departure.lateStoresUnsure }, { on := 4, ground := Ground.phase }, { on := 5, ground := Ground.phase }], guard := none } : Oper)) rfl (fun K hK => ?_) AllReadyH.nil)
            go_simp
            clear ta0 ta1 qa0 qa1
            clear tb0 tb1 qb0 qb1
            obtain ⟨u5, hu⟩ : ∃ u, u = (u4.setCell ⟨bA, 0, none⟩ (.bool nA)).setCell ⟨bA, 1, none⟩ (.slice aA kA cA) := ⟨_, rfl⟩
            have BA := Lib.hid (show RBox u5 bA _ _ _ _ _ _ from by rw [hu]; exact RBox.put IA.out RA.out)
            have xb : Below w1.heap.size w1 u5 := by rw [hu]; exact (XB.setCell (p := ⟨bA, 0, none⟩) hsA _).setCell (p := ⟨bA, 1, none⟩) hsA _
            replace IB := Lib.hid (show RefAt u5 _ _ _ _ _ _ from by rw [hu]; exact IB.out.stored RA.out _ _)
            replace RB := Lib.hid (show u5.heap[bB]? = some (.cells #[.bool false, .slice none 0 0] 34 (0, 0)) from by rw [hu, Below.heap_setCell _ _ _ _ hAB.symm, Below.heap_setCell _ _ _ _ hAB.symm]; exact RB.out)
            rw [← hu]
            clear hu IA RA XB
            have XB := xb
            clear xb
            obtain ⟨tb0, tb1, qb0, qb1⟩ := blk2 RB.out
            refine hK.out _ _ ?_ (fun hH5 => ?_)
            · exact HKP.out _ XB
            clear hK K hH4
            (try simp only [Act.put, List.setIfInBounds_toArray, List.set_cons_zero, List.set_cons_succ])
            refine wpAnyH_ready (rs := [7]) (by kernel_rfl) (by simp) ?_
            refine (AllReadyH.cons (o := ({ dst := none, op := Op.store 34 (Operand.tmp 6) (Operand.tmp 13), type := 0, pos := "ref.go:236", after := #[{ on := 5, ground := Ground.data }, { on := 3, ground := Ground.data }, { on := 6, ground := Ground.chain }, { on := 0, ground := Ground.phase }, { on := 1, ground := Ground.phase }, { on := 2, ground := Ground.phase }, { on := 3, ground := Ground.phase }, { on := 4, ground := Ground.phase }, { on := 5, ground := Ground.phase }, { on := 6, ground := Ground.phase }], guard := none } : Oper)) rfl (fun K hK => ?_) AllReadyH.nil)
            go_simp
            clear tb0 tb1 qb0 qb1
            obtain ⟨u6, hu⟩ : ∃ u, u = (u5.setCell ⟨bB, 0, none⟩ (.bool nB)).setCell ⟨bB, 1, none⟩ (.slice aB kB cB) := ⟨_, rfl⟩
            have BB := Lib.hid (show RBox u6 bB _ _ _ _ _ _ from by rw [hu]; exact RBox.put IB.out RB.out)
            have xb : Below w1.heap.size w1 u6 := by rw [hu]; exact (XB.setCell (p := ⟨bB, 0, none⟩) hsB _).setCell (p := ⟨bB, 1, none⟩) hsB _
            replace BA := Lib.hid (show RBox u6 bA _ _ _ _ _ _ from by rw [hu]; exact BA.out.other RB.out hAB _ _)
            rw [← hu]
            clear hu IB RB XB
            have XB := xb
            clear xb
            refine hK.out _ _ ?_ (fun hH6 => ?_)
            · exact HKP.out _ XB
            clear hK K hH5
            (try simp only [Act.put, List.setIfInBounds_toArray, List.set_cons_zero, List.set_cons_succ])
            refine wpAnyH_done (by kernel_rfl) ?_ _
            refine NoPanic.normal ?_
            go_wp2
            go_meet
            exact ⟨bA, bB, rfl, rfl, hsA, hsB, hAB, _, _, _, _, _, _, _, _, _, _, _, BA.out, BB.out, HG.out, by omega, by omega, XB⟩
        · go_simp
          clear tb0 tb1 qb0 qb1
          obtain ⟨u2, hu⟩ : ∃ u, u = u1.alloc (.cells #[.bool false, .slice none 0 0] 34) := ⟨_, rfl⟩
          obtain ⟨bA, hbA⟩ : ∃ b, b = u1.heap.size := ⟨_, rfl⟩
          have ub : Below u1.heap.size u1 u2 := by rw [hu]; go_grown
          have rA : u2.heap[bA]? = some (.cells #[.bool false, .slice none 0 0] 34 (0, 0)) := by rw [hu, hbA]; exact heap_alloc_new u1 _
          have hsA : w1.heap.size ≤ bA := by rw [hbA]; exact XB.size
          have hAB : bA ≠ bB := by have := (Array.getElem?_eq_some_iff.1 RB.out).1; omega
          replace RB := Lib.hid ((ub.block _ (Array.getElem?_eq_some_iff.1 RB.out).1).trans RB.out)
          have RA := Lib.hid rA
          replace XB := XB.trans (ub.mono XB.size)
          rw [← hu, ← hbA]
          clear hu hbA rA ub
          obtain ⟨ta0, ta1, qa0, qa1⟩ := blk2 RA.out
          obtain ⟨tb0, tb1, qb0, qb1⟩ := blk2 RB.out
          refine hK.out _ _ ?_ (fun hH2 => ?_)
          · exact HKP.out _ XB
          clear hK K hH1
          (try simp only [Act.put, List.setIfInBounds_toArray, List.set_cons_zero, List.set_cons_succ])
          refine wpAnyH_ready (rs := [1]) (by kernel_rfl) (by simp) ?_
          refine (AllReadyH.cons (o := ({ dst := some 11, op := Op.call { callee := Callee.value (Operand.func 29), args := #[Operand.tmp 10], argTypes := #[34] }, type := 34, pos := "ref.go:236", after := #[{ on := 0, ground := Ground.data }], guard := none } : Oper)) rfl (fun K hK => ?_) AllReadyH.nil)
          go_simp
          clear ta0 ta1 qa0 qa1
          clear tb0 tb1 qb0 qb1
          refine (rabs_any _ nx ao n capa xs x (HX1.out.below XB)).mono ?_
          rintro e u3 ⟨nA, aA, kA, cA, zA, rfl, iA, gA, ub⟩
          replace RA := Lib.hid ((ub.block _ (Array.getElem?_eq_some_iff.1 RA.out).1).trans RA.out)
          replace RB := Lib.hid ((ub.block _ (Array.getElem?_eq_some_iff.1 RB.out).1).trans RB.out)
          have IA := Lib.hid iA
          replace XB := XB.trans (ub.mono XB.size)
          clear iA ub
          obtain ⟨ta0, ta1, qa0, qa1⟩ := blk2 RA.out
          obtain ⟨tb0, tb1, qb0, qb1⟩ := blk2 RB.out
          refine hK.out _ _ ?_ (fun hH3 => ?_)
          · exact HKP.out _ XB
          clear hK K hH2
          (try simp only [Act.put, List.setIfInBounds_toArray, List.set_cons_zero, List.set_cons_succ])
          refine wpAnyH_ready (rs := [3]) (by kernel_rfl) (by simp) ?_
          refine (AllReadyH.cons (o := ({ dst := some 13, op := Op.call { callee := Callee.value (Operand.func 29), args := #[Operand.tmp 12], argTypes := #[34] }, type := 34, pos := "ref.go:236", after := #[{ on := 2, ground := Ground.data }, { on := 1, ground := Ground.chain }], guard := none } : Oper)) rfl (fun K hK => ?_) AllReadyH.nil)
          go_simp
          clear ta0 ta1 qa0 qa1
          clear tb0 tb1 qb0 qb1
          refine (rabs_any _ ny bo m capb ys y (HY1.out.below XB)).mono ?_
          rintro e u4 ⟨nB, aB, kB, cB, zB, rfl, iB, gB, ub⟩
          replace IA := Lib.hid (IA.out.below ub)
          replace RA := Lib.hid ((ub.block _ (Array.getElem?_eq_some_iff.1 RA.out).1).trans RA.out)
          replace RB := Lib.hid ((ub.block _ (Array.getElem?_eq_some_iff.1 RB.out).1).trans RB.out)
          have IB := Lib.hid iB
          replace XB := XB.trans (ub.mono XB.size)
          clear iB ub
          obtain ⟨ta0, ta1, qa0, qa1⟩ := blk2 RA.out
          obtain ⟨tb0, tb1, qb0, qb1⟩ := blk2 RB.out
          refine hK.out _ _ ?_ (fun hH4 => ?_)
          · exact HKP.out _ XB
          clear hK K hH3
          (try simp only [Act.put, List.setIfInBounds_toArray, List.set_cons_zero, List.set_cons_succ])
          refine wpAnyH_ready (rs := [6]) (by kernel_rfl) (by simp) ?_
          refine (AllReadyH.cons (o := ({ dst := none, op := Op.store 34 (Operand.tmp 5) (Operand.tmp 11), type := 0, pos := "ref.go:236", after := #[{ on := 4, ground := Ground.data }, { on := 1, ground := Ground.data }, { on := 3, ground := Ground.chain }, { on := 0, ground := Ground.phase }, { on := 1, ground := Ground.phase }, { on := 2, ground := Ground.textOnly Departure.lateStores }, { on := 3, ground := Ground.textOnly Departure.lateStoresUnsure }, { on := 4, ground := Ground.phase }, { on := 5, ground := Ground.phase }], guard := none } : Oper)) rfl (fun K hK => ?_) AllReadyH.nil)
          go_simp
          clear ta0 ta1 qa0 qa1
          clear tb0 tb1 qb0 qb1
          obtain ⟨u5, hu⟩ : ∃ u, u = (u4.setCell ⟨bA, 0, none⟩ (.bool nA)).setCell ⟨bA, 1, none⟩ (.slice aA kA cA) := ⟨_, rfl⟩
          have BA := Lib.hid (show RBox u5 bA _ _ _ _ _ _ from by rw [hu]; exact RBox.put IA.out RA.out)
          have xb : Below w1.heap.size w1 u5 := by rw [hu]; exact (XB.setCell (p := ⟨bA, 0, none⟩) hsA _).setCell (p := ⟨bA, 1, none⟩) hsA _
          replace IB := Lib.hid (show RefAt u5 _ _ _ _ _ _ from by rw [hu]; exact IB.out.stored RA.out _ _)
          replace RB := Lib.hid (show u5.heap[bB]? = some (.cells #[.bool false, .slice none 0 0] 34 (0, 0)) from by rw [hu, Below.heap_setCell _ _ _ _ hAB.symm, Below.heap_setCell _ _ _ _ hAB.symm]; exact RB.out)
          rw [← hu]
          clear hu IA RA XB
          have XB := xb
          clear xb
          obtain ⟨tb0, tb1, qb0, qb1⟩ := blk2 RB.out
          refine hK.out _ _ ?_ (fun hH5 => ?_)
          · exact HKP.out _ XB
          clear hK K hH4
          (try simp only [Act.put, List.setIfInBounds_toArray, List.set_cons_zero, List.set_cons_succ])
          refine wpAnyH_ready (rs := [7]) (by kernel_rfl) (by simp) ?_
          refine (AllReadyH.cons (o := ({ dst := none, op := Op.store 34 (Operand.tmp 6) (Operand.tmp 13), type := 0, pos := "ref.go:236", after := #[{ on := 5, ground := Ground.data }, { on := 3, ground := Ground.data }, { on := 6, ground := Ground.chain }, { on := 0, ground := Ground.phase }, { on := 1, ground := Ground.phase }, { on := 2, ground := Ground.phase }, { on := 3, ground := Ground.phase }, { on := 4, ground := Ground.phase }, { on := 5, ground := Ground.phase }, { on := 6, ground := Ground.phase }], guard := none } : Oper)) rfl (fun K hK => ?_) AllReadyH.nil)
          go_simp
          clear tb0 tb1 qb0 qb1
          obtain ⟨u6, hu⟩ : ∃ u, u = (u5.setCell ⟨bB, 0, none⟩ (.bool nB)).setCell ⟨bB, 1, none⟩ (.slice aB kB cB) := ⟨_, rfl⟩
          have BB := Lib.hid (show RBox u6 bB _ _ _ _ _ _ from by rw [hu]; exact RBox.put IB.out RB.out)
          have xb : Below w1.heap.size w1 u6 := by rw [hu]; exact (XB.setCell (p := ⟨bB, 0, none⟩) hsB _).setCell (p := ⟨bB, 1, none⟩) hsB _
          replace BA := Lib.hid (show RBox u6 bA _ _ _ _ _ _ from by rw [hu]; exact BA.out.other RB.out hAB _ _)
          rw [← hu]
          clear hu IB RB XB
          have XB := xb
          clear xb
          refine hK.out _ _ ?_ (fun hH6 => ?_)
          · exact HKP.out _ XB
          clear hK K hH5
          (try simp only [Act.put, List.setIfInBounds_toArray, List.set_cons_zero, List.set_cons_succ])
          refine wpAnyH_done (by kernel_rfl) ?_ _
          refine NoPanic.normal ?_
          go_wp2
          go_meet
          exact ⟨bA, bB, rfl, rfl, hsA, hsB, hAB, _, _, _, _, _, _, _, _, _, _, _, BA.out, BB.out, HG.out, by omega, by omega, XB⟩
  case rest =>
    obtain ⟨bA, bB, rfl, rfl, hsA, hsB, hAB, hD⟩ := hcut
    rename World => wa
    have HD := Lib.hid hD
    clear hD HKP x0 x1 y0 y1
    go_wp2_with fail
    go_loopg [7, 8, 9] y.natAbs (fun gk _ _ _ wr => GcdAt w1 bA bB G K gk wr)
    case atStart => exact HD.out
    case round =>
      obtain ⟨A, nA, aA, kA, cA, zA, nB, aB, kB, cB, zB, hA, hB, hg, hkA, hkB, hbel⟩ := hrel
      obtain ⟨a0, a1', -, -⟩ := blk2 hA.row
      obtain ⟨b0, b1', -, -⟩ := blk2 hB.row
      have BA := Lib.hid hA
      have BB := Lib.hid hB
      have HGG := Lib.hid hg
      have HBL := Lib.hid hbel
      clear hA hB hg hbel HD
      rcases Nat.eq_zero_or_pos gk with h0 | h0
      · have HS : Hid (Calls Tryz.prog 77 #[.agg #[.bool nB, .slice aB kB cB]] wr (RetV wr (.int .i64 0))) := Lib.hid (by
          have := rsign_any wr nB aB kB cB zB _ BB.out.it
          rwa [cmpI_eq (by omega)] at this)
        have hAG : A = G := by have := HGG.out; rw [h0] at this; simpa using this
        have HAG := Lib.hid hAG
        clear h0 hAG
        go_wp2_with fail
        refine HS.out.mono ?_
        rintro e v1 ⟨rfl, u1⟩
        have HB1 := Lib.hid (HBL.out.trans (u1.mono HBL.out.size))
        have row := (HB1.out.block _ hl2).trans R2.out
        replace BA := Lib.hid (BA.out.below u1)
        obtain ⟨t0, t1, q0, q1⟩ := blk2 row
        obtain ⟨c0, c1, -, -⟩ := blk2 BA.out.row
        have HI := Lib.hid (BA.out.it.stored row (.bool nA) (.slice aA kA cA))
        rw [HAG.out] at HI
        clear a0 a1' b0 b1' u1 row HAG
        go_wp2_with fail
        refine bodyPost_ret (v := .agg #[.bool nA, .slice aA kA cA]) (by simp [results, Tryz.results80, go_sem, t0, t1]) rfl ?_
        exact ⟨_, _, _, _, _, rfl, HI.out, hkA, ((HBW.out.trans (HB1.out.mono HBW.out.size)).setCell (p := ⟨p + 1 + 1, 0, none⟩) (by have := HP.out; dsimp only; omega) _).setCell (p := ⟨p + 1 + 1, 1, none⟩) (by have := HP.out; dsimp only; omega) _⟩
      · have HS : Hid (Calls Tryz.prog 77 #[.agg #[.bool nB, .slice aB kB cB]] wr (RetV wr (.int .i64 1))) := Lib.hid (by
          have := rsign_any wr nB aB kB cB zB _ BB.out.it
          rwa [cmpI_gt (by omega)] at this)
        have HPOS := Lib.hid h0
        clear h0
        go_wp2_with fail
        refine HS.out.mono ?_
        rintro e v1 ⟨rfl, u1⟩
        have HB1 := Lib.hid (HBL.out.trans (u1.mono HBL.out.size))
        replace BA := Lib.hid (BA.out.below u1)
        replace BB := Lib.hid (BB.out.below u1)
        clear a0 a1' b0 b1' u1 HBL HS
        obtain ⟨a0, a1', -, -⟩ := blk2 BA.out.row
        obtain ⟨b0, b1', -, -⟩ := blk2 BB.out.row
        go_wp2_with fail
        refine (rdivide_any v1 nA nB aA aB kA kB cA cB zA zB (A : Int) (gk : Int) BA.out.it BB.out.it (by omega) (by omega) (by have := HPOS.out; omega)).mono ?_
        rintro e v2 ⟨n1, a1, k1, c1, z1, n2, a2, k2, c2, z2, rfl, i1, i2, g1, g2, u2⟩
        have HB2 := Lib.hid (HB1.out.trans (u2.mono HB1.out.size))
        replace BA := Lib.hid (BA.out.below u2)
        replace BB := Lib.hid (BB.out.below u2)
        have I2 := Lib.hid (show RefAt v2 n2 a2 k2 c2 z2 ((A % gk : Nat) : Int) from by have h : Int.tmod (A : Int) (gk : Int) = ((A % gk : Nat) : Int) := rfl; rw [h] at i2; exact i2)
        have hk2 : k2 ≤ kB := I2.out.len_le (by
          have h1 := BB.out.it.lt_pow
          have h2 := Nat.mod_lt A HPOS.out
          obtain ⟨P, hP⟩ : ∃ P : Int, (65536 : Int) ^ kB = P := ⟨_, rfl⟩
          rw [hP] at h1 ⊢
          omega)
        clear a0 a1' b0 b1' u2 i1 i2 HB1
        obtain ⟨a0, a1', -, -⟩ := blk2 BA.out.row
        obtain ⟨b0, b1', -, -⟩ := blk2 BB.out.row
        go_wp2_with fail
        obtain ⟨v3, hv3⟩ : ∃ v3, v3 = (v2.alloc (.cells #[.bool n1, .slice a1 k1 c1] 34)).alloc (.cells #[.bool n2, .slice a2 k2 c2] 34) := ⟨_, rfl⟩
        obtain ⟨bR, hbR⟩ : ∃ b, b = v2.heap.size + 1 := ⟨_, rfl⟩
        have u3 : Below v2.heap.size v2 v3 := by rw [hv3]; go_grown
        have BR := Lib.hid (show RBox v3 bR n2 a2 k2 c2 z2 ((A % gk : Nat) : Int) from ⟨by rw [hv3, hbR]; have := heap_alloc_new (v2.alloc (.cells #[.bool n1, .slice a1 k1 c1] 34)) (.cells #[.bool n2, .slice a2 k2 c2] 34); simpa using this, I2.out.below u3⟩)
        have hRA : bR ≠ bA := by have := (Array.getElem?_eq_some_iff.1 BA.out.row).1; omega
        have hRB : bR ≠ bB := by have := (Array.getElem?_eq_some_iff.1 BB.out.row).1; omega
        rw [← hv3, ← hbR]
        have HB3 := Lib.hid (HB2.out.trans (u3.mono HB2.out.size))
        replace BA := Lib.hid (BA.out.below u3)
        replace BB := Lib.hid (BB.out.below u3)
        clear a0 a1' b0 b1' hv3 hbR u3 I2 HB2
        obtain ⟨a0, a1', qa0, qa1⟩ := blk2 BA.out.row
        obtain ⟨b0, b1', qb0, qb1⟩ := blk2 BB.out.row
        obtain ⟨d0, d1, -, -⟩ := blk2 BR.out.row
        go_region
        have hrB : ((v3.setCell ⟨bA, 0, none⟩ (.bool nB)).setCell ⟨bA, 1, none⟩ (.slice aB kB cB)).heap[bB]? = some (.cells #[.bool nB, .slice aB kB cB] 34 (0, 0)) := by rw [Below.heap_setCell _ _ _ _ (Ne.symm hAB), Below.heap_setCell _ _ _ _ (Ne.symm hAB)]; exact BB.out.row
        have BA4 := (RBox.put BB.out.it BA.out.row).other hrB hAB (.bool n2) (.slice a2 k2 c2)
        have BB4 := RBox.put (BR.out.it.stored BA.out.row (.bool nB) (.slice aB kB cB)) hrB
        have HB4 := ((((HB3.out.setCell (p := ⟨bA, 0, none⟩) hsA (.bool nB)).setCell (p := ⟨bA, 1, none⟩) hsA (.slice aB kB cB)).setCell (p := ⟨bB, 0, none⟩) hsB (.bool n2)).setCell (p := ⟨bB, 1, none⟩) hsB (.slice a2 k2 c2)).drew
        have HR := Lib.hid (show GcdAt w1 bA bB G K (A % gk) _ from ⟨gk, nB, aB, kB, cB, zB, n2, a2, k2, c2, z2, BA4.below (Below.refl _ _).drew, BB4.below (Below.refl _ _).drew, by rw [Nat.gcd_comm, ← Nat.gcd_rec, Nat.gcd_comm]; exact HGG.out, hkB, by omega, HB4⟩)
        have hlt : A % gk < gk := Nat.mod_lt A HPOS.out
        clear a0 a1' b0 b1' qa0 qa1 qb0 qb1 d0 d1 hrB BA4 BB4 HB4 BA BB BR HB3
        go_wp2_with fail
        go_roundg (A % gk)
        case measure => exact hlt
        case rel => exact HR.out
end Go.Proofs.YtdfepdhflnnjpaaGreat
