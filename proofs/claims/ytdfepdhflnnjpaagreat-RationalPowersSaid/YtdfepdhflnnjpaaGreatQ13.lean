/- Contract of three elements. -/
import Derived.Test.YtdfepdhflnnjpaaGreatQ12a
namespace Go.Proofs.YtdfepdhflnnjpaaGreat
open Go.RowKit
set_option autoImplicit false
set_option linter.unusedVariables false

/-- The two blocks of Contract's loop. -/
def CF (W : World) (bA bB : Nat) (N D : Int) (K M : Nat) (w : World) : Prop :=
  ∃ nA aA kA cA zA nB aB kB cB zB, IBox w bA nA aA kA cA zA N ∧ IBox w bB nB aB kB cB zB D ∧ kA ≤ K ∧ kB ≤ M ∧ Below W.heap.size W w

def CFR (W : World) (bA bB : Nat) (x0 x1 x2 : Int) (i : Value) (wr : World) : Prop :=
  (i = .int .i64 1 ∧ CF W bA bB x2 1 10 2 wr) ∨ (i = .int .i64 0 ∧ CF W bA bB (x1 * x2 + 1) x2 21 10 wr) ∨ (i = .int .i64 (-1) ∧ CF W bA bB (x0 * (x1 * x2 + 1) + x2) (x1 * x2 + 1) 40 21 wr)

set_option maxRecDepth 100000 in
set_option maxHeartbeats 8000000 in
theorem contract3 (w : World) (b cap : Nat) (s0 : Bool) (a0 : Option Addr) (m0 k0 : Nat) (z0 : List Int) (x0 : Int) (s1 : Bool) (a1 : Option Addr) (m1 k1 : Nat) (z1 : List Int) (x1 : Int) (nA : Bool) (aA : Option Addr) (kA cA : Nat) (zA : List Int) (x2 : Int)
    (h : Row3 w b s0 a0 m0 k0 z0 x0 s1 a1 m1 k1 z1 x1 nA aA kA cA zA x2) (h0 : m0 ≤ 10) (h1 : m1 ≤ 10) (h2 : kA ≤ 10) (hcap : 3 ≤ cap) (hx2 : x2 ≠ 0) (hx1 : x1 * x2 + 1 ≠ 0) (hlow : Low (x0 * (x1 * x2 + 1) + x2) (x1 * x2 + 1)) :
    Calls Tryz.prog 52 #[.slice (some ⟨b, 0, none⟩) 3 cap] w (RetRatE w (x0 * (x1 * x2 + 1) + x2) (x1 * x2 + 1) 100 100 0) := by
  have H := Lib.hid h
  have HL := Lib.hid hlow
  clear h hlow
  go_enter Tryz.func52, Tryz.ntmps52
  go_upto_region 3 with (fail)
  obtain ⟨w1, hw1⟩ : ∃ w1, w1 = w.alloc (.cells #[.bool false, .slice none 0 0, .bool false, .slice none 0 0] 38) := ⟨_, rfl⟩
  have hbw : Below w.heap.size w w1 := by rw [hw1]; go_grown
  have r0 : w1.heap[w.heap.size]? = some (.cells #[.bool false, .slice none 0 0, .bool false, .slice none 0 0] 38 (0, 0)) := by rw [hw1]; exact heap_alloc_new w _
  rw [← hw1]
  clear hw1
  obtain ⟨P, hP⟩ : ∃ P, P = w.heap.size := ⟨_, rfl⟩
  rw [← hP] at r0 ⊢
  have HP := Lib.hid hP
  have R0 := Lib.hid r0
  have HB := Lib.hid hbw
  replace H := Lib.hid (H.out.below hbw)
  have IA := Lib.hid H.out.i2
  have HKP : Hid (∀ w', Below w1.heap.size w1 w' → w'.cell? ⟨b, 4, none⟩ = some (.bool nA) ∧ w'.cell? ⟨b, 5, none⟩ = some (.slice aA kA cA)) := Lib.hid (fun w' hb => ⟨(hb.cell (p := ⟨b, 4, none⟩) H.out.lt).trans H.out.c4, (hb.cell (p := ⟨b, 5, none⟩) H.out.lt).trans H.out.c5⟩)
  clear hP r0 hbw
  have hwr2 : IntKind.i64.wrap 2 = 2 := by decide
  have hwr1 : IntKind.i64.wrap 1 = 1 := by decide
  have hwr0 : IntKind.i64.wrap 0 = 0 := by decide
  go_cut [4, 5] (fun pa pb wx => ∃ bA bB : Nat, pa = .pointer (some ⟨bA, 0, none⟩) ∧ pb = .pointer (some ⟨bB, 0, none⟩) ∧ w1.heap.size ≤ bA ∧ w1.heap.size ≤ bB ∧ bA ≠ bB ∧ ∃ nA aA kA' cA zA nB aB kB cB zB, IBox wx bA nA aA kA' cA zA x2 ∧ IBox wx bB nB aB kB cB zB 1 ∧ kA' ≤ 10 ∧ kB ≤ 2 ∧ Below w1.heap.size w1 wx)
  case first =>
    as_aux_lemma =>
    refine wp_region_noPanic ?_
    refine wp_region_held_drew (S := (fun w' => w'.cell? ⟨b, 4, none⟩ = some (.bool nA) ∧ w'.cell? ⟨b, 5, none⟩ = some (.slice aA kA cA))) (by kernel_rfl) ?_ (fun hH0 => ?_)
    · exact HKP.out _ (Below.refl _ _).drew
    refine wpAnyH_take (i := 0) (oi := ({ dst := some 11, op := Op.move (Operand.tmp 0), type := 78, pos := "continued.go:38", after := #[], guard := none } : Oper)) (v := ?_) rfl (by kernel_rfl) (by kernel_rfl) (by kernel_rfl) (fun _ _ _ h => h) (Or.inl ⟨by rfl, ?_⟩) (by assumption) ?_
    rotate_left
    · (intro w hSw; (try dsimp only at hSw); go_simp; try with_reducible rfl)
    (try simp only [Act.put, List.setIfInBounds_toArray, List.set_cons_zero, List.set_cons_succ])
    refine wpAnyH_take (i := 1) (oi := ({ dst := some 12, op := Op.move (Operand.tmp 0), type := 78, pos := "continued.go:38", after := #[], guard := none } : Oper)) (v := ?_) rfl (by kernel_rfl) (by kernel_rfl) (by kernel_rfl) (fun _ _ _ h => h) (Or.inl ⟨by rfl, ?_⟩) (by assumption) ?_
    rotate_left
    · (intro w hSw; (try dsimp only at hSw); go_simp; try with_reducible rfl)
    (try simp only [Act.put, List.setIfInBounds_toArray, List.set_cons_zero, List.set_cons_succ])
    refine wpAnyH_take (i := 2) (oi := ({ dst := some 13, op := Op.call { callee := Callee.builtin Builtin.len, args := #[Operand.tmp 12], argTypes := #[78] }, type := 3, pos := "continued.go:38", after := #[{ on := 1, ground := Ground.data }], guard := none } : Oper)) (v := ?_) rfl (by kernel_rfl) (by kernel_rfl) (by kernel_rfl) (fun _ _ _ h => h) (Or.inl ⟨by rfl, ?_⟩) (by assumption) ?_
    rotate_left
    · (intro w hSw; (try dsimp only at hSw); go_simp; try with_reducible rfl)
    (try simp only [Act.put, List.setIfInBounds_toArray, List.set_cons_zero, List.set_cons_succ])
    refine wpAnyH_take (i := 3) (oi := ({ dst := some 14, op := Op.binOp BinOp.sub 3 (Operand.tmp 13) (Operand.const (Value.int IntKind.i64 1)) 3, type := 3, pos := "continued.go:38", after := #[{ on := 2, ground := Ground.data }], guard := none } : Oper)) (v := ?_) rfl (by kernel_rfl) (by kernel_rfl) (by kernel_rfl) (fun _ _ _ h => h) (Or.inl ⟨by rfl, ?_⟩) (by assumption) ?_
    rotate_left
    · (intro w hSw; (try dsimp only at hSw); go_simp; try with_reducible rfl)
    (try simp only [Act.put, List.setIfInBounds_toArray, List.set_cons_zero, List.set_cons_succ])
    refine wpAnyH_take (i := 4) (oi := ({ dst := some 15, op := Op.indexAddr 78 (Operand.tmp 11) (Operand.tmp 14), type := 0, pos := "continued.go:38", after := #[{ on := 0, ground := Ground.data }, { on := 3, ground := Ground.data }], guard := none } : Oper)) (v := ?_) rfl (by kernel_rfl) (by kernel_rfl) (by kernel_rfl) (fun _ _ _ h => h) (Or.inl ⟨by rfl, ?_⟩) (by assumption) ?_
    rotate_left
    · (intro w hSw; (try dsimp only at hSw); go_simp; try with_reducible rfl)
    (try simp only [Act.put, List.setIfInBounds_toArray, List.set_cons_zero, List.set_cons_succ])
    refine wpAnyH_take (i := 5) (oi := ({ dst := some 16, op := Op.load 31 (Operand.tmp 15), type := 31, pos := "continued.go:38", after := #[{ on := 4, ground := Ground.data }], guard := none } : Oper)) (v := ?_) rfl (by kernel_rfl) (by kernel_rfl) (by kernel_rfl) (fun _ _ _ h => h) (Or.inl ⟨by rfl, ?_⟩) (by assumption) ?_
    rotate_left
    · (intro w hSw; (try dsimp only at hSw); go_simp; try with_reducible rfl)
    (try simp only [Act.put, List.setIfInBounds_toArray, List.set_cons_zero, List.set_cons_succ])
    refine wpAnyH_ready (rs := [6, 7, 8]) (by kernel_rfl) (by simp) ?_
    refine (AllReadyH.cons (o := ({ dst := some 17, op := Op.call { callee := Callee.value (Operand.func 65), args := #[Operand.const (Value.int IntKind.i64 1)], argTypes := #[2] }, type := 31, pos := "continued.go:38", after := #[], guard := none } : Oper)) rfl (fun K hK => ?_) (AllReadyH.cons (o := ({ dst := some 4, op := Op.alloc 31, type := 0, pos := "continued.go:38", after := #[], guard := none } : Oper)) rfl (fun K hK => ?_) (AllReadyH.cons (o := ({ dst := some 5, op := Op.alloc 31, type := 0, pos := "continued.go:38", after := #[], guard := none } : Oper)) rfl (fun K hK => ?_) AllReadyH.nil)))
    · go_simp
      refine (new_int _ 1 (by omega) (by omega)).mono ?_
      rintro e u1 ⟨nB, aB, kB, cB, zB, rfl, iB, gB, ub⟩
      replace IA := Lib.hid (IA.out.below (Below.refl _ _).drew)
      replace IA := Lib.hid (IA.out.below ub)
      have IB := Lib.hid iB
      have XB : Below w1.heap.size w1 u1 := (Below.refl _ _).drew.trans ub
      clear iB ub
      refine hK.out _ _ ?_ (fun hH1 => ?_)
      · exact HKP.out _ XB
      clear hK K hH0
      (try simp only [Act.put, List.setIfInBounds_toArray, List.set_cons_zero, List.set_cons_succ])
      refine wpAnyH_ready (rs := [7, 8]) (by kernel_rfl) (by simp) ?_
      refine (AllReadyH.cons (o := ({ dst := some 4, op := Op.alloc 31, type := 0, pos := "continued.go:38", after := #[], guard := none } : Oper)) rfl (fun K hK => ?_) (AllReadyH.cons (o := ({ dst := some 5, op := Op.alloc 31, type := 0, pos := "continued.go:38", after := #[], guard := none } : Oper)) rfl (fun K hK => ?_) AllReadyH.nil))
      · go_simp
        obtain ⟨u2, hu⟩ : ∃ u, u = u1.alloc (.cells #[.bool false, .slice none 0 0] 31) := ⟨_, rfl⟩
        obtain ⟨bA, hbA⟩ : ∃ b, b = u1.heap.size := ⟨_, rfl⟩
        have ub : Below u1.heap.size u1 u2 := by rw [hu]; go_grown
        have rA : u2.heap[bA]? = some (.cells #[.bool false, .slice none 0 0] 31 (0, 0)) := by rw [hu, hbA]; exact heap_alloc_new u1 _
        have hsA : w1.heap.size ≤ bA := by rw [hbA]; exact XB.size
        replace IA := Lib.hid (IA.out.below ub)
        replace IB := Lib.hid (IB.out.below ub)
        have RA := Lib.hid rA
        replace XB := XB.trans (ub.mono XB.size)
        rw [← hu, ← hbA]
        clear hu hbA rA ub
        obtain ⟨ta0, ta1, qa0, qa1⟩ := blk2 RA.out
        refine hK.out _ _ ?_ (fun hH2 => ?_)
        · exact HKP.out _ XB
        clear hK K hH1
        (try simp only [Act.put, List.setIfInBounds_toArray, List.set_cons_zero, List.set_cons_succ])
        refine wpAnyH_ready (rs := [8]) (by kernel_rfl) (by simp) ?_
        refine (AllReadyH.cons (o := ({ dst := some 5, op := Op.alloc 31, type := 0, pos := "continued.go:38", after := #[], guard := none } : Oper)) rfl (fun K hK => ?_) AllReadyH.nil)
        go_simp
        clear ta0 ta1 qa0 qa1
        obtain ⟨u3, hu⟩ : ∃ u, u = u2.alloc (.cells #[.bool false, .slice none 0 0] 31) := ⟨_, rfl⟩
        obtain ⟨bB, hbB⟩ : ∃ b, b = u2.heap.size := ⟨_, rfl⟩
        have ub : Below u2.heap.size u2 u3 := by rw [hu]; go_grown
        have rB : u3.heap[bB]? = some (.cells #[.bool false, .slice none 0 0] 31 (0, 0)) := by rw [hu, hbB]; exact heap_alloc_new u2 _
        have hsB : w1.heap.size ≤ bB := by rw [hbB]; exact XB.size
        have hAB : bA ≠ bB := by have := (Array.getElem?_eq_some_iff.1 RA.out).1; omega
        replace IA := Lib.hid (IA.out.below ub)
        replace RA := Lib.hid ((ub.block _ (Array.getElem?_eq_some_iff.1 RA.out).1).trans RA.out)
        replace IB := Lib.hid (IB.out.below ub)
        have RB := Lib.hid rB
        replace XB := XB.trans (ub.mono XB.size)
        rw [← hu, ← hbB]
        clear hu hbB rB ub
        obtain ⟨ta0, ta1, qa0, qa1⟩ := blk2 RA.out
        obtain ⟨tb0, tb1, qb0, qb1⟩ := blk2 RB.out
        refine hK.out _ _ ?_ (fun hH3 => ?_)
        · exact HKP.out _ XB
        clear hK K hH2
        (try simp only [Act.put, List.setIfInBounds_toArray, List.set_cons_zero, List.set_cons_succ])
        refine wpAnyH_ready (rs := [9]) (by kernel_rfl) (by simp) ?_
        refine (AllReadyH.cons (o := ({ dst := none, op := Op.store 31 (Operand.tmp 4) (Operand.tmp 16), type := 0, pos := "continued.go:38", after := #[{ on := 7, ground := Ground.data }, { on := 5, ground := Ground.data }, { on := 6, ground := Ground.chain }, { on := 0, ground := Ground.phase }, { on := 1, ground := Ground.phase }, { on := 2, ground := Ground.phase }, { on := 3, ground := Ground.phase }, { on := 4, ground := Ground.phase }, { on := 5, ground := Ground.phase }, { on := 6, ground := Ground.textOnly Departure.lateStoresUnsure }, { on := 7, ground := Ground.phase }, { on := 8, ground := Ground.phase }], guard := none } : Oper)) rfl (fun K hK => ?_) AllReadyH.nil)
        go_simp
        clear ta0 ta1 qa0 qa1
        clear tb0 tb1 qb0 qb1
        obtain ⟨u4, hu⟩ : ∃ u, u = (u3.setCell ⟨bA, 0, none⟩ (.bool nA)).setCell ⟨bA, 1, none⟩ (.slice aA kA cA) := ⟨_, rfl⟩
        have BA := Lib.hid (show IBox u4 bA _ _ _ _ _ _ from by rw [hu]; exact IBox.put IA.out RA.out)
        have xb : Below w1.heap.size w1 u4 := by rw [hu]; exact (XB.setCell (p := ⟨bA, 0, none⟩) hsA _).setCell (p := ⟨bA, 1, none⟩) hsA _
        replace IB := Lib.hid (show IntAt u4 _ _ _ _ _ _ from by rw [hu]; exact IB.out.stored RA.out _ _)
        replace RB := Lib.hid (show u4.heap[bB]? = some (.cells #[.bool false, .slice none 0 0] 31 (0, 0)) from by rw [hu, Below.heap_setCell _ _ _ _ hAB.symm, Below.heap_setCell _ _ _ _ hAB.symm]; exact RB.out)
        rw [← hu]
        clear hu IA RA XB
        have XB := xb
        clear xb
        obtain ⟨tb0, tb1, qb0, qb1⟩ := blk2 RB.out
        refine hK.out _ _ ?_ (fun hH4 => ?_)
        · exact HKP.out _ XB
        clear hK K hH3
        (try simp only [Act.put, List.setIfInBounds_toArray, List.set_cons_zero, List.set_cons_succ])
        refine wpAnyH_ready (rs := [10]) (by kernel_rfl) (by simp) ?_
        refine (AllReadyH.cons (o := ({ dst := none, op := Op.store 31 (Operand.tmp 5) (Operand.tmp 17), type := 0, pos := "continued.go:38", after := #[{ on := 8, ground := Ground.data }, { on := 6, ground := Ground.data }, { on := 9, ground := Ground.chain }, { on := 0, ground := Ground.phase }, { on := 1, ground := Ground.phase }, { on := 2, ground := Ground.phase }, { on := 3, ground := Ground.phase }, { on := 4, ground := Ground.phase }, { on := 5, ground := Ground.phase }, { on := 6, ground := Ground.phase }, { on := 7, ground := Ground.phase }, { on := 8, ground := Ground.phase }, { on := 9, ground := Ground.phase }], guard := none } : Oper)) rfl (fun K hK => ?_) AllReadyH.nil)
        go_simp
        clear tb0 tb1 qb0 qb1
        obtain ⟨u5, hu⟩ : ∃ u, u = (u4.setCell ⟨bB, 0, none⟩ (.bool nB)).setCell ⟨bB, 1, none⟩ (.slice aB kB cB) := ⟨_, rfl⟩
        have BB := Lib.hid (show IBox u5 bB _ _ _ _ _ _ from by rw [hu]; exact IBox.put IB.out RB.out)
        have xb : Below w1.heap.size w1 u5 := by rw [hu]; exact (XB.setCell (p := ⟨bB, 0, none⟩) hsB _).setCell (p := ⟨bB, 1, none⟩) hsB _
        replace BA := Lib.hid (show IBox u5 bA _ _ _ _ _ _ from by rw [hu]; exact BA.out.other RB.out hAB _ _)
        rw [← hu]
        clear hu IB RB XB
        have XB := xb
        clear xb
        refine hK.out _ _ ?_ (fun hH5 => ?_)
        · exact HKP.out _ XB
        clear hK K hH4
        (try simp only [Act.put, List.setIfInBounds_toArray, List.set_cons_zero, List.set_cons_succ])
        refine wpAnyH_done (by kernel_rfl) ?_ _
        refine NoPanic.normal ?_
        go_wp2
        go_meet
        exact ⟨bA, bB, rfl, rfl, hsA, hsB, hAB, _, _, _, _, _, _, _, _, _, _, BA.out, BB.out, h2, gB, XB⟩
      · go_simp
        obtain ⟨u2, hu⟩ : ∃ u, u = u1.alloc (.cells #[.bool false, .slice none 0 0] 31) := ⟨_, rfl⟩
        obtain ⟨bB, hbB⟩ : ∃ b, b = u1.heap.size := ⟨_, rfl⟩
        have ub : Below u1.heap.size u1 u2 := by rw [hu]; go_grown
        have rB : u2.heap[bB]? = some (.cells #[.bool false, .slice none 0 0] 31 (0, 0)) := by rw [hu, hbB]; exact heap_alloc_new u1 _
        have hsB : w1.heap.size ≤ bB := by rw [hbB]; exact XB.size
        replace IA := Lib.hid (IA.out.below ub)
        replace IB := Lib.hid (IB.out.below ub)
        have RB := Lib.hid rB
        replace XB := XB.trans (ub.mono XB.size)
        rw [← hu, ← hbB]
        clear hu hbB rB ub
        obtain ⟨tb0, tb1, qb0, qb1⟩ := blk2 RB.out
        refine hK.out _ _ ?_ (fun hH2 => ?_)
        · exact HKP.out _ XB
        clear hK K hH1
        (try simp only [Act.put, List.setIfInBounds_toArray, List.set_cons_zero, List.set_cons_succ])
        refine wpAnyH_ready (rs := [7]) (by kernel_rfl) (by simp) ?_
        refine (AllReadyH.cons (o := ({ dst := some 4, op := Op.alloc 31, type := 0, pos := "continued.go:38", after := #[], guard := none } : Oper)) rfl (fun K hK => ?_) AllReadyH.nil)
        go_simp
        clear tb0 tb1 qb0 qb1
        obtain ⟨u3, hu⟩ : ∃ u, u = u2.alloc (.cells #[.bool false, .slice none 0 0] 31) := ⟨_, rfl⟩
        obtain ⟨bA, hbA⟩ : ∃ b, b = u2.heap.size := ⟨_, rfl⟩
        have ub : Below u2.heap.size u2 u3 := by rw [hu]; go_grown
        have rA : u3.heap[bA]? = some (.cells #[.bool false, .slice none 0 0] 31 (0, 0)) := by rw [hu, hbA]; exact heap_alloc_new u2 _
        have hsA : w1.heap.size ≤ bA := by rw [hbA]; exact XB.size
        have hAB : bA ≠ bB := by have := (Array.getElem?_eq_some_iff.1 RB.out).1; omega
        replace IA := Lib.hid (IA.out.below ub)
        replace IB := Lib.hid (IB.out.below ub)
        replace RB := Lib.hid ((ub.block _ (Array.getElem?_eq_some_iff.1 RB.out).1).trans RB.out)
        have RA := Lib.hid rA
        replace XB := XB.trans (ub.mono XB.size)
        rw [← hu, ← hbA]
        clear hu hbA rA ub
        obtain ⟨ta0, ta1, qa0, qa1⟩ := blk2 RA.out
        obtain ⟨tb0, tb1, qb0, qb1⟩ := blk2 RB.out
        refine hK.out _ _ ?_ (fun hH3 => ?_)
        · exact HKP.out _ XB
        clear hK K hH2
        (try simp only [Act.put, List.setIfInBounds_toArray, List.set_cons_zero, List.set_cons_succ])
        refine wpAnyH_ready (rs := [9]) (by kernel_rfl) (by simp) ?_
        refine (AllReadyH.cons (o := ({ dst := none, op := Op.store 31 (Operand.tmp 4) (Operand.tmp 16), type := 0, pos := "continued.go:38", after := #[{ on := 7, ground := Ground.data }, { on := 5, ground := Ground.data }, { on := 6, ground := Ground.chain }, { on := 0, ground := Ground.phase }, { on := 1, ground := Ground.phase }, { on := 2, ground := Ground.phase }, { on := 3, ground := Ground.phase }, { on := 4, ground := Ground.phase }, { on := 5, ground := Ground.phase }, { on := 6, ground := Ground.textOnly Departure.lateStoresUnsure }, { on := 7, ground := Ground.phase }, { on := 8, ground := Ground.phase }], guard := none } : Oper)) rfl (fun K hK => ?_) AllReadyH.nil)
        go_simp
        clear ta0 ta1 qa0 qa1
        clear tb0 tb1 qb0 qb1
        obtain ⟨u4, hu⟩ : ∃ u, u = (u3.setCell ⟨bA, 0, none⟩ (.bool nA)).setCell ⟨bA, 1, none⟩ (.slice aA kA cA) := ⟨_, rfl⟩
        have BA := Lib.hid (show IBox u4 bA _ _ _ _ _ _ from by rw [hu]; exact IBox.put IA.out RA.out)
        have xb : Below w1.heap.size w1 u4 := by rw [hu]; exact (XB.setCell (p := ⟨bA, 0, none⟩) hsA _).setCell (p := ⟨bA, 1, none⟩) hsA _
        replace IB := Lib.hid (show IntAt u4 _ _ _ _ _ _ from by rw [hu]; exact IB.out.stored RA.out _ _)
        replace RB := Lib.hid (show u4.heap[bB]? = some (.cells #[.bool false, .slice none 0 0] 31 (0, 0)) from by rw [hu, Below.heap_setCell _ _ _ _ hAB.symm, Below.heap_setCell _ _ _ _ hAB.symm]; exact RB.out)
        rw [← hu]
        clear hu IA RA XB
        have XB := xb
        clear xb
        obtain ⟨tb0, tb1, qb0, qb1⟩ := blk2 RB.out
        refine hK.out _ _ ?_ (fun hH4 => ?_)
        · exact HKP.out _ XB
        clear hK K hH3
        (try simp only [Act.put, List.setIfInBounds_toArray, List.set_cons_zero, List.set_cons_succ])
        refine wpAnyH_ready (rs := [10]) (by kernel_rfl) (by simp) ?_
        refine (AllReadyH.cons (o := ({ dst := none, op := Op.store 31 (Operand.tmp 5) (Operand.tmp 17), type := 0, pos := "continued.go:38", after := #[{ on := 8, ground := Ground.data }, { on := 6, ground := Ground.data }, { on := 9, ground := Ground.chain }, { on := 0, ground := Ground.phase }, { on := 1, ground := Ground.phase }, { on := 2, ground := Ground.phase }, { on := 3, ground := Ground.phase }, { on := 4, ground := Ground.phase }, { on := 5, ground := Ground.phase }, { on := 6, ground := Ground.phase }, { on := 7, ground := Ground.phase }, { on := 8, ground := Ground.phase }, { on := 9, ground := Ground.phase }], guard := none } : Oper)) rfl (fun K hK => ?_) AllReadyH.nil)
        go_simp
        clear tb0 tb1 qb0 qb1
        obtain ⟨u5, hu⟩ : ∃ u, u = (u4.setCell ⟨bB, 0, none⟩ (.bool nB)).setCell ⟨bB, 1, none⟩ (.slice aB kB cB) := ⟨_, rfl⟩
        have BB := Lib.hid (show IBox u5 bB _ _ _ _ _ _ from by rw [hu]; exact IBox.put IB.out RB.out)
        have xb : Below w1.heap.size w1 u5 := by rw [hu]; exact (XB.setCell (p := ⟨bB, 0, none⟩) hsB _).setCell (p := ⟨bB, 1, none⟩) hsB _
        replace BA := Lib.hid (show IBox u5 bA _ _ _ _ _ _ from by rw [hu]; exact BA.out.other RB.out hAB _ _)
        rw [← hu]
        clear hu IB RB XB
        have XB := xb
        clear xb
        refine hK.out _ _ ?_ (fun hH5 => ?_)
        · exact HKP.out _ XB
        clear hK K hH4
        (try simp only [Act.put, List.setIfInBounds_toArray, List.set_cons_zero, List.set_cons_succ])
        refine wpAnyH_done (by kernel_rfl) ?_ _
        refine NoPanic.normal ?_
        go_wp2
        go_meet
        exact ⟨bA, bB, rfl, rfl, hsA, hsB, hAB, _, _, _, _, _, _, _, _, _, _, BA.out, BB.out, h2, gB, XB⟩
    · go_simp
      obtain ⟨u1, hu⟩ : ∃ u, u = (w1.alloc (.cells #[.bool false, .slice none 0 0] 31)).drew := ⟨_, rfl⟩
      obtain ⟨bA, hbA⟩ : ∃ b, b = w1.heap.size := ⟨_, rfl⟩
      have ub : Below w1.heap.size w1 u1 := by rw [hu]; exact ((Below.refl _ _).alloc (Nat.le_refl _) _).drew
      have rA : u1.heap[bA]? = some (.cells #[.bool false, .slice none 0 0] 31 (0, 0)) := by rw [hu, hbA]; exact heap_alloc_new w1 _
      have hsA : w1.heap.size ≤ bA := by rw [hbA]; exact Nat.le_refl _
      replace IA := Lib.hid (IA.out.below ub)
      have RA := Lib.hid rA
      have XB : Below w1.heap.size w1 u1 := ub
      rw [← hu, ← hbA]
      clear hu hbA rA ub
      obtain ⟨ta0, ta1, qa0, qa1⟩ := blk2 RA.out
      refine hK.out _ _ ?_ (fun hH1 => ?_)
      · exact HKP.out _ XB
      clear hK K hH0
      (try simp only [Act.put, List.setIfInBounds_toArray, List.set_cons_zero, List.set_cons_succ])
      refine wpAnyH_ready (rs := [6, 8]) (by kernel_rfl) (by simp) ?_
      refine (AllReadyH.cons (o := ({ dst := some 17, op := Op.call { callee := Callee.value (Operand.func 65), args := #[Operand.const (Value.int IntKind.i64 1)], argTypes := #[2] }, type := 31, pos := "continued.go:38", after := #[], guard := none } : Oper)) rfl (fun K hK => ?_) (AllReadyH.cons (o := ({ dst := some 5, op := Op.alloc 31, type := 0, pos := "continued.go:38", after := #[], guard := none } : Oper)) rfl (fun K hK => ?_) AllReadyH.nil))
      · go_simp
        clear ta0 ta1 qa0 qa1
        refine (new_int _ 1 (by omega) (by omega)).mono ?_
        rintro e u2 ⟨nB, aB, kB, cB, zB, rfl, iB, gB, ub⟩
        replace IA := Lib.hid (IA.out.below ub)
        replace RA := Lib.hid ((ub.block _ (Array.getElem?_eq_some_iff.1 RA.out).1).trans RA.out)
        have IB := Lib.hid iB
        replace XB := XB.trans (ub.mono XB.size)
        clear iB ub
        obtain ⟨ta0, ta1, qa0, qa1⟩ := blk2 RA.out
        refine hK.out _ _ ?_ (fun hH2 => ?_)
        · exact HKP.out _ XB
        clear hK K hH1
        (try simp only [Act.put, List.setIfInBounds_toArray, List.set_cons_zero, List.set_cons_succ])
        refine wpAnyH_ready (rs := [8]) (by kernel_rfl) (by simp) ?_
        refine (AllReadyH.cons (o := ({ dst := some 5, op := Op.alloc 31, type := 0, pos := "continued.go:38", after := #[], guard := none } : Oper)) rfl (fun K hK => ?_) AllReadyH.nil)
        go_simp
        clear ta0 ta1 qa0 qa1
        obtain ⟨u3, hu⟩ : ∃ u, u = u2.alloc (.cells #[.bool false, .slice none 0 0] 31) := ⟨_, rfl⟩
        obtain ⟨bB, hbB⟩ : ∃ b, b = u2.heap.size := ⟨_, rfl⟩
        have ub : Below u2.heap.size u2 u3 := by rw [hu]; go_grown
        have rB : u3.heap[bB]? = some (.cells #[.bool false, .slice none 0 0] 31 (0, 0)) := by rw [hu, hbB]; exact heap_alloc_new u2 _
        have hsB : w1.heap.size ≤ bB := by rw [hbB]; exact XB.size
        have hAB : bA ≠ bB := by have := (Array.getElem?_eq_some_iff.1 RA.out).1; omega
        replace IA := Lib.hid (IA.out.below ub)
        replace RA := Lib.hid ((ub.block _ (Array.getElem?_eq_some_iff.1 RA.out).1).trans RA.out)
        replace IB := Lib.hid (IB.out.below ub)
        have RB := Lib.hid rB
        replace XB := XB.trans (ub.mono XB.size)
        rw [← hu, ← hbB]
        clear hu hbB rB ub
        obtain ⟨ta0, ta1, qa0, qa1⟩ := blk2 RA.out
        obtain ⟨tb0, tb1, qb0, qb1⟩ := blk2 RB.out
        refine hK.out _ _ ?_ (fun hH3 => ?_)
        · exact HKP.out _ XB
        clear hK K hH2
        (try simp only [Act.put, List.setIfInBounds_toArray, List.set_cons_zero, List.set_cons_succ])
        refine wpAnyH_ready (rs := [9]) (by kernel_rfl) (by simp) ?_
        refine (AllReadyH.cons (o := ({ dst := none, op := Op.store 31 (Operand.tmp 4) (Operand.tmp 16), type := 0, pos := "continued.go:38", after := #[{ on := 7, ground := Ground.data }, { on := 5, ground := Ground.data }, { on := 6, ground := Ground.chain }, { on := 0, ground := Ground.phase }, { on := 1, ground := Ground.phase }, { on := 2, ground := Ground.phase }, { on := 3, ground := Ground.phase }, { on := 4, ground := Ground.phase }, { on := 5, ground := Ground.phase }, { on := 6, ground := Ground.textOnly Departure.lateStoresUnsure }, { on := 7, ground := Ground.phase }, { on := 8, ground := Ground.phase }], guard := none } : Oper)) rfl (fun K hK => ?_) AllReadyH.nil)
        go_simp
        clear ta0 ta1 qa0 qa1
        clear tb0 tb1 qb0 qb1
        obtain ⟨u4, hu⟩ : ∃ u, u = (u3.setCell ⟨bA, 0, none⟩ (.bool nA)).setCell ⟨bA, 1, none⟩ (.slice aA kA cA) := ⟨_, rfl⟩
        have BA := Lib.hid (show IBox u4 bA _ _ _ _ _ _ from by rw [hu]; exact IBox.put IA.out RA.out)
        have xb : Below w1.heap.size w1 u4 := by rw [hu]; exact (XB.setCell (p := ⟨bA, 0, none⟩) hsA _).setCell (p := ⟨bA, 1, none⟩) hsA _
        replace IB := Lib.hid (show IntAt u4 _ _ _ _ _ _ from by rw [hu]; exact IB.out.stored RA.out _ _)
        replace RB := Lib.hid (show u4.heap[bB]? = some (.cells #[.bool false, .slice none 0 0] 31 (0, 0)) from by rw [hu, Below.heap_setCell _ _ _ _ hAB.symm, Below.heap_setCell _ _ _ _ hAB.symm]; exact RB.out)
        rw [← hu]
        clear hu IA RA XB
        have XB := xb
        clear xb
        obtain ⟨tb0, tb1, qb0, qb1⟩ := blk2 RB.out
        refine hK.out _ _ ?_ (fun hH4 => ?_)
        · exact HKP.out _ XB
        clear hK K hH3
        (try simp only [Act.put, List.setIfInBounds_toArray, List.set_cons_zero, List.set_cons_succ])
        refine wpAnyH_ready (rs := [10]) (by kernel_rfl) (by simp) ?_
        refine (AllReadyH.cons (o := ({ dst := none, op := Op.store 31 (Operand.tmp 5) (Operand.tmp 17), type := 0, pos := "continued.go:38", after := #[{ on := 8, ground := Ground.data }, { on := 6, ground := Ground.data }, { on := 9, ground := Ground.chain }, { on := 0, ground := Ground.phase }, { on := 1, ground := Ground.phase }, { on := 2, ground := Ground.phase }, { on := 3, ground := Ground.phase }, { on := 4, ground := Ground.phase }, { on := 5, ground := Ground.phase }, { on := 6, ground := Ground.phase }, { on := 7, ground := Ground.phase }, { on := 8, ground := Ground.phase }, { on := 9, ground := Ground.phase }], guard := none } : Oper)) rfl (fun K hK => ?_) AllReadyH.nil)
        go_simp
        clear tb0 tb1 qb0 qb1
        obtain ⟨u5, hu⟩ : ∃ u, u = (u4.setCell ⟨bB, 0, none⟩ (.bool nB)).setCell ⟨bB, 1, none⟩ (.slice aB kB cB) := ⟨_, rfl⟩
        have BB := Lib.hid (show IBox u5 bB _ _ _ _ _ _ from by rw [hu]; exact IBox.put IB.out RB.out)
        have xb : Below w1.heap.size w1 u5 := by rw [hu]; exact (XB.setCell (p := ⟨bB, 0, none⟩) hsB _).setCell (p := ⟨bB, 1, none⟩) hsB _
        replace BA := Lib.hid (show IBox u5 bA _ _ _ _ _ _ from by rw [hu]; exact BA.out.other RB.out hAB _ _)
        rw [← hu]
        clear hu IB RB XB
        have XB := xb
        clear xb
        refine hK.out _ _ ?_ (fun hH5 => ?_)
        · exact HKP.out _ XB
        clear hK K hH4
        (try simp only [Act.put, List.setIfInBounds_toArray, List.set_cons_zero, List.set_cons_succ])
        refine wpAnyH_done (by kernel_rfl) ?_ _
        refine NoPanic.normal ?_
        go_wp2
        go_meet
        exact ⟨bA, bB, rfl, rfl, hsA, hsB, hAB, _, _, _, _, _, _, _, _, _, _, BA.out, BB.out, h2, gB, XB⟩
      · go_simp
        clear ta0 ta1 qa0 qa1
        obtain ⟨u2, hu⟩ : ∃ u, u = u1.alloc (.cells #[.bool false, .slice none 0 0] 31) := ⟨_, rfl⟩
        obtain ⟨bB, hbB⟩ : ∃ b, b = u1.heap.size := ⟨_, rfl⟩
        have ub : Below u1.heap.size u1 u2 := by rw [hu]; go_grown
        have rB : u2.heap[bB]? = some (.cells #[.bool false, .slice none 0 0] 31 (0, 0)) := by rw [hu, hbB]; exact heap_alloc_new u1 _
        have hsB : w1.heap.size ≤ bB := by rw [hbB]; exact XB.size
        have hAB : bA ≠ bB := by have := (Array.getElem?_eq_some_iff.1 RA.out).1; omega
        replace IA := Lib.hid (IA.out.below ub)
        replace RA := Lib.hid ((ub.block _ (Array.getElem?_eq_some_iff.1 RA.out).1).trans RA.out)
        have RB := Lib.hid rB
        replace XB := XB.trans (ub.mono XB.size)
        rw [← hu, ← hbB]
        clear hu hbB rB ub
        obtain ⟨ta0, ta1, qa0, qa1⟩ := blk2 RA.out
        obtain ⟨tb0, tb1, qb0, qb1⟩ := blk2 RB.out
        refine hK.out _ _ ?_ (fun hH2 => ?_)
        · exact HKP.out _ XB
        clear hK K hH1
        (try simp only [Act.put, List.setIfInBounds_toArray, List.set_cons_zero, List.set_cons_succ])
        refine wpAnyH_ready (rs := [6]) (by kernel_rfl) (by simp) ?_
        refine (AllReadyH.cons (o := ({ dst := some 17, op := Op.call { callee := Callee.value (Operand.func 65), args := #[Operand.const (Value.int IntKind.i64 1)], argTypes := #[2] }, type := 31, pos := "continued.go:38", after := #[], guard := none } : Oper)) rfl (fun K hK => ?_) AllReadyH.nil)
        go_simp
        clear ta0 ta1 qa0 qa1
        clear tb0 tb1 qb0 qb1
        refine (new_int _ 1 (by omega) (by omega)).mono ?_
        rintro e u3 ⟨nB, aB, kB, cB, zB, rfl, iB, gB, ub⟩
        replace IA := Lib.hid (IA.out.below ub)
        replace RA := Lib.hid ((ub.block _ (Array.getElem?_eq_some_iff.1 RA.out).1).trans RA.out)
        replace RB := Lib.hid ((ub.block _ (Array.getElem?_eq_some_iff.1 RB.out).1).trans RB.out)
        have IB := Lib.hid iB
        replace XB := XB.trans (ub.mono XB.size)
        clear iB ub
        obtain ⟨ta0, ta1, qa0, qa1⟩ := blk2 RA.out
        obtain ⟨tb0, tb1, qb0, qb1⟩ := blk2 RB.out
        refine hK.out _ _ ?_ (fun hH3 => ?_)
        · exact HKP.out _ XB
        clear hK K hH2
        (try simp only [Act.put, List.setIfInBounds_toArray, List.set_cons_zero, List.set_cons_succ])
        refine wpAnyH_ready (rs := [9]) (by kernel_rfl) (by simp) ?_
        refine (AllReadyH.cons (o := ({ dst := none, op := Op.store 31 (Operand.tmp 4) (Operand.tmp 16), type := 0, pos := "continued.go:38", after := #[{ on := 7, ground := Ground.data }, { on := 5, ground := Ground.data }, { on := 6, ground := Ground.chain }, { on := 0, ground := Ground.phase }, { on := 1, ground := Ground.phase }, { on := 2, ground := Ground.phase }, { on := 3, ground := Ground.phase }, { on := 4, ground := Ground.phase }, { on := 5, ground := Ground.phase }, { on := 6, ground := Ground.textOnly Departure.lateStoresUnsure }, { on := 7, ground := Ground.phase }, { on := 8, ground := Ground.phase }], guard := none } : Oper)) rfl (fun K hK => ?_) AllReadyH.nil)
        go_simp
        clear ta0 ta1 qa0 qa1
        clear tb0 tb1 qb0 qb1
        obtain ⟨u4, hu⟩ : ∃ u, u = (u3.setCell ⟨bA, 0, none⟩ (.bool nA)).setCell ⟨bA, 1, none⟩ (.slice aA kA cA) := ⟨_, rfl⟩
        have BA := Lib.hid (show IBox u4 bA _ _ _ _ _ _ from by rw [hu]; exact IBox.put IA.out RA.out)
        have xb : Below w1.heap.size w1 u4 := by rw [hu]; exact (XB.setCell (p := ⟨bA, 0, none⟩) hsA _).setCell (p := ⟨bA, 1, none⟩) hsA _
        replace IB := Lib.hid (show IntAt u4 _ _ _ _ _ _ from by rw [hu]; exact IB.out.stored RA.out _ _)
        replace RB := Lib.hid (show u4.heap[bB]? = some (.cells #[.bool false, .slice none 0 0] 31 (0, 0)) from by rw [hu, Below.heap_setCell _ _ _ _ hAB.symm, Below.heap_setCell _ _ _ _ hAB.symm]; exact RB.out)
        rw [← hu]
        clear hu IA RA XB
        have XB := xb
        clear xb
        obtain ⟨tb0, tb1, qb0, qb1⟩ := blk2 RB.out
        refine hK.out _ _ ?_ (fun hH4 => ?_)
        · exact HKP.out _ XB
        clear hK K hH3
        (try simp only [Act.put, List.setIfInBounds_toArray, List.set_cons_zero, List.set_cons_succ])
        refine wpAnyH_ready (rs := [10]) (by kernel_rfl) (by simp) ?_
        refine (AllReadyH.cons (o := ({ dst := none, op := Op.store 31 (Operand.tmp 5) (Operand.tmp 17), type := 0, pos := "continued.go:38", after := #[{ on := 8, ground := Ground.data }, { on := 6, ground := Ground.data }, { on := 9, ground := Ground.chain }, { on := 0, ground := Ground.phase }, { on := 1, ground := Ground.phase }, { on := 2, ground := Ground.phase }, { on := 3, ground := Ground.phase }, { on := 4, ground := Ground.phase }, { on := 5, ground := Ground.phase }, { on := 6, ground := Ground.phase }, { on := 7, ground := Ground.phase }, { on := 8, ground := Ground.phase }, { on := 9, ground := Ground.phase }], guard := none } : Oper)) rfl (fun K hK => ?_) AllReadyH.nil)
        go_simp
        clear tb0 tb1 qb0 qb1
        obtain ⟨u5, hu⟩ : ∃ u, u = (u4.setCell ⟨bB, 0, none⟩ (.bool nB)).setCell ⟨bB, 1, none⟩ (.slice aB kB cB) := ⟨_, rfl⟩
        have BB := Lib.hid (show IBox u5 bB _ _ _ _ _ _ from by rw [hu]; exact IBox.put IB.out RB.out)
        have xb : Below w1.heap.size w1 u5 := by rw [hu]; exact (XB.setCell (p := ⟨bB, 0, none⟩) hsB _).setCell (p := ⟨bB, 1, none⟩) hsB _
        replace BA := Lib.hid (show IBox u5 bA _ _ _ _ _ _ from by rw [hu]; exact BA.out.other RB.out hAB _ _)
        rw [← hu]
        clear hu IB RB XB
        have XB := xb
        clear xb
        refine hK.out _ _ ?_ (fun hH5 => ?_)
        · exact HKP.out _ XB
        clear hK K hH4
        (try simp only [Act.put, List.setIfInBounds_toArray, List.set_cons_zero, List.set_cons_succ])
        refine wpAnyH_done (by kernel_rfl) ?_ _
        refine NoPanic.normal ?_
        go_wp2
        go_meet
        exact ⟨bA, bB, rfl, rfl, hsA, hsB, hAB, _, _, _, _, _, _, _, _, _, _, BA.out, BB.out, h2, gB, XB⟩
    · go_simp
      obtain ⟨u1, hu⟩ : ∃ u, u = (w1.alloc (.cells #[.bool false, .slice none 0 0] 31)).drew := ⟨_, rfl⟩
      obtain ⟨bB, hbB⟩ : ∃ b, b = w1.heap.size := ⟨_, rfl⟩
      have ub : Below w1.heap.size w1 u1 := by rw [hu]; exact ((Below.refl _ _).alloc (Nat.le_refl _) _).drew
      have rB : u1.heap[bB]? = some (.cells #[.bool false, .slice none 0 0] 31 (0, 0)) := by rw [hu, hbB]; exact heap_alloc_new w1 _
      have hsB : w1.heap.size ≤ bB := by rw [hbB]; exact Nat.le_refl _
      replace IA := Lib.hid (IA.out.below ub)
      have RB := Lib.hid rB
      have XB : Below w1.heap.size w1 u1 := ub
      rw [← hu, ← hbB]
      clear hu hbB rB ub
      obtain ⟨tb0, tb1, qb0, qb1⟩ := blk2 RB.out
      refine hK.out _ _ ?_ (fun hH1 => ?_)
      · exact HKP.out _ XB
      clear hK K hH0
      (try simp only [Act.put, List.setIfInBounds_toArray, List.set_cons_zero, List.set_cons_succ])
      refine wpAnyH_ready (rs := [6, 7]) (by kernel_rfl) (by simp) ?_
      refine (AllReadyH.cons (o := ({ dst := some 17, op := Op.call { callee := Callee.value (Operand.func 65), args := #[Operand.const (Value.int IntKind.i64 1)], argTypes := #[2] }, type := 31, pos := "continued.go:38", after := #[], guard := none } : Oper)) rfl (fun K hK => ?_) (AllReadyH.cons (o := ({ dst := some 4, op := Op.alloc 31, type := 0, pos := "continued.go:38", after := #[], guard := none } : Oper)) rfl (fun K hK => ?_) AllReadyH.nil))
      · go_simp
        clear tb0 tb1 qb0 qb1
        refine (new_int _ 1 (by omega) (by omega)).mono ?_
        rintro e u2 ⟨nB, aB, kB, cB, zB, rfl, iB, gB, ub⟩
        replace IA := Lib.hid (IA.out.below ub)
        replace RB := Lib.hid ((ub.block _ (Array.getElem?_eq_some_iff.1 RB.out).1).trans RB.out)
        have IB := Lib.hid iB
        replace XB := XB.trans (ub.mono XB.size)
        clear iB ub
        obtain ⟨tb0, tb1, qb0, qb1⟩ := blk2 RB.out
        refine hK.out _ _ ?_ (fun hH2 => ?_)
        · exact HKP.out _ XB
        clear hK K hH1
        (try simp only [Act.put, List.setIfInBounds_toArray, List.set_cons_zero, List.set_cons_succ])
        refine wpAnyH_ready (rs := [7]) (by kernel_rfl) (by simp) ?_
        refine (AllReadyH.cons (o := ({ dst := some 4, op := Op.alloc 31, type := 0, pos := "continued.go:38", after := #[], guard := none } : Oper)) rfl (fun K hK => ?_) AllReadyH.nil)
        go_simp
        clear tb0 tb1 qb0 qb1
        obtain ⟨u3, hu⟩ : ∃ u, u = u2.alloc (.cells #[.bool false, .slice none 0 0] 31) := ⟨_, rfl⟩
        obtain ⟨bA, hbA⟩ : ∃ b, b = u2.heap.size := ⟨_, rfl⟩
        have ub : Below u2.heap.size u2 u3 := by rw [hu]; go_grown
        have rA : u3.heap[bA]? = some (.cells #[.bool false, .slice none 0 0] 31 (0, 0)) := by rw [hu, hbA]; exact heap_alloc_new u2 _
        have hsA : w1.heap.size ≤ bA := by rw [hbA]; exact XB.size
        have hAB : bA ≠ bB := by have := (Array.getElem?_eq_some_iff.1 RB.out).1; omega
        replace IA := Lib.hid (IA.out.below ub)
        replace IB := Lib.hid (IB.out.below ub)
        replace RB := Lib.hid ((ub.block _ (Array.getElem?_eq_some_iff.1 RB.out).1).trans RB.out)
        have RA := Lib.hid rA
        replace XB := XB.trans (ub.mono XB.size)
        rw [← hu, ← hbA]
        clear hu hbA rA ub
        obtain ⟨ta0, ta1, qa0, qa1⟩ := blk2 RA.out
        obtain ⟨tb0, tb1, qb0, qb1⟩ := blk2 RB.out
        refine hK.out _ _ ?_ (fun hH3 => ?_)
        · exact HKP.out _ XB
        clear hK K hH2
        (try simp only [Act.put, List.setIfInBounds_toArray, List.set_cons_zero, List.set_cons_succ])
        refine wpAnyH_ready (rs := [9]) (by kernel_rfl) (by simp) ?_
        refine (AllReadyH.cons (o := ({ dst := none, op := Op.store 31 (Operand.tmp 4) (Operand.tmp 16), type := 0, pos := "continued.go:38", after := #[{ on := 7, ground := Ground.data }, { on := 5, ground := Ground.data }, { on := 6, ground := Ground.chain }, { on := 0, ground := Ground.phase }, { on := 1, ground := Ground.phase }, { on := 2, ground := Ground.phase }, { on := 3, ground := Ground.phase }, { on := 4, ground := Ground.phase }, { on := 5, ground := Ground.phase }, { on := 6, ground := Ground.textOnly Departure.lateStoresUnsure }, { on := 7, ground := Ground.phase }, { on := 8, ground := Ground.phase }], guard := none } : Oper)) rfl (fun K hK => ?_) AllReadyH.nil)
        go_simp
        clear ta0 ta1 qa0 qa1
        clear tb0 tb1 qb0 qb1
        obtain ⟨u4, hu⟩ : ∃ u, u = (u3.setCell ⟨bA, 0, none⟩ (.bool nA)).setCell ⟨bA, 1, none⟩ (.slice aA kA cA) := ⟨_, rfl⟩
        have BA := Lib.hid (show IBox u4 bA _ _ _ _ _ _ from by rw [hu]; exact IBox.put IA.out RA.out)
        have xb : Below w1.heap.size w1 u4 := by rw [hu]; exact (XB.setCell (p := ⟨bA, 0, none⟩) hsA _).setCell (p := ⟨bA, 1, none⟩) hsA _
        replace IB := Lib.hid (show IntAt u4 _ _ _ _ _ _ from by rw [hu]; exact IB.out.stored RA.out _ _)
        replace RB := Lib.hid (show u4.heap[bB]? = some (.cells #[.bool false, .slice none 0 0] 31 (0, 0)) from by rw [hu, Below.heap_setCell _ _ _ _ hAB.symm, Below.heap_setCell _ _ _ _ hAB.symm]; exact RB.out)
        rw [← hu]
        clear hu IA RA XB
        have XB := xb
        clear xb
        obtain ⟨tb0, tb1, qb0, qb1⟩ := blk2 RB.out
        refine hK.out _ _ ?_ (fun hH4 => ?_)
        · exact HKP.out _ XB
        clear hK K hH3
        (try simp only [Act.put, List.setIfInBounds_toArray, List.set_cons_zero, List.set_cons_succ])
        refine wpAnyH_ready (rs := [10]) (by kernel_rfl) (by simp) ?_
        refine (AllReadyH.cons (o := ({ dst := none, op := Op.store 31 (Operand.tmp 5) (Operand.tmp 17), type := 0, pos := "continued.go:38", after := #[{ on := 8, ground := Ground.data }, { on := 6, ground := Ground.data }, { on := 9, ground := Ground.chain }, { on := 0, ground := Ground.phase }, { on := 1, ground := Ground.phase }, { on := 2, ground := Ground.phase }, { on := 3, ground := Ground.phase }, { on := 4, ground := Ground.phase }, { on := 5, ground := Ground.phase }, { on := 6, ground := Ground.phase }, { on := 7, ground := Ground.phase }, { on := 8, ground := Ground.phase }, { on := 9, ground := Ground.phase }], guard := none } : Oper)) rfl (fun K hK => ?_) AllReadyH.nil)
        go_simp
        clear tb0 tb1 qb0 qb1
        obtain ⟨u5, hu⟩ : ∃ u, u = (u4.setCell ⟨bB, 0, none⟩ (.bool nB)).setCell ⟨bB, 1, none⟩ (.slice aB kB cB) := ⟨_, rfl⟩
        have BB := Lib.hid (show IBox u5 bB _ _ _ _ _ _ from by rw [hu]; exact IBox.put IB.out RB.out)
        have xb : Below w1.heap.size w1 u5 := by rw [hu]; exact (XB.setCell (p := ⟨bB, 0, none⟩) hsB _).setCell (p := ⟨bB, 1, none⟩) hsB _
        replace BA := Lib.hid (show IBox u5 bA _ _ _ _ _ _ from by rw [hu]; exact BA.out.other RB.out hAB _ _)
        rw [← hu]
        clear hu IB RB XB
        have XB := xb
        clear xb
        refine hK.out _ _ ?_ (fun hH5 => ?_)
        · exact HKP.out _ XB
        clear hK K hH4
        (try simp only [Act.put, List.setIfInBounds_toArray, List.set_cons_zero, List.set_cons_succ])
        refine wpAnyH_done (by kernel_rfl) ?_ _
        refine NoPanic.normal ?_
        go_wp2
        go_meet
        exact ⟨bA, bB, rfl, rfl, hsA, hsB, hAB, _, _, _, _, _, _, _, _, _, _, BA.out, BB.out, h2, gB, XB⟩
      · go_simp
        clear tb0 tb1 qb0 qb1
        obtain ⟨u2, hu⟩ : ∃ u, u = u1.alloc (.cells #[.bool false, .slice none 0 0] 31) := ⟨_, rfl⟩
        obtain ⟨bA, hbA⟩ : ∃ b, b = u1.heap.size := ⟨_, rfl⟩
        have ub : Below u1.heap.size u1 u2 := by rw [hu]; go_grown
        have rA : u2.heap[bA]? = some (.cells #[.bool false, .slice none 0 0] 31 (0, 0)) := by rw [hu, hbA]; exact heap_alloc_new u1 _
        have hsA : w1.heap.size ≤ bA := by rw [hbA]; exact XB.size
        have hAB : bA ≠ bB := by have := (Array.getElem?_eq_some_iff.1 RB.out).1; omega
        replace IA := Lib.hid (IA.out.below ub)
        replace RB := Lib.hid ((ub.block _ (Array.getElem?_eq_some_iff.1 RB.out).1).trans RB.out)
        have RA := Lib.hid rA
        replace XB := XB.trans (ub.mono XB.size)
        rw [← hu, ← hbA]
        clear hu hbA rA ub
        obtain ⟨ta0, ta1, qa0, qa1⟩ := blk2 RA.out
        obtain ⟨tb0, tb1, qb0, qb1⟩ := blk2 RB.out
        refine hK.out _ _ ?_ (fun hH2 => ?_)
        · exact HKP.out _ XB
        clear hK K hH1
        (try simp only [Act.put, List.setIfInBounds_toArray, List.set_cons_zero, List.set_cons_succ])
        refine wpAnyH_ready (rs := [6]) (by kernel_rfl) (by simp) ?_
        refine (AllReadyH.cons (o := ({ dst := some 17, op := Op.call { callee := Callee.value (Operand.func 65), args := #[Operand.const (Value.int IntKind.i64 1)], argTypes := #[2] }, type := 31, pos := "continued.go:38", after := #[], guard := none } : Oper)) rfl (fun K hK => ?_) AllReadyH.nil)
        go_simp
        clear ta0 ta1 qa0 qa1
        clear tb0 tb1 qb0 qb1
        refine (new_int _ 1 (by omega) (by omega)).mono ?_
        rintro e u3 ⟨nB, aB, kB, cB, zB, rfl, iB, gB, ub⟩
        replace IA := Lib.hid (IA.out.below ub)
        replace RA := Lib.hid ((ub.block _ (Array.getElem?_eq_some_iff.1 RA.out).1).trans RA.out)
        replace RB := Lib.hid ((ub.block _ (Array.getElem?_eq_some_iff.1 RB.out).1).trans RB.out)
        have IB := Lib.hid iB
        replace XB := XB.trans (ub.mono XB.size)
        clear iB ub
        obtain ⟨ta0, ta1, qa0, qa1⟩ := blk2 RA.out
        obtain ⟨tb0, tb1, qb0, qb1⟩ := blk2 RB.out
        refine hK.out _ _ ?_ (fun hH3 => ?_)
        · exact HKP.out _ XB
        clear hK K hH2
        (try simp only [Act.put, List.setIfInBounds_toArray, List.set_cons_zero, List.set_cons_succ])
        refine wpAnyH_ready (rs := [9]) (by kernel_rfl) (by simp) ?_
        refine (AllReadyH.cons (o := ({ dst := none, op := Op.store 31 (Operand.tmp 4) (Operand.tmp 16), type := 0, pos := "continued.go:38", after := #[{ on := 7, ground := Ground.data }, { on := 5, ground := Ground.data }, { on := 6, ground := Ground.chain }, { on := 0, ground := Ground.phase }, { on := 1, ground := Ground.phase }, { on := 2, ground := Ground.phase }, { on := 3, ground := Ground.phase }, { on := 4, ground := Ground.phase }, { on := 5, ground := Ground.phase }, { on := 6, ground := Ground.textOnly Departure.lateStoresUnsure }, { on := 7, ground := Ground.phase }, { on := 8, ground := Ground.phase }], guard := none } : Oper)) rfl (fun K hK => ?_) AllReadyH.nil)
        go_simp
        clear ta0 ta1 qa0 qa1
        clear tb0 tb1 qb0 qb1
        obtain ⟨u4, hu⟩ : ∃ u, u = (u3.setCell ⟨bA, 0, none⟩ (.bool nA)).setCell ⟨bA, 1, none⟩ (.slice aA kA cA) := ⟨_, rfl⟩
        have BA := Lib.hid (show IBox u4 bA _ _ _ _ _ _ from by rw [hu]; exact IBox.put IA.out RA.out)
        have xb : Below w1.heap.size w1 u4 := by rw [hu]; exact (XB.setCell (p := ⟨bA, 0, none⟩) hsA _).setCell (p := ⟨bA, 1, none⟩) hsA _
        replace IB := Lib.hid (show IntAt u4 _ _ _ _ _ _ from by rw [hu]; exact IB.out.stored RA.out _ _)
        replace RB := Lib.hid (show u4.heap[bB]? = some (.cells #[.bool false, .slice none 0 0] 31 (0, 0)) from by rw [hu, Below.heap_setCell _ _ _ _ hAB.symm, Below.heap_setCell _ _ _ _ hAB.symm]; exact RB.out)
        rw [← hu]
        clear hu IA RA XB
        have XB := xb
        clear xb
        obtain ⟨tb0, tb1, qb0, qb1⟩ := blk2 RB.out
        refine hK.out _ _ ?_ (fun hH4 => ?_)
        · exact HKP.out _ XB
        clear hK K hH3
        (try simp only [Act.put, List.setIfInBounds_toArray, List.set_cons_zero, List.set_cons_succ])
        refine wpAnyH_ready (rs := [10]) (by kernel_rfl) (by simp) ?_
        refine (AllReadyH.cons (o := ({ dst := none, op := Op.store 31 (Operand.tmp 5) (Operand.tmp 17), type := 0, pos := "continued.go:38", after := #[{ on := 8, ground := Ground.data }, { on := 6, ground := Ground.data }, { on := 9, ground := Ground.chain }, { on := 0, ground := Ground.phase }, { on := 1, ground := Ground.phase }, { on := 2, ground := Ground.phase }, { on := 3, ground := Ground.phase }, { on := 4, ground := Ground.phase }, { on := 5, ground := Ground.phase }, { on := 6, ground := Ground.phase }, { on := 7, ground := Ground.phase }, { on := 8, ground := Ground.phase }, { on := 9, ground := Ground.phase }], guard := none } : Oper)) rfl (fun K hK => ?_) AllReadyH.nil)
        go_simp
        clear tb0 tb1 qb0 qb1
        obtain ⟨u5, hu⟩ : ∃ u, u = (u4.setCell ⟨bB, 0, none⟩ (.bool nB)).setCell ⟨bB, 1, none⟩ (.slice aB kB cB) := ⟨_, rfl⟩
        have BB := Lib.hid (show IBox u5 bB _ _ _ _ _ _ from by rw [hu]; exact IBox.put IB.out RB.out)
        have xb : Below w1.heap.size w1 u5 := by rw [hu]; exact (XB.setCell (p := ⟨bB, 0, none⟩) hsB _).setCell (p := ⟨bB, 1, none⟩) hsB _
        replace BA := Lib.hid (show IBox u5 bA _ _ _ _ _ _ from by rw [hu]; exact BA.out.other RB.out hAB _ _)
        rw [← hu]
        clear hu IB RB XB
        have XB := xb
        clear xb
        refine hK.out _ _ ?_ (fun hH5 => ?_)
        · exact HKP.out _ XB
        clear hK K hH4
        (try simp only [Act.put, List.setIfInBounds_toArray, List.set_cons_zero, List.set_cons_succ])
        refine wpAnyH_done (by kernel_rfl) ?_ _
        refine NoPanic.normal ?_
        go_wp2
        go_meet
        exact ⟨bA, bB, rfl, rfl, hsA, hsB, hAB, _, _, _, _, _, _, _, _, _, _, BA.out, BB.out, h2, gB, XB⟩
  case rest =>
    obtain ⟨bA, bB, rfl, rfl, hsA, hsB, hAB, oA', pA', qA', rA', tA', oB', pB', qB', rB', tB', hba, hbb, hkA, gB, hwb⟩ := hcut
    have BA := Lib.hid hba
    have BB := Lib.hid hbb
    have HWB := Lib.hid hwb
    clear hba hbb hwb HKP IA
    go_wp2_with fail
    go_loopw [6] (fun i wr => CFR w1 bA bB x0 x1 x2 i wr) (fun i _ => (intOf i + 1).toNat)
    case atStart => exact .inl ⟨rfl, _, _, _, _, _, _, _, _, _, _, BA.out, BB.out, hkA, gB, HWB.out⟩
    case round =>
      clear BA BB HWB hkA gB
      rcases hrel with ⟨rfl, jA, lA, mA, oA, qA, jB, lB, mB, oB, qB, hba, hbb, gA', gB', hbel⟩ | ⟨rfl, jA, lA, mA, oA, qA, jB, lB, mB, oB, qB, hba, hbb, gA', gB', hbel⟩ | ⟨rfl, jA, lA, mA, oA, qA, jB, lB, mB, oB, qB, hba, hbb, gA', gB', hbel⟩
      · obtain ⟨c, hc⟩ : ∃ c, cmpI (x2) 0 = c := ⟨_, rfl⟩
        have hcz : (c == 0) = false := by rw [← hc]; unfold cmpI; by_cases q1 : (x2) < 0 <;> by_cases q2 : 0 < (x2) <;> simp [q1, q2] <;> omega
        have HC := Lib.hid hc
        have BA := Lib.hid hba
        have BB := Lib.hid hbb
        have HWR := Lib.hid hbel
        have HKP : Hid (∀ w', Below w1.heap.size w1 w' → w'.cell? ⟨b, 2, none⟩ = some (.bool s1) ∧ w'.cell? ⟨b, 3, none⟩ = some (.slice a1 m1 k1)) := Lib.hid (fun w' hb => ⟨(hb.cell (p := ⟨b, 2, none⟩) H.out.lt).trans H.out.c2, (hb.cell (p := ⟨b, 3, none⟩) H.out.lt).trans H.out.c3⟩)
        clear hc hba hbb hbel
        obtain ⟨e0, e1, -, -⟩ := blk2 BA.out.row
        go_wp2_with fail
        refine (sign_int _ _ _ _ _ _ (x2) BA.out.it).mono ?_
        rintro e v0 ⟨rfl, ub⟩
        rw [HC.out]
        replace BA := Lib.hid (BA.out.below ub)
        replace BB := Lib.hid (BB.out.below ub)
        replace HWR := Lib.hid (HWR.out.trans (ub.mono HWR.out.size))
        clear ub e0 e1 HC
        go_wp2_with fail
        refine wp_region_noPanic ?_
        refine wp_region_held_drew (S := (fun w' => w'.cell? ⟨b, 2, none⟩ = some (.bool s1) ∧ w'.cell? ⟨b, 3, none⟩ = some (.slice a1 m1 k1))) (by kernel_rfl) ?_ (fun hH0 => ?_)
        · exact HKP.out _ HWR.out.drew
        obtain ⟨u0, hu⟩ : ∃ u, u = v0.drew := ⟨_, rfl⟩
        have XB : Below w1.heap.size w1 u0 := by rw [hu]; exact HWR.out.drew
        replace BA := Lib.hid (show IBox u0 bA _ _ _ _ _ _ from by rw [hu]; exact BA.out.below (Below.refl _ _).drew)
        replace BB := Lib.hid (show IBox u0 bB _ _ _ _ _ _ from by rw [hu]; exact BB.out.below (Below.refl _ _).drew)
        rw [← hu] at hH0 ⊢
        clear hu HWR
        obtain ⟨ta0, ta1, qa0, qa1⟩ := blk2 BA.out.row
        obtain ⟨tb0, tb1, qb0, qb1⟩ := blk2 BB.out.row
        refine wpAnyH_take (i := 0) (oi := ({ dst := some 29, op := Op.move (Operand.tmp 0), type := 78, pos := "continued.go:43", after := #[], guard := none } : Oper)) (v := ?_) rfl (by kernel_rfl) (by kernel_rfl) (by kernel_rfl) (fun _ _ _ h => h) (Or.inl ⟨by rfl, ?_⟩) (by assumption) ?_
        rotate_left
        · (intro w hSw; (try dsimp only at hSw); go_simp; try with_reducible rfl)
        (try simp only [Act.put, List.setIfInBounds_toArray, List.set_cons_zero, List.set_cons_succ])
        refine wpAnyH_take (i := 1) (oi := ({ dst := some 30, op := Op.move (Operand.tmp 6), type := 3, pos := "continued.go:43", after := #[], guard := none } : Oper)) (v := ?_) rfl (by kernel_rfl) (by kernel_rfl) (by kernel_rfl) (fun _ _ _ h => h) (Or.inl ⟨by rfl, ?_⟩) (by assumption) ?_
        rotate_left
        · (intro w hSw; (try dsimp only at hSw); go_simp; try with_reducible rfl)
        (try simp only [Act.put, List.setIfInBounds_toArray, List.set_cons_zero, List.set_cons_succ])
        refine wpAnyH_take (i := 2) (oi := ({ dst := some 31, op := Op.indexAddr 78 (Operand.tmp 29) (Operand.tmp 30), type := 0, pos := "continued.go:43", after := #[{ on := 0, ground := Ground.data }, { on := 1, ground := Ground.data }], guard := none } : Oper)) (v := ?_) rfl (by kernel_rfl) (by kernel_rfl) (by kernel_rfl) (fun _ _ _ h => h) (Or.inl ⟨by rfl, ?_⟩) (by assumption) ?_
        rotate_left
        · (intro w hSw; (try dsimp only at hSw); go_simp; try with_reducible rfl)
        (try simp only [Act.put, List.setIfInBounds_toArray, List.set_cons_zero, List.set_cons_succ])
        refine wpAnyH_take (i := 3) (oi := ({ dst := some 32, op := Op.load 31 (Operand.tmp 31), type := 31, pos := "continued.go:43", after := #[{ on := 2, ground := Ground.data }], guard := none } : Oper)) (v := ?_) rfl (by kernel_rfl) (by kernel_rfl) (by kernel_rfl) (fun _ _ _ h => h) (Or.inl ⟨by rfl, ?_⟩) (by assumption) ?_
        rotate_left
        · (intro w hSw; (try dsimp only at hSw); go_simp; try with_reducible rfl)
        (try simp only [Act.put, List.setIfInBounds_toArray, List.set_cons_zero, List.set_cons_succ])
        refine wpAnyH_ready (rs := [4, 6, 8]) (by kernel_rfl) (by simp) ?_
        refine (AllReadyH.cons (o := ({ dst := some 33, op := Op.load 31 (Operand.tmp 4), type := 31, pos := "continued.go:43", after := #[], guard := none } : Oper)) rfl (fun K hK => ?_) (AllReadyH.cons (o := ({ dst := some 35, op := Op.load 31 (Operand.tmp 5), type := 31, pos := "continued.go:43", after := #[], guard := none } : Oper)) rfl (fun K hK => ?_) (AllReadyH.cons (o := ({ dst := some 37, op := Op.load 31 (Operand.tmp 4), type := 31, pos := "continued.go:43", after := #[], guard := none } : Oper)) rfl (fun K hK => ?_) AllReadyH.nil)))
        · go_simp
          refine hK.out _ _ ?_ (fun hH1 => ?_)
          · exact HKP.out _ XB
          clear hK K hH0
          (try simp only [Act.put, List.setIfInBounds_toArray, List.set_cons_zero, List.set_cons_succ])
          refine wpAnyH_ready (rs := [5, 6, 8]) (by kernel_rfl) (by simp) ?_
          refine (AllReadyH.cons (o := ({ dst := some 34, op := Op.call { callee := Callee.value (Operand.func 84), args := #[Operand.tmp 32, Operand.tmp 33], argTypes := #[31, 31] }, type := 31, pos := "continued.go:43", after := #[{ on := 3, ground := Ground.data }, { on := 4, ground := Ground.data }], guard := none } : Oper)) rfl (fun K hK => ?_) (AllReadyH.cons (o := ({ dst := some 35, op := Op.load 31 (Operand.tmp 5), type := 31, pos := "continued.go:43", after := #[], guard := none } : Oper)) rfl (fun K hK => ?_) (AllReadyH.cons (o := ({ dst := some 37, op := Op.load 31 (Operand.tmp 4), type := 31, pos := "continued.go:43", after := #[], guard := none } : Oper)) rfl (fun K hK => ?_) AllReadyH.nil)))
          · go_simp
            clear ta0 ta1 qa0 qa1 tb0 tb1 qb0 qb1
            refine (mul_int _ _ _ _ _ _ _ _ _ _ _ (x1) (x2) (H.out.i1.below XB) BA.out.it (by omega) (by omega)).mono ?_
            rintro e u1 ⟨sM, aM, kM, cM, zM, rfl, iM, gM, ub⟩
            replace BA := Lib.hid (BA.out.below ub)
            replace BB := Lib.hid (BB.out.below ub)
            have IM := Lib.hid iM
            replace XB := XB.trans (ub.mono XB.size)
            clear iM ub
            obtain ⟨ta0, ta1, qa0, qa1⟩ := blk2 BA.out.row
            obtain ⟨tb0, tb1, qb0, qb1⟩ := blk2 BB.out.row
            refine hK.out _ _ ?_ (fun hH2 => ?_)
            · exact HKP.out _ XB
            clear hK K hH1
            (try simp only [Act.put, List.setIfInBounds_toArray, List.set_cons_zero, List.set_cons_succ])
            refine wpAnyH_ready (rs := [6, 8]) (by kernel_rfl) (by simp) ?_
            refine (AllReadyH.cons (o := ({ dst := some 35, op := Op.load 31 (Operand.tmp 5), type := 31, pos := "continued.go:43", after := #[], guard := none } : Oper)) rfl (fun K hK => ?_) (AllReadyH.cons (o := ({ dst := some 37, op := Op.load 31 (Operand.tmp 4), type := 31, pos := "continued.go:43", after := #[], guard := none } : Oper)) rfl (fun K hK => ?_) AllReadyH.nil))
            · go_simp
              refine hK.out _ _ ?_ (fun hH3 => ?_)
              · exact HKP.out _ XB
              clear hK K hH2
              (try simp only [Act.put, List.setIfInBounds_toArray, List.set_cons_zero, List.set_cons_succ])
              refine wpAnyH_ready (rs := [7, 8]) (by kernel_rfl) (by simp) ?_
              refine (AllReadyH.cons (o := ({ dst := some 36, op := Op.call { callee := Callee.value (Operand.func 95), args := #[Operand.tmp 34, Operand.tmp 35], argTypes := #[31, 31] }, type := 31, pos := "continued.go:43", after := #[{ on := 5, ground := Ground.data }, { on := 6, ground := Ground.data }, { on := 5, ground := Ground.chain }], guard := none } : Oper)) rfl (fun K hK => ?_) (AllReadyH.cons (o := ({ dst := some 37, op := Op.load 31 (Operand.tmp 4), type := 31, pos := "continued.go:43", after := #[], guard := none } : Oper)) rfl (fun K hK => ?_) AllReadyH.nil))
              · go_simp
                clear ta0 ta1 qa0 qa1 tb0 tb1 qb0 qb1
                refine (add_int _ _ _ _ _ _ _ _ _ _ _ _ (1) IM.out BB.out.it (by omega) (by omega)).mono ?_
                rintro e u2 ⟨sS, aS, kS, cS, zS, rfl, iS, gS, ub⟩
                replace BA := Lib.hid (BA.out.below ub)
                replace BB := Lib.hid (BB.out.below ub)
                have IS := Lib.hid iS
                replace XB := XB.trans (ub.mono XB.size)
                clear iS ub
                obtain ⟨ta0, ta1, qa0, qa1⟩ := blk2 BA.out.row
                obtain ⟨tb0, tb1, qb0, qb1⟩ := blk2 BB.out.row
                refine hK.out _ _ ?_ (fun hH4 => ?_)
                · exact HKP.out _ XB
                clear hK K hH3
                (try simp only [Act.put, List.setIfInBounds_toArray, List.set_cons_zero, List.set_cons_succ])
                refine wpAnyH_ready (rs := [8]) (by kernel_rfl) (by simp) ?_
                refine (AllReadyH.cons (o := ({ dst := some 37, op := Op.load 31 (Operand.tmp 4), type := 31, pos := "continued.go:43", after := #[], guard := none } : Oper)) rfl (fun K hK => ?_) AllReadyH.nil)
                go_simp
                refine hK.out _ _ ?_ (fun hH5 => ?_)
                · exact HKP.out _ XB
                clear hK K hH4
                (try simp only [Act.put, List.setIfInBounds_toArray, List.set_cons_zero, List.set_cons_succ])
                refine wpAnyH_ready (rs := [9]) (by kernel_rfl) (by simp) ?_
                refine (AllReadyH.cons (o := ({ dst := none, op := Op.store 31 (Operand.tmp 4) (Operand.tmp 36), type := 0, pos := "continued.go:43", after := #[{ on := 7, ground := Ground.data }, { on := 7, ground := Ground.chain }, { on := 0, ground := Ground.phase }, { on := 1, ground := Ground.phase }, { on := 2, ground := Ground.phase }, { on := 3, ground := Ground.phase }, { on := 4, ground := Ground.phase }, { on := 5, ground := Ground.phase }, { on := 6, ground := Ground.phase }, { on := 7, ground := Ground.phase }, { on := 8, ground := Ground.phase }], guard := none } : Oper)) rfl (fun K hK => ?_) AllReadyH.nil)
                go_simp
                clear ta0 ta1 qa0 qa1 tb0 tb1 qb0 qb1
                obtain ⟨u3, hu⟩ : ∃ u, u = (u2.setCell ⟨bA, 0, none⟩ (.bool sS)).setCell ⟨bA, 1, none⟩ (.slice aS kS cS) := ⟨_, rfl⟩
                have IN := Lib.hid (show IntAt u3 jA lA mA oA qA _ from by rw [hu]; exact BA.out.it.stored BA.out.row _ _)
                have ba := (show IBox u3 bA _ _ _ _ _ _ from by rw [hu]; exact IBox.put IS.out BA.out.row)
                replace BB := Lib.hid (show IBox u3 bB _ _ _ _ _ _ from by rw [hu]; exact BB.out.other BA.out.row hAB.symm _ _)
                replace BA := Lib.hid ba
                have xb : Below w1.heap.size w1 u3 := by rw [hu]; exact (XB.setCell (p := ⟨bA, 0, none⟩) hsA _).setCell (p := ⟨bA, 1, none⟩) hsA _
                rw [← hu]
                clear hu ba XB IS
                have XB := xb
                clear xb
                obtain ⟨ta0, ta1, qa0, qa1⟩ := blk2 BA.out.row
                obtain ⟨tb0, tb1, qb0, qb1⟩ := blk2 BB.out.row
                refine hK.out _ _ ?_ (fun hH6 => ?_)
                · exact HKP.out _ XB
                clear hK K hH5
                (try simp only [Act.put, List.setIfInBounds_toArray, List.set_cons_zero, List.set_cons_succ])
                refine wpAnyH_ready (rs := [10]) (by kernel_rfl) (by simp) ?_
                refine (AllReadyH.cons (o := ({ dst := none, op := Op.store 31 (Operand.tmp 5) (Operand.tmp 37), type := 0, pos := "continued.go:43", after := #[{ on := 8, ground := Ground.data }, { on := 9, ground := Ground.chain }, { on := 0, ground := Ground.phase }, { on := 1, ground := Ground.phase }, { on := 2, ground := Ground.phase }, { on := 3, ground := Ground.phase }, { on := 4, ground := Ground.phase }, { on := 5, ground := Ground.phase }, { on := 6, ground := Ground.phase }, { on := 7, ground := Ground.phase }, { on := 8, ground := Ground.phase }, { on := 9, ground := Ground.phase }], guard := none } : Oper)) rfl (fun K hK => ?_) AllReadyH.nil)
                go_simp
                clear ta0 ta1 qa0 qa1 tb0 tb1 qb0 qb1
                obtain ⟨u4, hu⟩ : ∃ u, u = (u3.setCell ⟨bB, 0, none⟩ (.bool jA)).setCell ⟨bB, 1, none⟩ (.slice lA mA oA) := ⟨_, rfl⟩
                have bb := (show IBox u4 bB _ _ _ _ _ _ from by rw [hu]; exact IBox.put IN.out BB.out.row)
                replace BA := Lib.hid (show IBox u4 bA _ _ _ _ _ _ from by rw [hu]; exact BA.out.other BB.out.row hAB _ _)
                replace BB := Lib.hid bb
                have xb : Below w1.heap.size w1 u4 := by rw [hu]; exact (XB.setCell (p := ⟨bB, 0, none⟩) hsB _).setCell (p := ⟨bB, 1, none⟩) hsB _
                rw [← hu]
                clear hu bb XB IN
                have XB := xb
                clear xb
                obtain ⟨ta0, ta1, qa0, qa1⟩ := blk2 BA.out.row
                obtain ⟨tb0, tb1, qb0, qb1⟩ := blk2 BB.out.row
                refine hK.out _ _ ?_ (fun hH7 => ?_)
                · exact HKP.out _ XB
                clear hK K hH6
                (try simp only [Act.put, List.setIfInBounds_toArray, List.set_cons_zero, List.set_cons_succ])
                refine wpAnyH_done (by kernel_rfl) ?_ _
                refine NoPanic.normal ?_
                clear ta0 ta1 qa0 qa1 tb0 tb1 qb0 qb1
                go_wp2_with fail
                go_roundw
                case rel => exact .inr (.inl ⟨by go_num, _, _, _, _, _, _, _, _, _, _, BA.out, BB.out, by omega, by omega, XB⟩)
                case measure => simp [intOf]
              · go_simp
                refine hK.out _ _ ?_ (fun hH4 => ?_)
                · exact HKP.out _ XB
                clear hK K hH3
                (try simp only [Act.put, List.setIfInBounds_toArray, List.set_cons_zero, List.set_cons_succ])
                refine wpAnyH_ready (rs := [7]) (by kernel_rfl) (by simp) ?_
                refine (AllReadyH.cons (o := ({ dst := some 36, op := Op.call { callee := Callee.value (Operand.func 95), args := #[Operand.tmp 34, Operand.tmp 35], argTypes := #[31, 31] }, type := 31, pos := "continued.go:43", after := #[{ on := 5, ground := Ground.data }, { on := 6, ground := Ground.data }, { on := 5, ground := Ground.chain }], guard := none } : Oper)) rfl (fun K hK => ?_) AllReadyH.nil)
                go_simp
                clear ta0 ta1 qa0 qa1 tb0 tb1 qb0 qb1
                refine (add_int _ _ _ _ _ _ _ _ _ _ _ _ (1) IM.out BB.out.it (by omega) (by omega)).mono ?_
                rintro e u2 ⟨sS, aS, kS, cS, zS, rfl, iS, gS, ub⟩
                replace BA := Lib.hid (BA.out.below ub)
                replace BB := Lib.hid (BB.out.below ub)
                have IS := Lib.hid iS
                replace XB := XB.trans (ub.mono XB.size)
                clear iS ub
                obtain ⟨ta0, ta1, qa0, qa1⟩ := blk2 BA.out.row
                obtain ⟨tb0, tb1, qb0, qb1⟩ := blk2 BB.out.row
                refine hK.out _ _ ?_ (fun hH5 => ?_)
                · exact HKP.out _ XB
                clear hK K hH4
                (try simp only [Act.put, List.setIfInBounds_toArray, List.set_cons_zero, List.set_cons_succ])
                refine wpAnyH_ready (rs := [9]) (by kernel_rfl) (by simp) ?_
                refine (AllReadyH.cons (o := ({ dst := none, op := Op.store 31 (Operand.tmp 4) (Operand.tmp 36), type := 0, pos := "continued.go:43", after := #[{ on := 7, ground := Ground.data }, { on := 7, ground := Ground.chain }, { on := 0, ground := Ground.phase }, { on := 1, ground := Ground.phase }, { on := 2, ground := Ground.phase }, { on := 3, ground := Ground.phase }, { on := 4, ground := Ground.phase }, { on := 5, ground := Ground.phase }, { on := 6, ground := Ground.phase }, { on := 7, ground := Ground.phase }, { on := 8, ground := Ground.phase }], guard := none } : Oper)) rfl (fun K hK => ?_) AllReadyH.nil)
                go_simp
                clear ta0 ta1 qa0 qa1 tb0 tb1 qb0 qb1
                obtain ⟨u3, hu⟩ : ∃ u, u = (u2.setCell ⟨bA, 0, none⟩ (.bool sS)).setCell ⟨bA, 1, none⟩ (.slice aS kS cS) := ⟨_, rfl⟩
                have IN := Lib.hid (show IntAt u3 jA lA mA oA qA _ from by rw [hu]; exact BA.out.it.stored BA.out.row _ _)
                have ba := (show IBox u3 bA _ _ _ _ _ _ from by rw [hu]; exact IBox.put IS.out BA.out.row)
                replace BB := Lib.hid (show IBox u3 bB _ _ _ _ _ _ from by rw [hu]; exact BB.out.other BA.out.row hAB.symm _ _)
                replace BA := Lib.hid ba
                have xb : Below w1.heap.size w1 u3 := by rw [hu]; exact (XB.setCell (p := ⟨bA, 0, none⟩) hsA _).setCell (p := ⟨bA, 1, none⟩) hsA _
                rw [← hu]
                clear hu ba XB IS
                have XB := xb
                clear xb
                obtain ⟨ta0, ta1, qa0, qa1⟩ := blk2 BA.out.row
                obtain ⟨tb0, tb1, qb0, qb1⟩ := blk2 BB.out.row
                refine hK.out _ _ ?_ (fun hH6 => ?_)
                · exact HKP.out _ XB
                clear hK K hH5
                (try simp only [Act.put, List.setIfInBounds_toArray, List.set_cons_zero, List.set_cons_succ])
                refine wpAnyH_ready (rs := [10]) (by kernel_rfl) (by simp) ?_
                refine (AllReadyH.cons (o := ({ dst := none, op := Op.store 31 (Operand.tmp 5) (Operand.tmp 37), type := 0, pos := "continued.go:43", after := #[{ on := 8, ground := Ground.data }, { on := 9, ground := Ground.chain }, { on := 0, ground := Ground.phase }, { on := 1, ground := Ground.phase }, { on := 2, ground := Ground.phase }, { on := 3, ground := Ground.phase }, { on := 4, ground := Ground.phase }, { on := 5, ground := Ground.phase }, { on := 6, ground := Ground.phase }, { on := 7, ground := Ground.phase }, { on := 8, ground := Ground.phase }, { on := 9, ground := Ground.phase }], guard := none } : Oper)) rfl (fun K hK => ?_) AllReadyH.nil)
                go_simp
                clear ta0 ta1 qa0 qa1 tb0 tb1 qb0 qb1
                obtain ⟨u4, hu⟩ : ∃ u, u = (u3.setCell ⟨bB, 0, none⟩ (.bool jA)).setCell ⟨bB, 1, none⟩ (.slice lA mA oA) := ⟨_, rfl⟩
                have bb := (show IBox u4 bB _ _ _ _ _ _ from by rw [hu]; exact IBox.put IN.out BB.out.row)
                replace BA := Lib.hid (show IBox u4 bA _ _ _ _ _ _ from by rw [hu]; exact BA.out.other BB.out.row hAB _ _)
                replace BB := Lib.hid bb
                have xb : Below w1.heap.size w1 u4 := by rw [hu]; exact (XB.setCell (p := ⟨bB, 0, none⟩) hsB _).setCell (p := ⟨bB, 1, none⟩) hsB _
                rw [← hu]
                clear hu bb XB IN
                have XB := xb
                clear xb
                obtain ⟨ta0, ta1, qa0, qa1⟩ := blk2 BA.out.row
                obtain ⟨tb0, tb1, qb0, qb1⟩ := blk2 BB.out.row
                refine hK.out _ _ ?_ (fun hH7 => ?_)
                · exact HKP.out _ XB
                clear hK K hH6
                (try simp only [Act.put, List.setIfInBounds_toArray, List.set_cons_zero, List.set_cons_succ])
                refine wpAnyH_done (by kernel_rfl) ?_ _
                refine NoPanic.normal ?_
                clear ta0 ta1 qa0 qa1 tb0 tb1 qb0 qb1
                go_wp2_with fail
                go_roundw
                case rel => exact .inr (.inl ⟨by go_num, _, _, _, _, _, _, _, _, _, _, BA.out, BB.out, by omega, by omega, XB⟩)
                case measure => simp [intOf]
            · go_simp
              refine hK.out _ _ ?_ (fun hH3 => ?_)
              · exact HKP.out _ XB
              clear hK K hH2
              (try simp only [Act.put, List.setIfInBounds_toArray, List.set_cons_zero, List.set_cons_succ])
              refine wpAnyH_ready (rs := [6]) (by kernel_rfl) (by simp) ?_
              refine (AllReadyH.cons (o := ({ dst := some 35, op := Op.load 31 (Operand.tmp 5), type := 31, pos := "continued.go:43", after := #[], guard := none } : Oper)) rfl (fun K hK => ?_) AllReadyH.nil)
              go_simp
              refine hK.out _ _ ?_ (fun hH4 => ?_)
              · exact HKP.out _ XB
              clear hK K hH3
              (try simp only [Act.put, List.setIfInBounds_toArray, List.set_cons_zero, List.set_cons_succ])
              refine wpAnyH_ready (rs := [7]) (by kernel_rfl) (by simp) ?_
              refine (AllReadyH.cons (o := ({ dst := some 36, op := Op.call { callee := Callee.value (Operand.func 95), args := #[Operand.tmp 34, Operand.tmp 35], argTypes := #[31, 31] }, type := 31, pos := "continued.go:43", after := #[{ on := 5, ground := Ground.data }, { on := 6, ground := Ground.data }, { on := 5, ground := Ground.chain }], guard := none } : Oper)) rfl (fun K hK => ?_) AllReadyH.nil)
              go_simp
              clear ta0 ta1 qa0 qa1 tb0 tb1 qb0 qb1
              refine (add_int _ _ _ _ _ _ _ _ _ _ _ _ (1) IM.out BB.out.it (by omega) (by omega)).mono ?_
              rintro e u2 ⟨sS, aS, kS, cS, zS, rfl, iS, gS, ub⟩
              replace BA := Lib.hid (BA.out.below ub)
              replace BB := Lib.hid (BB.out.below ub)
              have IS := Lib.hid iS
              replace XB := XB.trans (ub.mono XB.size)
              clear iS ub
              obtain ⟨ta0, ta1, qa0, qa1⟩ := blk2 BA.out.row
              obtain ⟨tb0, tb1, qb0, qb1⟩ := blk2 BB.out.row
              refine hK.out _ _ ?_ (fun hH5 => ?_)
              · exact HKP.out _ XB
              clear hK K hH4
              (try simp only [Act.put, List.setIfInBounds_toArray, List.set_cons_zero, List.set_cons_succ])
              refine wpAnyH_ready (rs := [9]) (by kernel_rfl) (by simp) ?_
              refine (AllReadyH.cons (o := ({ dst := none, op := Op.store 31 (Operand.tmp 4) (Operand.tmp 36), type := 0, pos := "continued.go:43", after := #[{ on := 7, ground := Ground.data }, { on := 7, ground := Ground.chain }, { on := 0, ground := Ground.phase }, { on := 1, ground := Ground.phase }, { on := 2, ground := Ground.phase }, { on := 3, ground := Ground.phase }, { on := 4, ground := Ground.phase }, { on := 5, ground := Ground.phase }, { on := 6, ground := Ground.phase }, { on := 7, ground := Ground.phase }, { on := 8, ground := Ground.phase }], guard := none } : Oper)) rfl (fun K hK => ?_) AllReadyH.nil)
              go_simp
              clear ta0 ta1 qa0 qa1 tb0 tb1 qb0 qb1
              obtain ⟨u3, hu⟩ : ∃ u, u = (u2.setCell ⟨bA, 0, none⟩ (.bool sS)).setCell ⟨bA, 1, none⟩ (.slice aS kS cS) := ⟨_, rfl⟩
              have IN := Lib.hid (show IntAt u3 jA lA mA oA qA _ from by rw [hu]; exact BA.out.it.stored BA.out.row _ _)
              have ba := (show IBox u3 bA _ _ _ _ _ _ from by rw [hu]; exact IBox.put IS.out BA.out.row)
              replace BB := Lib.hid (show IBox u3 bB _ _ _ _ _ _ from by rw [hu]; exact BB.out.other BA.out.row hAB.symm _ _)
              replace BA := Lib.hid ba
              have xb : Below w1.heap.size w1 u3 := by rw [hu]; exact (XB.setCell (p := ⟨bA, 0, none⟩) hsA _).setCell (p := ⟨bA, 1, none⟩) hsA _
              rw [← hu]
              clear hu ba XB IS
              have XB := xb
              clear xb
              obtain ⟨ta0, ta1, qa0, qa1⟩ := blk2 BA.out.row
              obtain ⟨tb0, tb1, qb0, qb1⟩ := blk2 BB.out.row
              refine hK.out _ _ ?_ (fun hH6 => ?_)
              · exact HKP.out _ XB
              clear hK K hH5
              (try simp only [Act.put, List.setIfInBounds_toArray, List.set_cons_zero, List.set_cons_succ])
              refine wpAnyH_ready (rs := [10]) (by kernel_rfl) (by simp) ?_
              refine (AllReadyH.cons (o := ({ dst := none, op := Op.store 31 (Operand.tmp 5) (Operand.tmp 37), type := 0, pos := "continued.go:43", after := #[{ on := 8, ground := Ground.data }, { on := 9, ground := Ground.chain }, { on := 0, ground := Ground.phase }, { on := 1, ground := Ground.phase }, { on := 2, ground := Ground.phase }, { on := 3, ground := Ground.phase }, { on := 4, ground := Ground.phase }, { on := 5, ground := Ground.phase }, { on := 6, ground := Ground.phase }, { on := 7, ground := Ground.phase }, { on := 8, ground := Ground.phase }, { on := 9, ground := Ground.phase }], guard := none } : Oper)) rfl (fun K hK => ?_) AllReadyH.nil)
              go_simp
              clear ta0 ta1 qa0 qa1 tb0 tb1 qb0 qb1
              obtain ⟨u4, hu⟩ : ∃ u, u = (u3.setCell ⟨bB, 0, none⟩ (.bool jA)).setCell ⟨bB, 1, none⟩ (.slice lA mA oA) := ⟨_, rfl⟩
              have bb := (show IBox u4 bB _ _ _ _ _ _ from by rw [hu]; exact IBox.put IN.out BB.out.row)
              replace BA := Lib.hid (show IBox u4 bA _ _ _ _ _ _ from by rw [hu]; exact BA.out.other BB.out.row hAB _ _)
              replace BB := Lib.hid bb
              have xb : Below w1.heap.size w1 u4 := by rw [hu]; exact (XB.setCell (p := ⟨bB, 0, none⟩) hsB _).setCell (p := ⟨bB, 1, none⟩) hsB _
              rw [← hu]
              clear hu bb XB IN
              have XB := xb
              clear xb
              obtain ⟨ta0, ta1, qa0, qa1⟩ := blk2 BA.out.row
              obtain ⟨tb0, tb1, qb0, qb1⟩ := blk2 BB.out.row
              refine hK.out _ _ ?_ (fun hH7 => ?_)
              · exact HKP.out _ XB
              clear hK K hH6
              (try simp only [Act.put, List.setIfInBounds_toArray, List.set_cons_zero, List.set_cons_succ])
              refine wpAnyH_done (by kernel_rfl) ?_ _
              refine NoPanic.normal ?_
              clear ta0 ta1 qa0 qa1 tb0 tb1 qb0 qb1
              go_wp2_with fail
              go_roundw
              case rel => exact .inr (.inl ⟨by go_num, _, _, _, _, _, _, _, _, _, _, BA.out, BB.out, by omega, by omega, XB⟩)
              case measure => simp [intOf]
          · go_simp
            refine hK.out _ _ ?_ (fun hH2 => ?_)
            · exact HKP.out _ XB
            clear hK K hH1
            (try simp only [Act.put, List.setIfInBounds_toArray, List.set_cons_zero, List.set_cons_succ])
            refine wpAnyH_ready (rs := [5, 8]) (by kernel_rfl) (by simp) ?_
            refine (AllReadyH.cons (o := ({ dst := some 34, op := Op.call { callee := Callee.value (Operand.func 84), args := #[Operand.tmp 32, Operand.tmp 33], argTypes := #[31, 31] }, type := 31, pos := "continued.go:43", after := #[{ on := 3, ground := Ground.data }, { on := 4, ground := Ground.data }], guard := none } : Oper)) rfl (fun K hK => ?_) (AllReadyH.cons (o := ({ dst := some 37, op := Op.load 31 (Operand.tmp 4), type := 31, pos := "continued.go:43", after := #[], guard := none } : Oper)) rfl (fun K hK => ?_) AllReadyH.nil))
            · go_simp
              clear ta0 ta1 qa0 qa1 tb0 tb1 qb0 qb1
              refine (mul_int _ _ _ _ _ _ _ _ _ _ _ (x1) (x2) (H.out.i1.below XB) BA.out.it (by omega) (by omega)).mono ?_
              rintro e u1 ⟨sM, aM, kM, cM, zM, rfl, iM, gM, ub⟩
              replace BA := Lib.hid (BA.out.below ub)
              replace BB := Lib.hid (BB.out.below ub)
              have IM := Lib.hid iM
              replace XB := XB.trans (ub.mono XB.size)
              clear iM ub
              obtain ⟨ta0, ta1, qa0, qa1⟩ := blk2 BA.out.row
              obtain ⟨tb0, tb1, qb0, qb1⟩ := blk2 BB.out.row
              refine hK.out _ _ ?_ (fun hH3 => ?_)
              · exact HKP.out _ XB
              clear hK K hH2
              (try simp only [Act.put, List.setIfInBounds_toArray, List.set_cons_zero, List.set_cons_succ])
              refine wpAnyH_ready (rs := [7, 8]) (by kernel_rfl) (by simp) ?_
              refine (AllReadyH.cons (o := ({ dst := some 36, op := Op.call { callee := Callee.value (Operand.func 95), args := #[Operand.tmp 34, Operand.tmp 35], argTypes := #[31, 31] }, type := 31, pos := "continued.go:43", after := #[{ on := 5, ground := Ground.data }, { on := 6, ground := Ground.data }, { on := 5, ground := Ground.chain }], guard := none } : Oper)) rfl (fun K hK => ?_) (AllReadyH.cons (o := ({ dst := some 37, op := Op.load 31 (Operand.tmp 4), type := 31, pos := "continued.go:43", after := #[], guard := none } : Oper)) rfl (fun K hK => ?_) AllReadyH.nil))
              · go_simp
                clear ta0 ta1 qa0 qa1 tb0 tb1 qb0 qb1
                refine (add_int _ _ _ _ _ _ _ _ _ _ _ _ (1) IM.out BB.out.it (by omega) (by omega)).mono ?_
                rintro e u2 ⟨sS, aS, kS, cS, zS, rfl, iS, gS, ub⟩
                replace BA := Lib.hid (BA.out.below ub)
                replace BB := Lib.hid (BB.out.below ub)
                have IS := Lib.hid iS
                replace XB := XB.trans (ub.mono XB.size)
                clear iS ub
                obtain ⟨ta0, ta1, qa0, qa1⟩ := blk2 BA.out.row
                obtain ⟨tb0, tb1, qb0, qb1⟩ := blk2 BB.out.row
                refine hK.out _ _ ?_ (fun hH4 => ?_)
                · exact HKP.out _ XB
                clear hK K hH3
                (try simp only [Act.put, List.setIfInBounds_toArray, List.set_cons_zero, List.set_cons_succ])
                refine wpAnyH_ready (rs := [8]) (by kernel_rfl) (by simp) ?_
                refine (AllReadyH.cons (o := ({ dst := some 37, op := Op.load 31 (Operand.tmp 4), type := 31, pos := "continued.go:43", after := #[], guard := none } : Oper)) rfl (fun K hK => ?_) AllReadyH.nil)
                go_simp
                refine hK.out _ _ ?_ (fun hH5 => ?_)
                · exact HKP.out _ XB
                clear hK K hH4
                (try simp only [Act.put, List.setIfInBounds_toArray, List.set_cons_zero, List.set_cons_succ])
                refine wpAnyH_ready (rs := [9]) (by kernel_rfl) (by simp) ?_
                refine (AllReadyH.cons (o := ({ dst := none, op := Op.store 31 (Operand.tmp 4) (Operand.tmp 36), type := 0, pos := "continued.go:43", after := #[{ on := 7, ground := Ground.data }, { on := 7, ground := Ground.chain }, { on := 0, ground := Ground.phase }, { on := 1, ground := Ground.phase }, { on := 2, ground := Ground.phase }, { on := 3, ground := Ground.phase }, { on := 4, ground := Ground.phase }, { on := 5, ground := Ground.phase }, { on := 6, ground := Ground.phase }, { on := 7, ground := Ground.phase }, { on := 8, ground := Ground.phase }], guard := none } : Oper)) rfl (fun K hK => ?_) AllReadyH.nil)
                go_simp
                clear ta0 ta1 qa0 qa1 tb0 tb1 qb0 qb1
                obtain ⟨u3, hu⟩ : ∃ u, u = (u2.setCell ⟨bA, 0, none⟩ (.bool sS)).setCell ⟨bA, 1, none⟩ (.slice aS kS cS) := ⟨_, rfl⟩
                have IN := Lib.hid (show IntAt u3 jA lA mA oA qA _ from by rw [hu]; exact BA.out.it.stored BA.out.row _ _)
                have ba := (show IBox u3 bA _ _ _ _ _ _ from by rw [hu]; exact IBox.put IS.out BA.out.row)
                replace BB := Lib.hid (show IBox u3 bB _ _ _ _ _ _ from by rw [hu]; exact BB.out.other BA.out.row hAB.symm _ _)
                replace BA := Lib.hid ba
                have xb : Below w1.heap.size w1 u3 := by rw [hu]; exact (XB.setCell (p := ⟨bA, 0, none⟩) hsA _).setCell (p := ⟨bA, 1, none⟩) hsA _
                rw [← hu]
                clear hu ba XB IS
                have XB := xb
                clear xb
                obtain ⟨ta0, ta1, qa0, qa1⟩ := blk2 BA.out.row
                obtain ⟨tb0, tb1, qb0, qb1⟩ := blk2 BB.out.row
                refine hK.out _ _ ?_ (fun hH6 => ?_)
                · exact HKP.out _ XB
                clear hK K hH5
                (try simp only [Act.put, List.setIfInBounds_toArray, List.set_cons_zero, List.set_cons_succ])
                refine wpAnyH_ready (rs := [10]) (by kernel_rfl) (by simp) ?_
                refine (AllReadyH.cons (o := ({ dst := none, op := Op.store 31 (Operand.tmp 5) (Operand.tmp 37), type := 0, pos := "continued.go:43", after := #[{ on := 8, ground := Ground.data }, { on := 9, ground := Ground.chain }, { on := 0, ground := Ground.phase }, { on := 1, ground := Ground.phase }, { on := 2, ground := Ground.phase }, { on := 3, ground := Ground.phase }, { on := 4, ground := Ground.phase }, { on := 5, ground := Ground.phase }, { on := 6, ground := Ground.phase }, { on := 7, ground := Ground.phase }, { on := 8, ground := Ground.phase }, { on := 9, ground := Ground.phase }], guard := none } : Oper)) rfl (fun K hK => ?_) AllReadyH.nil)
                go_simp
                clear ta0 ta1 qa0 qa1 tb0 tb1 qb0 qb1
                obtain ⟨u4, hu⟩ : ∃ u, u = (u3.setCell ⟨bB, 0, none⟩ (.bool jA)).setCell ⟨bB, 1, none⟩ (.slice lA mA oA) := ⟨_, rfl⟩
                have bb := (show IBox u4 bB _ _ _ _ _ _ from by rw [hu]; exact IBox.put IN.out BB.out.row)
                replace BA := Lib.hid (show IBox u4 bA _ _ _ _ _ _ from by rw [hu]; exact BA.out.other BB.out.row hAB _ _)
                replace BB := Lib.hid bb
                have xb : Below w1.heap.size w1 u4 := by rw [hu]; exact (XB.setCell (p := ⟨bB, 0, none⟩) hsB _).setCell (p := ⟨bB, 1, none⟩) hsB _
                rw [← hu]
                clear hu bb XB IN
                have XB := xb
                clear xb
                obtain ⟨ta0, ta1, qa0, qa1⟩ := blk2 BA.out.row
                obtain ⟨tb0, tb1, qb0, qb1⟩ := blk2 BB.out.row
                refine hK.out _ _ ?_ (fun hH7 => ?_)
                · exact HKP.out _ XB
                clear hK K hH6
                (try simp only [Act.put, List.setIfInBounds_toArray, List.set_cons_zero, List.set_cons_succ])
                refine wpAnyH_done (by kernel_rfl) ?_ _
                refine NoPanic.normal ?_
                clear ta0 ta1 qa0 qa1 tb0 tb1 qb0 qb1
                go_wp2_with fail
                go_roundw
                case rel => exact .inr (.inl ⟨by go_num, _, _, _, _, _, _, _, _, _, _, BA.out, BB.out, by omega, by omega, XB⟩)
                case measure => simp [intOf]
              · go_simp
                refine hK.out _ _ ?_ (fun hH4 => ?_)
                · exact HKP.out _ XB
                clear hK K hH3
                (try simp only [Act.put, List.setIfInBounds_toArray, List.set_cons_zero, List.set_cons_succ])
                refine wpAnyH_ready (rs := [7]) (by kernel_rfl) (by simp) ?_
                refine (AllReadyH.cons (o := ({ dst := some 36, op := Op.call { callee := Callee.value (Operand.func 95), args := #[Operand.tmp 34, Operand.tmp 35], argTypes := #[31, 31] }, type := 31, pos := "continued.go:43", after := #[{ on := 5, ground := Ground.data }, { on := 6, ground := Ground.data }, { on := 5, ground := Ground.chain }], guard := none } : Oper)) rfl (fun K hK => ?_) AllReadyH.nil)
                go_simp
                clear ta0 ta1 qa0 qa1 tb0 tb1 qb0 qb1
                refine (add_int _ _ _ _ _ _ _ _ _ _ _ _ (1) IM.out BB.out.it (by omega) (by omega)).mono ?_
                rintro e u2 ⟨sS, aS, kS, cS, zS, rfl, iS, gS, ub⟩
                replace BA := Lib.hid (BA.out.below ub)
                replace BB := Lib.hid (BB.out.below ub)
                have IS := Lib.hid iS
                replace XB := XB.trans (ub.mono XB.size)
                clear iS ub
                obtain ⟨ta0, ta1, qa0, qa1⟩ := blk2 BA.out.row
                obtain ⟨tb0, tb1, qb0, qb1⟩ := blk2 BB.out.row
                refine hK.out _ _ ?_ (fun hH5 => ?_)
                · exact HKP.out _ XB
                clear hK K hH4
                (try simp only [Act.put, List.setIfInBounds_toArray, List.set_cons_zero, List.set_cons_succ])
                refine wpAnyH_ready (rs := [9]) (by kernel_rfl) (by simp) ?_
                refine (AllReadyH.cons (o := ({ dst := none, op := Op.store 31 (Operand.tmp 4) (Operand.tmp 36), type := 0, pos := "continued.go:43", after := #[{ on := 7, ground := Ground.data }, { on := 7, ground := Ground.chain }, { on := 0, ground := Ground.phase }, { on := 1, ground := Ground.phase }, { on := 2, ground := Ground.phase }, { on := 3, ground := Ground.phase }, { on := 4, ground := Ground.phase }, { on := 5, ground := Ground.phase }, { on := 6, ground := Ground.phase }, { on := 7, ground := Ground.phase }, { on := 8, ground := Ground.phase }], guard := none } : Oper)) rfl (fun K hK => ?_) AllReadyH.nil)
                go_simp
                clear ta0 ta1 qa0 qa1 tb0 tb1 qb0 qb1
                obtain ⟨u3, hu⟩ : ∃ u, u = (u2.setCell ⟨bA, 0, none⟩ (.bool sS)).setCell ⟨bA, 1, none⟩ (.slice aS kS cS) := ⟨_, rfl⟩
                have IN := Lib.hid (show IntAt u3 jA lA mA oA qA _ from by rw [hu]; exact BA.out.it.stored BA.out.row _ _)
                have ba := (show IBox u3 bA _ _ _ _ _ _ from by rw [hu]; exact IBox.put IS.out BA.out.row)
                replace BB := Lib.hid (show IBox u3 bB _ _ _ _ _ _ from by rw [hu]; exact BB.out.other BA.out.row hAB.symm _ _)
                replace BA := Lib.hid ba
                have xb : Below w1.heap.size w1 u3 := by rw [hu]; exact (XB.setCell (p := ⟨bA, 0, none⟩) hsA _).setCell (p := ⟨bA, 1, none⟩) hsA _
                rw [← hu]
                clear hu ba XB IS
                have XB := xb
                clear xb
                obtain ⟨ta0, ta1, qa0, qa1⟩ := blk2 BA.out.row
                obtain ⟨tb0, tb1, qb0, qb1⟩ := blk2 BB.out.row
                refine hK.out _ _ ?_ (fun hH6 => ?_)
                · exact HKP.out _ XB
                clear hK K hH5
                (try simp only [Act.put, List.setIfInBounds_toArray, List.set_cons_zero, List.set_cons_succ])
                refine wpAnyH_ready (rs := [10]) (by kernel_rfl) (by simp) ?_
                refine (AllReadyH.cons (o := ({ dst := none, op := Op.store 31 (Operand.tmp 5) (Operand.tmp 37), type := 0, pos := "continued.go:43", after := #[{ on := 8, ground := Ground.data }, { on := 9, ground := Ground.chain }, { on := 0, ground := Ground.phase }, { on := 1, ground := Ground.phase }, { on := 2, ground := Ground.phase }, { on := 3, ground := Ground.phase }, { on := 4, ground := Ground.phase }, { on := 5, ground := Ground.phase }, { on := 6, ground := Ground.phase }, { on := 7, ground := Ground.phase }, { on := 8, ground := Ground.phase }, { on := 9, ground := Ground.phase }], guard := none } : Oper)) rfl (fun K hK => ?_) AllReadyH.nil)
                go_simp
                clear ta0 ta1 qa0 qa1 tb0 tb1 qb0 qb1
                obtain ⟨u4, hu⟩ : ∃ u, u = (u3.setCell ⟨bB, 0, none⟩ (.bool jA)).setCell ⟨bB, 1, none⟩ (.slice lA mA oA) := ⟨_, rfl⟩
                have bb := (show IBox u4 bB _ _ _ _ _ _ from by rw [hu]; exact IBox.put IN.out BB.out.row)
                replace BA := Lib.hid (show IBox u4 bA _ _ _ _ _ _ from by rw [hu]; exact BA.out.other BB.out.row hAB _ _)
                replace BB := Lib.hid bb
                have xb : Below w1.heap.size w1 u4 := by rw [hu]; exact (XB.setCell (p := ⟨bB, 0, none⟩) hsB _).setCell (p := ⟨bB, 1, none⟩) hsB _
                rw [← hu]
                clear hu bb XB IN
                have XB := xb
                clear xb
                obtain ⟨ta0, ta1, qa0, qa1⟩ := blk2 BA.out.row
                obtain ⟨tb0, tb1, qb0, qb1⟩ := blk2 BB.out.row
                refine hK.out _ _ ?_ (fun hH7 => ?_)
                · exact HKP.out _ XB
                clear hK K hH6
                (try simp only [Act.put, List.setIfInBounds_toArray, List.set_cons_zero, List.set_cons_succ])
                refine wpAnyH_done (by kernel_rfl) ?_ _
                refine NoPanic.normal ?_
                clear ta0 ta1 qa0 qa1 tb0 tb1 qb0 qb1
                go_wp2_with fail
                go_roundw
                case rel => exact .inr (.inl ⟨by go_num, _, _, _, _, _, _, _, _, _, _, BA.out, BB.out, by omega, by omega, XB⟩)
                case measure => simp [intOf]
            · go_simp
              refine hK.out _ _ ?_ (fun hH3 => ?_)
              · exact HKP.out _ XB
              clear hK K hH2
              (try simp only [Act.put, List.setIfInBounds_toArray, List.set_cons_zero, List.set_cons_succ])
              refine wpAnyH_ready (rs := [5]) (by kernel_rfl) (by simp) ?_
              refine (AllReadyH.cons (o := ({ dst := some 34, op := Op.call { callee := Callee.value (Operand.func 84), args := #[Operand.tmp 32, Operand.tmp 33], argTypes := #[31, 31] }, type := 31, pos := "continued.go:43", after := #[{ on := 3, ground := Ground.data }, { on := 4, ground := Ground.data }], guard := none } : Oper)) rfl (fun K hK => ?_) AllReadyH.nil)
              go_simp
              clear ta0 ta1 qa0 qa1 tb0 tb1 qb0 qb1
              refine (mul_int _ _ _ _ _ _ _ _ _ _ _ (x1) (x2) (H.out.i1.below XB) BA.out.it (by omega) (by omega)).mono ?_
              rintro e u1 ⟨sM, aM, kM, cM, zM, rfl, iM, gM, ub⟩
              replace BA := Lib.hid (BA.out.below ub)
              replace BB := Lib.hid (BB.out.below ub)
              have IM := Lib.hid iM
              replace XB := XB.trans (ub.mono XB.size)
              clear iM ub
              obtain ⟨ta0, ta1, qa0, qa1⟩ := blk2 BA.out.row
              obtain ⟨tb0, tb1, qb0, qb1⟩ := blk2 BB.out.row
              refine hK.out _ _ ?_ (fun hH4 => ?_)
              · exact HKP.out _ XB
              clear hK K hH3
              (try simp only [Act.put, List.setIfInBounds_toArray, List.set_cons_zero, List.set_cons_succ])
              refine wpAnyH_ready (rs := [7]) (by kernel_rfl) (by simp) ?_
              refine (AllReadyH.cons (o := ({ dst := some 36, op := Op.call { callee := Callee.value (Operand.func 95), args := #[Operand.tmp 34, Operand.tmp 35], argTypes := #[31, 31] }, type := 31, pos := "continued.go:43", after := #[{ on := 5, ground := Ground.data }, { on := 6, ground := Ground.data }, { on := 5, ground := Ground.chain }], guard := none } : Oper)) rfl (fun K hK => ?_) AllReadyH.nil)
              go_simp
              clear ta0 ta1 qa0 qa1 tb0 tb1 qb0 qb1
              refine (add_int _ _ _ _ _ _ _ _ _ _ _ _ (1) IM.out BB.out.it (by omega) (by omega)).mono ?_
              rintro e u2 ⟨sS, aS, kS, cS, zS, rfl, iS, gS, ub⟩
              replace BA := Lib.hid (BA.out.below ub)
              replace BB := Lib.hid (BB.out.below ub)
              have IS := Lib.hid iS
              replace XB := XB.trans (ub.mono XB.size)
              clear iS ub
              obtain ⟨ta0, ta1, qa0, qa1⟩ := blk2 BA.out.row
              obtain ⟨tb0, tb1, qb0, qb1⟩ := blk2 BB.out.row
              refine hK.out _ _ ?_ (fun hH5 => ?_)
              · exact HKP.out _ XB
              clear hK K hH4
              (try simp only [Act.put, List.setIfInBounds_toArray, List.set_cons_zero, List.set_cons_succ])
              refine wpAnyH_ready (rs := [9]) (by kernel_rfl) (by simp) ?_
              refine (AllReadyH.cons (o := ({ dst := none, op := Op.store 31 (Operand.tmp 4) (Operand.tmp 36), type := 0, pos := "continued.go:43", after := #[{ on := 7, ground := Ground.data }, { on := 7, ground := Ground.chain }, { on := 0, ground := Ground.phase }, { on := 1, ground := Ground.phase }, { on := 2, ground := Ground.phase }, { on := 3, ground := Ground.phase }, { on := 4, ground := Ground.phase }, { on := 5, ground := Ground.phase }, { on := 6, ground := Ground.phase }, { on := 7, ground := Ground.phase }, { on := 8, ground := Ground.phase }], guard := none } : Oper)) rfl (fun K hK => ?_) AllReadyH.nil)
              go_simp
              clear ta0 ta1 qa0 qa1 tb0 tb1 qb0 qb1
              obtain ⟨u3, hu⟩ : ∃ u, u = (u2.setCell ⟨bA, 0, none⟩ (.bool sS)).setCell ⟨bA, 1, none⟩ (.slice aS kS cS) := ⟨_, rfl⟩
              have IN := Lib.hid (show IntAt u3 jA lA mA oA qA _ from by rw [hu]; exact BA.out.it.stored BA.out.row _ _)
              have ba := (show IBox u3 bA _ _ _ _ _ _ from by rw [hu]; exact IBox.put IS.out BA.out.row)
              replace BB := Lib.hid (show IBox u3 bB _ _ _ _ _ _ from by rw [hu]; exact BB.out.other BA.out.row hAB.symm _ _)
              replace BA := Lib.hid ba
              have xb : Below w1.heap.size w1 u3 := by rw [hu]; exact (XB.setCell (p := ⟨bA, 0, none⟩) hsA _).setCell (p := ⟨bA, 1, none⟩) hsA _
              rw [← hu]
              clear hu ba XB IS
              have XB := xb
              clear xb
              obtain ⟨ta0, ta1, qa0, qa1⟩ := blk2 BA.out.row
              obtain ⟨tb0, tb1, qb0, qb1⟩ := blk2 BB.out.row
              refine hK.out _ _ ?_ (fun hH6 => ?_)
              · exact HKP.out _ XB
              clear hK K hH5
              (try simp only [Act.put, List.setIfInBounds_toArray, List.set_cons_zero, List.set_cons_succ])
              refine wpAnyH_ready (rs := [10]) (by kernel_rfl) (by simp) ?_
              refine (AllReadyH.cons (o := ({ dst := none, op := Op.store 31 (Operand.tmp 5) (Operand.tmp 37), type := 0, pos := "continued.go:43", after := #[{ on := 8, ground := Ground.data }, { on := 9, ground := Ground.chain }, { on := 0, ground := Ground.phase }, { on := 1, ground := Ground.phase }, { on := 2, ground := Ground.phase }, { on := 3, ground := Ground.phase }, { on := 4, ground := Ground.phase }, { on := 5, ground := Ground.phase }, { on := 6, ground := Ground.phase }, { on := 7, ground := Ground.phase }, { on := 8, ground := Ground.phase }, { on := 9, ground := Ground.phase }], guard := none } : Oper)) rfl (fun K hK => ?_) AllReadyH.nil)
              go_simp
              clear ta0 ta1 qa0 qa1 tb0 tb1 qb0 qb1
              obtain ⟨u4, hu⟩ : ∃ u, u = (u3.setCell ⟨bB, 0, none⟩ (.bool jA)).setCell ⟨bB, 1, none⟩ (.slice lA mA oA) := ⟨_, rfl⟩
              have bb := (show IBox u4 bB _ _ _ _ _ _ from by rw [hu]; exact IBox.put IN.out BB.out.row)
              replace BA := Lib.hid (show IBox u4 bA _ _ _ _ _ _ from by rw [hu]; exact BA.out.other BB.out.row hAB _ _)
              replace BB := Lib.hid bb
              have xb : Below w1.heap.size w1 u4 := by rw [hu]; exact (XB.setCell (p := ⟨bB, 0, none⟩) hsB _).setCell (p := ⟨bB, 1, none⟩) hsB _
              rw [← hu]
              clear hu bb XB IN
              have XB := xb
              clear xb
              obtain ⟨ta0, ta1, qa0, qa1⟩ := blk2 BA.out.row
              obtain ⟨tb0, tb1, qb0, qb1⟩ := blk2 BB.out.row
              refine hK.out _ _ ?_ (fun hH7 => ?_)
              · exact HKP.out _ XB
              clear hK K hH6
              (try simp only [Act.put, List.setIfInBounds_toArray, List.set_cons_zero, List.set_cons_succ])
              refine wpAnyH_done (by kernel_rfl) ?_ _
              refine NoPanic.normal ?_
              clear ta0 ta1 qa0 qa1 tb0 tb1 qb0 qb1
              go_wp2_with fail
              go_roundw
              case rel => exact .inr (.inl ⟨by go_num, _, _, _, _, _, _, _, _, _, _, BA.out, BB.out, by omega, by omega, XB⟩)
              case measure => simp [intOf]
          · go_simp
            refine hK.out _ _ ?_ (fun hH2 => ?_)
            · exact HKP.out _ XB
            clear hK K hH1
            (try simp only [Act.put, List.setIfInBounds_toArray, List.set_cons_zero, List.set_cons_succ])
            refine wpAnyH_ready (rs := [5, 6]) (by kernel_rfl) (by simp) ?_
            refine (AllReadyH.cons (o := ({ dst := some 34, op := Op.call { callee := Callee.value (Operand.func 84), args := #[Operand.tmp 32, Operand.tmp 33], argTypes := #[31, 31] }, type := 31, pos := "continued.go:43", after := #[{ on := 3, ground := Ground.data }, { on := 4, ground := Ground.data }], guard := none } : Oper)) rfl (fun K hK => ?_) (AllReadyH.cons (o := ({ dst := some 35, op := Op.load 31 (Operand.tmp 5), type := 31, pos := "continued.go:43", after := #[], guard := none } : Oper)) rfl (fun K hK => ?_) AllReadyH.nil))
            · go_simp
              clear ta0 ta1 qa0 qa1 tb0 tb1 qb0 qb1
              refine (mul_int _ _ _ _ _ _ _ _ _ _ _ (x1) (x2) (H.out.i1.below XB) BA.out.it (by omega) (by omega)).mono ?_
              rintro e u1 ⟨sM, aM, kM, cM, zM, rfl, iM, gM, ub⟩
              replace BA := Lib.hid (BA.out.below ub)
              replace BB := Lib.hid (BB.out.below ub)
              have IM := Lib.hid iM
              replace XB := XB.trans (ub.mono XB.size)
              clear iM ub
              obtain ⟨ta0, ta1, qa0, qa1⟩ := blk2 BA.out.row
              obtain ⟨tb0, tb1, qb0, qb1⟩ := blk2 BB.out.row
              refine hK.out _ _ ?_ (fun hH3 => ?_)
              · exact HKP.out _ XB
              clear hK K hH2
              (try simp only [Act.put, List.setIfInBounds_toArray, List.set_cons_zero, List.set_cons_succ])
              refine wpAnyH_ready (rs := [6]) (by kernel_rfl) (by simp) ?_
              refine (AllReadyH.cons (o := ({ dst := some 35, op := Op.load 31 (Operand.tmp 5), type := 31, pos := "continued.go:43", after := #[], guard := none } : Oper)) rfl (fun K hK => ?_) AllReadyH.nil)
              go_simp
              refine hK.out _ _ ?_ (fun hH4 => ?_)
              · exact HKP.out _ XB
              clear hK K hH3
              (try simp only [Act.put, List.setIfInBounds_toArray, List.set_cons_zero, List.set_cons_succ])
              refine wpAnyH_ready (rs := [7]) (by kernel_rfl) (by simp) ?_
              refine (AllReadyH.cons (o := ({ dst := some 36, op := Op.call { callee := Callee.value (Operand.func 95), args := #[Operand.tmp 34, Operand.tmp 35], argTypes := #[31, 31] }, type := 31, pos := "continued.go:43", after := #[{ on := 5, ground := Ground.data }, { on := 6, ground := Ground.data }, { on := 5, ground := Ground.chain }], guard := none } : Oper)) rfl (fun K hK => ?_) AllReadyH.nil)
              go_simp
              clear ta0 ta1 qa0 qa1 tb0 tb1 qb0 qb1
              refine (add_int _ _ _ _ _ _ _ _ _ _ _ _ (1) IM.out BB.out.it (by omega) (by omega)).mono ?_
              rintro e u2 ⟨sS, aS, kS, cS, zS, rfl, iS, gS, ub⟩
              replace BA := Lib.hid (BA.out.below ub)
              replace BB := Lib.hid (BB.out.below ub)
              have IS := Lib.hid iS
              replace XB := XB.trans (ub.mono XB.size)
              clear iS ub
              obtain ⟨ta0, ta1, qa0, qa1⟩ := blk2 BA.out.row
              obtain ⟨tb0, tb1, qb0, qb1⟩ := blk2 BB.out.row
              refine hK.out _ _ ?_ (fun hH5 => ?_)
              · exact HKP.out _ XB
              clear hK K hH4
              (try simp only [Act.put, List.setIfInBounds_toArray, List.set_cons_zero, List.set_cons_succ])
              refine wpAnyH_ready (rs := [9]) (by kernel_rfl) (by simp) ?_
              refine (AllReadyH.cons (o := ({ dst := none, op := Op.store 31 (Operand.tmp 4) (Operand.tmp 36), type := 0, pos := "continued.go:43", after := #[{ on := 7, ground := Ground.data }, { on := 7, ground := Ground.chain }, { on := 0, ground := Ground.phase }, { on := 1, ground := Ground.phase }, { on := 2, ground := Ground.phase }, { on := 3, ground := Ground.phase }, { on := 4, ground := Ground.phase }, { on := 5, ground := Ground.phase }, { on := 6, ground := Ground.phase }, { on := 7, ground := Ground.phase }, { on := 8, ground := Ground.phase }], guard := none } : Oper)) rfl (fun K hK => ?_) AllReadyH.nil)
              go_simp
              clear ta0 ta1 qa0 qa1 tb0 tb1 qb0 qb1
              obtain ⟨u3, hu⟩ : ∃ u, u = (u2.setCell ⟨bA, 0, none⟩ (.bool sS)).setCell ⟨bA, 1, none⟩ (.slice aS kS cS) := ⟨_, rfl⟩
              have IN := Lib.hid (show IntAt u3 jA lA mA oA qA _ from by rw [hu]; exact BA.out.it.stored BA.out.row _ _)
              have ba := (show IBox u3 bA _ _ _ _ _ _ from by rw [hu]; exact IBox.put IS.out BA.out.row)
              replace BB := Lib.hid (show IBox u3 bB _ _ _ _ _ _ from by rw [hu]; exact BB.out.other BA.out.row hAB.symm _ _)
              replace BA := Lib.hid ba
              have xb : Below w1.heap.size w1 u3 := by rw [hu]; exact (XB.setCell (p := ⟨bA, 0, none⟩) hsA _).setCell (p := ⟨bA, 1, none⟩) hsA _
              rw [← hu]
              clear hu ba XB IS
              have XB := xb
              clear xb
              obtain ⟨ta0, ta1, qa0, qa1⟩ := blk2 BA.out.row
              obtain ⟨tb0, tb1, qb0, qb1⟩ := blk2 BB.out.row
              refine hK.out _ _ ?_ (fun hH6 => ?_)
              · exact HKP.out _ XB
              clear hK K hH5
              (try simp only [Act.put, List.setIfInBounds_toArray, List.set_cons_zero, List.set_cons_succ])
              refine wpAnyH_ready (rs := [10]) (by kernel_rfl) (by simp) ?_
              refine (AllReadyH.cons (o := ({ dst := none, op := Op.store 31 (Operand.tmp 5) (Operand.tmp 37), type := 0, pos := "continued.go:43", after := #[{ on := 8, ground := Ground.data }, { on := 9, ground := Ground.chain }, { on := 0, ground := Ground.phase }, { on := 1, ground := Ground.phase }, { on := 2, ground := Ground.phase }, { on := 3, ground := Ground.phase }, { on := 4, ground := Ground.phase }, { on := 5, ground := Ground.phase }, { on := 6, ground := Ground.phase }, { on := 7, ground := Ground.phase }, { on := 8, ground := Ground.phase }, { on := 9, ground := Ground.phase }], guard := none } : Oper)) rfl (fun K hK => ?_) AllReadyH.nil)
              go_simp
              clear ta0 ta1 qa0 qa1 tb0 tb1 qb0 qb1
              obtain ⟨u4, hu⟩ : ∃ u, u = (u3.setCell ⟨bB, 0, none⟩ (.bool jA)).setCell ⟨bB, 1, none⟩ (.slice lA mA oA) := ⟨_, rfl⟩
              have bb := (show IBox u4 bB _ _ _ _ _ _ from by rw [hu]; exact IBox.put IN.out BB.out.row)
              replace BA := Lib.hid (show IBox u4 bA _ _ _ _ _ _ from by rw [hu]; exact BA.out.other BB.out.row hAB _ _)
              replace BB := Lib.hid bb
              have xb : Below w1.heap.size w1 u4 := by rw [hu]; exact (XB.setCell (p := ⟨bB, 0, none⟩) hsB _).setCell (p := ⟨bB, 1, none⟩) hsB _
              rw [← hu]
              clear hu bb XB IN
              have XB := xb
              clear xb
              obtain ⟨ta0, ta1, qa0, qa1⟩ := blk2 BA.out.row
              obtain ⟨tb0, tb1, qb0, qb1⟩ := blk2 BB.out.row
              refine hK.out _ _ ?_ (fun hH7 => ?_)
              · exact HKP.out _ XB
              clear hK K hH6
              (try simp only [Act.put, List.setIfInBounds_toArray, List.set_cons_zero, List.set_cons_succ])
              refine wpAnyH_done (by kernel_rfl) ?_ _
              refine NoPanic.normal ?_
              clear ta0 ta1 qa0 qa1 tb0 tb1 qb0 qb1
              go_wp2_with fail
              go_roundw
              case rel => exact .inr (.inl ⟨by go_num, _, _, _, _, _, _, _, _, _, _, BA.out, BB.out, by omega, by omega, XB⟩)
              case measure => simp [intOf]
            · go_simp
              refine hK.out _ _ ?_ (fun hH3 => ?_)
              · exact HKP.out _ XB
              clear hK K hH2
              (try simp only [Act.put, List.setIfInBounds_toArray, List.set_cons_zero, List.set_cons_succ])
              refine wpAnyH_ready (rs := [5]) (by kernel_rfl) (by simp) ?_
              refine (AllReadyH.cons (o := ({ dst := some 34, op := Op.call { callee := Callee.value (Operand.func 84), args := #[Operand.tmp 32, Operand.tmp 33], argTypes := #[31, 31] }, type := 31, pos := "continued.go:43", after := #[{ on := 3, ground := Ground.data }, { on := 4, ground := Ground.data }], guard := none } : Oper)) rfl (fun K hK => ?_) AllReadyH.nil)
              go_simp
              clear ta0 ta1 qa0 qa1 tb0 tb1 qb0 qb1
              refine (mul_int _ _ _ _ _ _ _ _ _ _ _ (x1) (x2) (H.out.i1.below XB) BA.out.it (by omega) (by omega)).mono ?_
              rintro e u1 ⟨sM, aM, kM, cM, zM, rfl, iM, gM, ub⟩
              replace BA := Lib.hid (BA.out.below ub)
              replace BB := Lib.hid (BB.out.below ub)
              have IM := Lib.hid iM
              replace XB := XB.trans (ub.mono XB.size)
              clear iM ub
              obtain ⟨ta0, ta1, qa0, qa1⟩ := blk2 BA.out.row
              obtain ⟨tb0, tb1, qb0, qb1⟩ := blk2 BB.out.row
              refine hK.out _ _ ?_ (fun hH4 => ?_)
              · exact HKP.out _ XB
              clear hK K hH3
              (try simp only [Act.put, List.setIfInBounds_toArray, List.set_cons_zero, List.set_cons_succ])
              refine wpAnyH_ready (rs := [7]) (by kernel_rfl) (by simp) ?_
              refine (AllReadyH.cons (o := ({ dst := some 36, op := Op.call { callee := Callee.value (Operand.func 95), args := #[Operand.tmp 34, Operand.tmp 35], argTypes := #[31, 31] }, type := 31, pos := "continued.go:43", after := #[{ on := 5, ground := Ground.data }, { on := 6, ground := Ground.data }, { on := 5, ground := Ground.chain }], guard := none } : Oper)) rfl (fun K hK => ?_) AllReadyH.nil)
              go_simp
              clear ta0 ta1 qa0 qa1 tb0 tb1 qb0 qb1
              refine (add_int _ _ _ _ _ _ _ _ _ _ _ _ (1) IM.out BB.out.it (by omega) (by omega)).mono ?_
              rintro e u2 ⟨sS, aS, kS, cS, zS, rfl, iS, gS, ub⟩
              replace BA := Lib.hid (BA.out.below ub)
              replace BB := Lib.hid (BB.out.below ub)
              have IS := Lib.hid iS
              replace XB := XB.trans (ub.mono XB.size)
              clear iS ub
              obtain ⟨ta0, ta1, qa0, qa1⟩ := blk2 BA.out.row
              obtain ⟨tb0, tb1, qb0, qb1⟩ := blk2 BB.out.row
              refine hK.out _ _ ?_ (fun hH5 => ?_)
              · exact HKP.out _ XB
              clear hK K hH4
              (try simp only [Act.put, List.setIfInBounds_toArray, List.set_cons_zero, List.set_cons_succ])
              refine wpAnyH_ready (rs := [9]) (by kernel_rfl) (by simp) ?_
              refine (AllReadyH.cons (o := ({ dst := none, op := Op.store 31 (Operand.tmp 4) (Operand.tmp 36), type := 0, pos := "continued.go:43", after := #[{ on := 7, ground := Ground.data }, { on := 7, ground := Ground.chain }, { on := 0, ground := Ground.phase }, { on := 1, ground := Ground.phase }, { on := 2, ground := Ground.phase }, { on := 3, ground := Ground.phase }, { on := 4, ground := Ground.phase }, { on := 5, ground := Ground.phase }, { on := 6, ground := Ground.phase }, { on := 7, ground := Ground.phase }, { on := 8, ground := Ground.phase }], guard := none } : Oper)) rfl (fun K hK => ?_) AllReadyH.nil)
              go_simp
              clear ta0 ta1 qa0 qa1 tb0 tb1 qb0 qb1
              obtain ⟨u3, hu⟩ : ∃ u, u = (u2.setCell ⟨bA, 0, none⟩ (.bool sS)).setCell ⟨bA, 1, none⟩ (.slice aS kS cS) := ⟨_, rfl⟩
              have IN := Lib.hid (show IntAt u3 jA lA mA oA qA _ from by rw [hu]; exact BA.out.it.stored BA.out.row _ _)
              have ba := (show IBox u3 bA _ _ _ _ _ _ from by rw [hu]; exact IBox.put IS.out BA.out.row)
              replace BB := Lib.hid (show IBox u3 bB _ _ _ _ _ _ from by rw [hu]; exact BB.out.other BA.out.row hAB.symm _ _)
              replace BA := Lib.hid ba
              have xb : Below w1.heap.size w1 u3 := by rw [hu]; exact (XB.setCell (p := ⟨bA, 0, none⟩) hsA _).setCell (p := ⟨bA, 1, none⟩) hsA _
              rw [← hu]
              clear hu ba XB IS
              have XB := xb
              clear xb
              obtain ⟨ta0, ta1, qa0, qa1⟩ := blk2 BA.out.row
              obtain ⟨tb0, tb1, qb0, qb1⟩ := blk2 BB.out.row
              refine hK.out _ _ ?_ (fun hH6 => ?_)
              · exact HKP.out _ XB
              clear hK K hH5
              (try simp only [Act.put, List.setIfInBounds_toArray, List.set_cons_zero, List.set_cons_succ])
              refine wpAnyH_ready (rs := [10]) (by kernel_rfl) (by simp) ?_
              refine (AllReadyH.cons (o := ({ dst := none, op := Op.store 31 (Operand.tmp 5) (Operand.tmp 37), type := 0, pos := "continued.go:43", after := #[{ on := 8, ground := Ground.data }, { on := 9, ground := Ground.chain }, { on := 0, ground := Ground.phase }, { on := 1, ground := Ground.phase }, { on := 2, ground := Ground.phase }, { on := 3, ground := Ground.phase }, { on := 4, ground := Ground.phase }, { on := 5, ground := Ground.phase }, { on := 6, ground := Ground.phase }, { on := 7, ground := Ground.phase }, { on := 8, ground := Ground.phase }, { on := 9, ground := Ground.phase }], guard := none } : Oper)) rfl (fun K hK => ?_) AllReadyH.nil)
              go_simp
              clear ta0 ta1 qa0 qa1 tb0 tb1 qb0 qb1
              obtain ⟨u4, hu⟩ : ∃ u, u = (u3.setCell ⟨bB, 0, none⟩ (.bool jA)).setCell ⟨bB, 1, none⟩ (.slice lA mA oA) := ⟨_, rfl⟩
              have bb := (show IBox u4 bB _ _ _ _ _ _ from by rw [hu]; exact IBox.put IN.out BB.out.row)
              replace BA := Lib.hid (show IBox u4 bA _ _ _ _ _ _ from by rw [hu]; exact BA.out.other BB.out.row hAB _ _)
              replace BB := Lib.hid bb
              have xb : Below w1.heap.size w1 u4 := by rw [hu]; exact (XB.setCell (p := ⟨bB, 0, none⟩) hsB _).setCell (p := ⟨bB, 1, none⟩) hsB _
              rw [← hu]
              clear hu bb XB IN
              have XB := xb
              clear xb
              obtain ⟨ta0, ta1, qa0, qa1⟩ := blk2 BA.out.row
              obtain ⟨tb0, tb1, qb0, qb1⟩ := blk2 BB.out.row
              refine hK.out _ _ ?_ (fun hH7 => ?_)
              · exact HKP.out _ XB
              clear hK K hH6
              (try simp only [Act.put, List.setIfInBounds_toArray, List.set_cons_zero, List.set_cons_succ])
              refine wpAnyH_done (by kernel_rfl) ?_ _
              refine NoPanic.normal ?_
              clear ta0 ta1 qa0 qa1 tb0 tb1 qb0 qb1
              go_wp2_with fail
              go_roundw
              case rel => exact .inr (.inl ⟨by go_num, _, _, _, _, _, _, _, _, _, _, BA.out, BB.out, by omega, by omega, XB⟩)
              case measure => simp [intOf]
        · go_simp
          refine hK.out _ _ ?_ (fun hH1 => ?_)
          · exact HKP.out _ XB
          clear hK K hH0
          (try simp only [Act.put, List.setIfInBounds_toArray, List.set_cons_zero, List.set_cons_succ])
          refine wpAnyH_ready (rs := [4, 8]) (by kernel_rfl) (by simp) ?_
          refine (AllReadyH.cons (o := ({ dst := some 33, op := Op.load 31 (Operand.tmp 4), type := 31, pos := "continued.go:43", after := #[], guard := none } : Oper)) rfl (fun K hK => ?_) (AllReadyH.cons (o := ({ dst := some 37, op := Op.load 31 (Operand.tmp 4), type := 31, pos := "continued.go:43", after := #[], guard := none } : Oper)) rfl (fun K hK => ?_) AllReadyH.nil))
          · go_simp
            refine hK.out _ _ ?_ (fun hH2 => ?_)
            · exact HKP.out _ XB
            clear hK K hH1
            (try simp only [Act.put, List.setIfInBounds_toArray, List.set_cons_zero, List.set_cons_succ])
            refine wpAnyH_ready (rs := [5, 8]) (by kernel_rfl) (by simp) ?_
            refine (AllReadyH.cons (o := ({ dst := some 34, op := Op.call { callee := Callee.value (Operand.func 84), args := #[Operand.tmp 32, Operand.tmp 33], argTypes := #[31, 31] }, type := 31, pos := "continued.go:43", after := #[{ on := 3, ground := Ground.data }, { on := 4, ground := Ground.data }], guard := none } : Oper)) rfl (fun K hK => ?_) (AllReadyH.cons (o := ({ dst := some 37, op := Op.load 31 (Operand.tmp 4), type := 31, pos := "continued.go:43", after := #[], guard := none } : Oper)) rfl (fun K hK => ?_) AllReadyH.nil))
            · go_simp
              clear ta0 ta1 qa0 qa1 tb0 tb1 qb0 qb1
              refine (mul_int _ _ _ _ _ _ _ _ _ _ _ (x1) (x2) (H.out.i1.below XB) BA.out.it (by omega) (by omega)).mono ?_
              rintro e u1 ⟨sM, aM, kM, cM, zM, rfl, iM, gM, ub⟩
              replace BA := Lib.hid (BA.out.below ub)
              replace BB := Lib.hid (BB.out.below ub)
              have IM := Lib.hid iM
              replace XB := XB.trans (ub.mono XB.size)
              clear iM ub
              obtain ⟨ta0, ta1, qa0, qa1⟩ := blk2 BA.out.row
              obtain ⟨tb0, tb1, qb0, qb1⟩ := blk2 BB.out.row
              refine hK.out _ _ ?_ (fun hH3 => ?_)
              · exact HKP.out _ XB
              clear hK K hH2
              (try simp only [Act.put, List.setIfInBounds_toArray, List.set_cons_zero, List.set_cons_succ])
              refine wpAnyH_ready (rs := [7, 8]) (by kernel_rfl) (by simp) ?_
              refine (AllReadyH.cons (o := ({ dst := some 36, op := Op.call { callee := Callee.value (Operand.func 95), args := #[Operand.tmp 34, Operand.tmp 35], argTypes := #[31, 31] }, type := 31, pos := "continued.go:43", after := #[{ on := 5, ground := Ground.data }, { on := 6, ground := Ground.data }, { on := 5, ground := Ground.chain }], guard := none } : Oper)) rfl (fun K hK => ?_) (AllReadyH.cons (o := ({ dst := some 37, op := Op.load 31 (Operand.tmp 4), type := 31, pos := "continued.go:43", after := #[], guard := none } : Oper)) rfl (fun K hK => ?_) AllReadyH.nil))
              · go_simp
                clear ta0 ta1 qa0 qa1 tb0 tb1 qb0 qb1
                refine (add_int _ _ _ _ _ _ _ _ _ _ _ _ (1) IM.out BB.out.it (by omega) (by omega)).mono ?_
                rintro e u2 ⟨sS, aS, kS, cS, zS, rfl, iS, gS, ub⟩
                replace BA := Lib.hid (BA.out.below ub)
                replace BB := Lib.hid (BB.out.below ub)
                have IS := Lib.hid iS
                replace XB := XB.trans (ub.mono XB.size)
                clear iS ub
                obtain ⟨ta0, ta1, qa0, qa1⟩ := blk2 BA.out.row
                obtain ⟨tb0, tb1, qb0, qb1⟩ := blk2 BB.out.row
                refine hK.out _ _ ?_ (fun hH4 => ?_)
                · exact HKP.out _ XB
                clear hK K hH3
                (try simp only [Act.put, List.setIfInBounds_toArray, List.set_cons_zero, List.set_cons_succ])
                refine wpAnyH_ready (rs := [8]) (by kernel_rfl) (by simp) ?_
                refine (AllReadyH.cons (o := ({ dst := some 37, op := Op.load 31 (Operand.tmp 4), type := 31, pos := "continued.go:43", after := #[], guard := none } : Oper)) rfl (fun K hK => ?_) AllReadyH.nil)
                go_simp
                refine hK.out _ _ ?_ (fun hH5 => ?_)
                · exact HKP.out _ XB
                clear hK K hH4
                (try simp only [Act.put, List.setIfInBounds_toArray, List.set_cons_zero, List.set_cons_succ])
                refine wpAnyH_ready (rs := [9]) (by kernel_rfl) (by simp) ?_
                refine (AllReadyH.cons (o := ({ dst := none, op := Op.store 31 (Operand.tmp 4) (Operand.tmp 36), type := 0, pos := "continued.go:43", after := #[{ on := 7, ground := Ground.data }, { on := 7, ground := Ground.chain }, { on := 0, ground := Ground.phase }, { on := 1, ground := Ground.phase }, { on := 2, ground := Ground.phase }, { on := 3, ground := Ground.phase }, { on := 4, ground := Ground.phase }, { on := 5, ground := Ground.phase }, { on := 6, ground := Ground.phase }, { on := 7, ground := Ground.phase }, { on := 8, ground := Ground.phase }], guard := none } : Oper)) rfl (fun K hK => ?_) AllReadyH.nil)
                go_simp
                clear ta0 ta1 qa0 qa1 tb0 tb1 qb0 qb1
                obtain ⟨u3, hu⟩ : ∃ u, u = (u2.setCell ⟨bA, 0, none⟩ (.bool sS)).setCell ⟨bA, 1, none⟩ (.slice aS kS cS) := ⟨_, rfl⟩
                have IN := Lib.hid (show IntAt u3 jA lA mA oA qA _ from by rw [hu]; exact BA.out.it.stored BA.out.row _ _)
                have ba := (show IBox u3 bA _ _ _ _ _ _ from by rw [hu]; exact IBox.put IS.out BA.out.row)
                replace BB := Lib.hid (show IBox u3 bB _ _ _ _ _ _ from by rw [hu]; exact BB.out.other BA.out.row hAB.symm _ _)
                replace BA := Lib.hid ba
                have xb : Below w1.heap.size w1 u3 := by rw [hu]; exact (XB.setCell (p := ⟨bA, 0, none⟩) hsA _).setCell (p := ⟨bA, 1, none⟩) hsA _
                rw [← hu]
                clear hu ba XB IS
                have XB := xb
                clear xb
                obtain ⟨ta0, ta1, qa0, qa1⟩ := blk2 BA.out.row
                obtain ⟨tb0, tb1, qb0, qb1⟩ := blk2 BB.out.row
                refine hK.out _ _ ?_ (fun hH6 => ?_)
                · exact HKP.out _ XB
                clear hK K hH5
                (try simp only [Act.put, List.setIfInBounds_toArray, List.set_cons_zero, List.set_cons_succ])
                refine wpAnyH_ready (rs := [10]) (by kernel_rfl) (by simp) ?_
                refine (AllReadyH.cons (o := ({ dst := none, op := Op.store 31 (Operand.tmp 5) (Operand.tmp 37), type := 0, pos := "continued.go:43", after := #[{ on := 8, ground := Ground.data }, { on := 9, ground := Ground.chain }, { on := 0, ground := Ground.phase }, { on := 1, ground := Ground.phase }, { on := 2, ground := Ground.phase }, { on := 3, ground := Ground.phase }, { on := 4, ground := Ground.phase }, { on := 5, ground := Ground.phase }, { on := 6, ground := Ground.phase }, { on := 7, ground := Ground.phase }, { on := 8, ground := Ground.phase }, { on := 9, ground := Ground.phase }], guard := none } : Oper)) rfl (fun K hK => ?_) AllReadyH.nil)
                go_simp
                clear ta0 ta1 qa0 qa1 tb0 tb1 qb0 qb1
                obtain ⟨u4, hu⟩ : ∃ u, u = (u3.setCell ⟨bB, 0, none⟩ (.bool jA)).setCell ⟨bB, 1, none⟩ (.slice lA mA oA) := ⟨_, rfl⟩
                have bb := (show IBox u4 bB _ _ _ _ _ _ from by rw [hu]; exact IBox.put IN.out BB.out.row)
                replace BA := Lib.hid (show IBox u4 bA _ _ _ _ _ _ from by rw [hu]; exact BA.out.other BB.out.row hAB _ _)
                replace BB := Lib.hid bb
                have xb : Below w1.heap.size w1 u4 := by rw [hu]; exact (XB.setCell (p := ⟨bB, 0, none⟩) hsB _).setCell (p := ⟨bB, 1, none⟩) hsB _
                rw [← hu]
                clear hu bb XB IN
                have XB := xb
                clear xb
                obtain ⟨ta0, ta1, qa0, qa1⟩ := blk2 BA.out.row
                obtain ⟨tb0, tb1, qb0, qb1⟩ := blk2 BB.out.row
                refine hK.out _ _ ?_ (fun hH7 => ?_)
                · exact HKP.out _ XB
                clear hK K hH6
                (try simp only [Act.put, List.setIfInBounds_toArray, List.set_cons_zero, List.set_cons_succ])
                refine wpAnyH_done (by kernel_rfl) ?_ _
                refine NoPanic.normal ?_
                clear ta0 ta1 qa0 qa1 tb0 tb1 qb0 qb1
                go_wp2_with fail
                go_roundw
                case rel => exact .inr (.inl ⟨by go_num, _, _, _, _, _, _, _, _, _, _, BA.out, BB.out, by omega, by omega, XB⟩)
                case measure => simp [intOf]
              · go_simp
                refine hK.out _ _ ?_ (fun hH4 => ?_)
                · exact HKP.out _ XB
                clear hK K hH3
                (try simp only [Act.put, List.setIfInBounds_toArray, List.set_cons_zero, List.set_cons_succ])
                refine wpAnyH_ready (rs := [7]) (by kernel_rfl) (by simp) ?_
                refine (AllReadyH.cons (o := ({ dst := some 36, op := Op.call { callee := Callee.value (Operand.func 95), args := #[Operand.tmp 34, Operand.tmp 35], argTypes := #[31, 31] }, type := 31, pos := "continued.go:43", after := #[{ on := 5, ground := Ground.data }, { on := 6, ground := Ground.data }, { on := 5, ground := Ground.chain }], guard := none } : Oper)) rfl (fun K hK => ?_) AllReadyH.nil)
                go_simp
                clear ta0 ta1 qa0 qa1 tb0 tb1 qb0 qb1
                refine (add_int _ _ _ _ _ _ _ _ _ _ _ _ (1) IM.out BB.out.it (by omega) (by omega)).mono ?_
                rintro e u2 ⟨sS, aS, kS, cS, zS, rfl, iS, gS, ub⟩
                replace BA := Lib.hid (BA.out.below ub)
                replace BB := Lib.hid (BB.out.below ub)
                have IS := Lib.hid iS
                replace XB := XB.trans (ub.mono XB.size)
                clear iS ub
                obtain ⟨ta0, ta1, qa0, qa1⟩ := blk2 BA.out.row
                obtain ⟨tb0, tb1, qb0, qb1⟩ := blk2 BB.out.row
                refine hK.out _ _ ?_ (fun hH5 => ?_)
                · exact HKP.out _ XB
                clear hK K hH4
                (try simp only [Act.put, List.setIfInBounds_toArray, List.set_cons_zero, List.set_cons_succ])
                refine wpAnyH_ready (rs := [9]) (by kernel_rfl) (by simp) ?_
                refine (AllReadyH.cons (o := ({ dst := none, op := Op.store 31 (Operand.tmp 4) (Operand.tmp 36), type := 0, pos := "continued.go:43", after := #[{ on := 7, ground := Ground.data }, { on := 7, ground := Ground.chain }, { on := 0, ground := Ground.phase }, { on := 1, ground := Ground.phase }, { on := 2, ground := Ground.phase }, { on := 3, ground := Ground.phase }, { on := 4, ground := Ground.phase }, { on := 5, ground := Ground.phase }, { on := 6, ground := Ground.phase }, { on := 7, ground := Ground.phase }, { on := 8, ground := Ground.phase }], guard := none } : Oper)) rfl (fun K hK => ?_) AllReadyH.nil)
                go_simp
                clear ta0 ta1 qa0 qa1 tb0 tb1 qb0 qb1
                obtain ⟨u3, hu⟩ : ∃ u, u = (u2.setCell ⟨bA, 0, none⟩ (.bool sS)).setCell ⟨bA, 1, none⟩ (.slice aS kS cS) := ⟨_, rfl⟩
                have IN := Lib.hid (show IntAt u3 jA lA mA oA qA _ from by rw [hu]; exact BA.out.it.stored BA.out.row _ _)
                have ba := (show IBox u3 bA _ _ _ _ _ _ from by rw [hu]; exact IBox.put IS.out BA.out.row)
                replace BB := Lib.hid (show IBox u3 bB _ _ _ _ _ _ from by rw [hu]; exact BB.out.other BA.out.row hAB.symm _ _)
                replace BA := Lib.hid ba
                have xb : Below w1.heap.size w1 u3 := by rw [hu]; exact (XB.setCell (p := ⟨bA, 0, none⟩) hsA _).setCell (p := ⟨bA, 1, none⟩) hsA _
                rw [← hu]
                clear hu ba XB IS
                have XB := xb
                clear xb
                obtain ⟨ta0, ta1, qa0, qa1⟩ := blk2 BA.out.row
                obtain ⟨tb0, tb1, qb0, qb1⟩ := blk2 BB.out.row
                refine hK.out _ _ ?_ (fun hH6 => ?_)
                · exact HKP.out _ XB
                clear hK K hH5
                (try simp only [Act.put, List.setIfInBounds_toArray, List.set_cons_zero, List.set_cons_succ])
                refine wpAnyH_ready (rs := [10]) (by kernel_rfl) (by simp) ?_
                refine (AllReadyH.cons (o := ({ dst := none, op := Op.store 31 (Operand.tmp 5) (Operand.tmp 37), type := 0, pos := "continued.go:43", after := #[{ on := 8, ground := Ground.data }, { on := 9, ground := Ground.chain }, { on := 0, ground := Ground.phase }, { on := 1, ground := Ground.phase }, { on := 2, ground := Ground.phase }, { on := 3, ground := Ground.phase }, { on := 4, ground := Ground.phase }, { on := 5, ground := Ground.phase }, { on := 6, ground := Ground.phase }, { on := 7, ground := Ground.phase }, { on := 8, ground := Ground.phase }, { on := 9, ground := Ground.phase }], guard := none } : Oper)) rfl (fun K hK => ?_) AllReadyH.nil)
                go_simp
                clear ta0 ta1 qa0 qa1 tb0 tb1 qb0 qb1
                obtain ⟨u4, hu⟩ : ∃ u, u = (u3.setCell ⟨bB, 0, none⟩ (.bool jA)).setCell ⟨bB, 1, none⟩ (.slice lA mA oA) := ⟨_, rfl⟩
                have bb := (show IBox u4 bB _ _ _ _ _ _ from by rw [hu]; exact IBox.put IN.out BB.out.row)
                replace BA := Lib.hid (show IBox u4 bA _ _ _ _ _ _ from by rw [hu]; exact BA.out.other BB.out.row hAB _ _)
                replace BB := Lib.hid bb
                have xb : Below w1.heap.size w1 u4 := by rw [hu]; exact (XB.setCell (p := ⟨bB, 0, none⟩) hsB _).setCell (p := ⟨bB, 1, none⟩) hsB _
                rw [← hu]
                clear hu bb XB IN
                have XB := xb
                clear xb
                obtain ⟨ta0, ta1, qa0, qa1⟩ := blk2 BA.out.row
                obtain ⟨tb0, tb1, qb0, qb1⟩ := blk2 BB.out.row
                refine hK.out _ _ ?_ (fun hH7 => ?_)
                · exact HKP.out _ XB
                clear hK K hH6
                (try simp only [Act.put, List.setIfInBounds_toArray, List.set_cons_zero, List.set_cons_succ])
                refine wpAnyH_done (by kernel_rfl) ?_ _
                refine NoPanic.normal ?_
                clear ta0 ta1 qa0 qa1 tb0 tb1 qb0 qb1
                go_wp2_with fail
                go_roundw
                case rel => exact .inr (.inl ⟨by go_num, _, _, _, _, _, _, _, _, _, _, BA.out, BB.out, by omega, by omega, XB⟩)
                case measure => simp [intOf]
            · go_simp
              refine hK.out _ _ ?_ (fun hH3 => ?_)
              · exact HKP.out _ XB
              clear hK K hH2
              (try simp only [Act.put, List.setIfInBounds_toArray, List.set_cons_zero, List.set_cons_succ])
              refine wpAnyH_ready (rs := [5]) (by kernel_rfl) (by simp) ?_
              refine (AllReadyH.cons (o := ({ dst := some 34, op := Op.call { callee := Callee.value (Operand.func 84), args := #[Operand.tmp 32, Operand.tmp 33], argTypes := #[31, 31] }, type := 31, pos := "continued.go:43", after := #[{ on := 3, ground := Ground.data }, { on := 4, ground := Ground.data }], guard := none } : Oper)) rfl (fun K hK => ?_) AllReadyH.nil)
              go_simp
              clear ta0 ta1 qa0 qa1 tb0 tb1 qb0 qb1
              refine (mul_int _ _ _ _ _ _ _ _ _ _ _ (x1) (x2) (H.out.i1.below XB) BA.out.it (by omega) (by omega)).mono ?_
              rintro e u1 ⟨sM, aM, kM, cM, zM, rfl, iM, gM, ub⟩
              replace BA := Lib.hid (BA.out.below ub)
              replace BB := Lib.hid (BB.out.below ub)
              have IM := Lib.hid iM
              replace XB := XB.trans (ub.mono XB.size)
              clear iM ub
              obtain ⟨ta0, ta1, qa0, qa1⟩ := blk2 BA.out.row
              obtain ⟨tb0, tb1, qb0, qb1⟩ := blk2 BB.out.row
              refine hK.out _ _ ?_ (fun hH4 => ?_)
              · exact HKP.out _ XB
              clear hK K hH3
              (try simp only [Act.put, List.setIfInBounds_toArray, List.set_cons_zero, List.set_cons_succ])
              refine wpAnyH_ready (rs := [7]) (by kernel_rfl) (by simp) ?_
              refine (AllReadyH.cons (o := ({ dst := some 36, op := Op.call { callee := Callee.value (Operand.func 95), args := #[Operand.tmp 34, Operand.tmp 35], argTypes := #[31, 31] }, type := 31, pos := "continued.go:43", after := #[{ on := 5, ground := Ground.data }, { on := 6, ground := Ground.data }, { on := 5, ground := Ground.chain }], guard := none } : Oper)) rfl (fun K hK => ?_) AllReadyH.nil)
              go_simp
              clear ta0 ta1 qa0 qa1 tb0 tb1 qb0 qb1
              refine (add_int _ _ _ _ _ _ _ _ _ _ _ _ (1) IM.out BB.out.it (by omega) (by omega)).mono ?_
              rintro e u2 ⟨sS, aS, kS, cS, zS, rfl, iS, gS, ub⟩
              replace BA := Lib.hid (BA.out.below ub)
              replace BB := Lib.hid (BB.out.below ub)
              have IS := Lib.hid iS
              replace XB := XB.trans (ub.mono XB.size)
              clear iS ub
              obtain ⟨ta0, ta1, qa0, qa1⟩ := blk2 BA.out.row
              obtain ⟨tb0, tb1, qb0, qb1⟩ := blk2 BB.out.row
              refine hK.out _ _ ?_ (fun hH5 => ?_)
              · exact HKP.out _ XB
              clear hK K hH4
              (try simp only [Act.put, List.setIfInBounds_toArray, List.set_cons_zero, List.set_cons_succ])
              refine wpAnyH_ready (rs := [9]) (by kernel_rfl) (by simp) ?_
              refine (AllReadyH.cons (o := ({ dst := none, op := Op.store 31 (Operand.tmp 4) (Operand.tmp 36), type := 0, pos := "continued.go:43", after := #[{ on := 7, ground := Ground.data }, { on := 7, ground := Ground.chain }, { on := 0, ground := Ground.phase }, { on := 1, ground := Ground.phase }, { on := 2, ground := Ground.phase }, { on := 3, ground := Ground.phase }, { on := 4, ground := Ground.phase }, { on := 5, ground := Ground.phase }, { on := 6, ground := Ground.phase }, { on := 7, ground := Ground.phase }, { on := 8, ground := Ground.phase }], guard := none } : Oper)) rfl (fun K hK => ?_) AllReadyH.nil)
              go_simp
              clear ta0 ta1 qa0 qa1 tb0 tb1 qb0 qb1
              obtain ⟨u3, hu⟩ : ∃ u, u = (u2.setCell ⟨bA, 0, none⟩ (.bool sS)).setCell ⟨bA, 1, none⟩ (.slice aS kS cS) := ⟨_, rfl⟩
              have IN := Lib.hid (show IntAt u3 jA lA mA oA qA _ from by rw [hu]; exact BA.out.it.stored BA.out.row _ _)
              have ba := (show IBox u3 bA _ _ _ _ _ _ from by rw [hu]; exact IBox.put IS.out BA.out.row)
              replace BB := Lib.hid (show IBox u3 bB _ _ _ _ _ _ from by rw [hu]; exact BB.out.other BA.out.row hAB.symm _ _)
              replace BA := Lib.hid ba
              have xb : Below w1.heap.size w1 u3 := by rw [hu]; exact (XB.setCell (p := ⟨bA, 0, none⟩) hsA _).setCell (p := ⟨bA, 1, none⟩) hsA _
              rw [← hu]
              clear hu ba XB IS
              have XB := xb
              clear xb
              obtain ⟨ta0, ta1, qa0, qa1⟩ := blk2 BA.out.row
              obtain ⟨tb0, tb1, qb0, qb1⟩ := blk2 BB.out.row
              refine hK.out _ _ ?_ (fun hH6 => ?_)
              · exact HKP.out _ XB
              clear hK K hH5
              (try simp only [Act.put, List.setIfInBounds_toArray, List.set_cons_zero, List.set_cons_succ])
              refine wpAnyH_ready (rs := [10]) (by kernel_rfl) (by simp) ?_
              refine (AllReadyH.cons (o := ({ dst := none, op := Op.store 31 (Operand.tmp 5) (Operand.tmp 37), type := 0, pos := "continued.go:43", after := #[{ on := 8, ground := Ground.data }, { on := 9, ground := Ground.chain }, { on := 0, ground := Ground.phase }, { on := 1, ground := Ground.phase }, { on := 2, ground := Ground.phase }, { on := 3, ground := Ground.phase }, { on := 4, ground := Ground.phase }, { on := 5, ground := Ground.phase }, { on := 6, ground := Ground.phase }, { on := 7, ground := Ground.phase }, { on := 8, ground := Ground.phase }, { on := 9, ground := Ground.phase }], guard := none } : Oper)) rfl (fun K hK => ?_) AllReadyH.nil)
              go_simp
              clear ta0 ta1 qa0 qa1 tb0 tb1 qb0 qb1
              obtain ⟨u4, hu⟩ : ∃ u, u = (u3.setCell ⟨bB, 0, none⟩ (.bool jA)).setCell ⟨bB, 1, none⟩ (.slice lA mA oA) := ⟨_, rfl⟩
              have bb := (show IBox u4 bB _ _ _ _ _ _ from by rw [hu]; exact IBox.put IN.out BB.out.row)
              replace BA := Lib.hid (show IBox u4 bA _ _ _ _ _ _ from by rw [hu]; exact BA.out.other BB.out.row hAB _ _)
              replace BB := Lib.hid bb
              have xb : Below w1.heap.size w1 u4 := by rw [hu]; exact (XB.setCell (p := ⟨bB, 0, none⟩) hsB _).setCell (p := ⟨bB, 1, none⟩) hsB _
              rw [← hu]
              clear hu bb XB IN
              have XB := xb
              clear xb
              obtain ⟨ta0, ta1, qa0, qa1⟩ := blk2 BA.out.row
              obtain ⟨tb0, tb1, qb0, qb1⟩ := blk2 BB.out.row
              refine hK.out _ _ ?_ (fun hH7 => ?_)
              · exact HKP.out _ XB
              clear hK K hH6
              (try simp only [Act.put, List.setIfInBounds_toArray, List.set_cons_zero, List.set_cons_succ])
              refine wpAnyH_done (by kernel_rfl) ?_ _
              refine NoPanic.normal ?_
              clear ta0 ta1 qa0 qa1 tb0 tb1 qb0 qb1
              go_wp2_with fail
              go_roundw
              case rel => exact .inr (.inl ⟨by go_num, _, _, _, _, _, _, _, _, _, _, BA.out, BB.out, by omega, by omega, XB⟩)
              case measure => simp [intOf]
          · go_simp
            refine hK.out _ _ ?_ (fun hH2 => ?_)
            · exact HKP.out _ XB
            clear hK K hH1
            (try simp only [Act.put, List.setIfInBounds_toArray, List.set_cons_zero, List.set_cons_succ])
            refine wpAnyH_ready (rs := [4]) (by kernel_rfl) (by simp) ?_
            refine (AllReadyH.cons (o := ({ dst := some 33, op := Op.load 31 (Operand.tmp 4), type := 31, pos := "continued.go:43", after := #[], guard := none } : Oper)) rfl (fun K hK => ?_) AllReadyH.nil)
            go_simp
            refine hK.out _ _ ?_ (fun hH3 => ?_)
            · exact HKP.out _ XB
            clear hK K hH2
            (try simp only [Act.put, List.setIfInBounds_toArray, List.set_cons_zero, List.set_cons_succ])
            refine wpAnyH_ready (rs := [5]) (by kernel_rfl) (by simp) ?_
            refine (AllReadyH.cons (o := ({ dst := some 34, op := Op.call { callee := Callee.value (Operand.func 84), args := #[Operand.tmp 32, Operand.tmp 33], argTypes := #[31, 31] }, type := 31, pos := "continued.go:43", after := #[{ on := 3, ground := Ground.data }, { on := 4, ground := Ground.data }], guard := none } : Oper)) rfl (fun K hK => ?_) AllReadyH.nil)
            go_simp
            clear ta0 ta1 qa0 qa1 tb0 tb1 qb0 qb1
            refine (mul_int _ _ _ _ _ _ _ _ _ _ _ (x1) (x2) (H.out.i1.below XB) BA.out.it (by omega) (by omega)).mono ?_
            rintro e u1 ⟨sM, aM, kM, cM, zM, rfl, iM, gM, ub⟩
            replace BA := Lib.hid (BA.out.below ub)
            replace BB := Lib.hid (BB.out.below ub)
            have IM := Lib.hid iM
            replace XB := XB.trans (ub.mono XB.size)
            clear iM ub
            obtain ⟨ta0, ta1, qa0, qa1⟩ := blk2 BA.out.row
            obtain ⟨tb0, tb1, qb0, qb1⟩ := blk2 BB.out.row
            refine hK.out _ _ ?_ (fun hH4 => ?_)
            · exact HKP.out _ XB
            clear hK K hH3
            (try simp only [Act.put, List.setIfInBounds_toArray, List.set_cons_zero, List.set_cons_succ])
            refine wpAnyH_ready (rs := [7]) (by kernel_rfl) (by simp) ?_
            refine (AllReadyH.cons (o := ({ dst := some 36, op := Op.call { callee := Callee.value (Operand.func 95), args := #[Operand.tmp 34, Operand.tmp 35], argTypes := #[31, 31] }, type := 31, pos := "continued.go:43", after := #[{ on := 5, ground := Ground.data }, { on := 6, ground := Ground.data }, { on := 5, ground := Ground.chain }], guard := none } : Oper)) rfl (fun K hK => ?_) AllReadyH.nil)
            go_simp
            clear ta0 ta1 qa0 qa1 tb0 tb1 qb0 qb1
            refine (add_int _ _ _ _ _ _ _ _ _ _ _ _ (1) IM.out BB.out.it (by omega) (by omega)).mono ?_
            rintro e u2 ⟨sS, aS, kS, cS, zS, rfl, iS, gS, ub⟩
            replace BA := Lib.hid (BA.out.below ub)
            replace BB := Lib.hid (BB.out.below ub)
            have IS := Lib.hid iS
            replace XB := XB.trans (ub.mono XB.size)
            clear iS ub
            obtain ⟨ta0, ta1, qa0, qa1⟩ := blk2 BA.out.row
            obtain ⟨tb0, tb1, qb0, qb1⟩ := blk2 BB.out.row
            refine hK.out _ _ ?_ (fun hH5 => ?_)
            · exact HKP.out _ XB
            clear hK K hH4
            (try simp only [Act.put, List.setIfInBounds_toArray, List.set_cons_zero, List.set_cons_succ])
            refine wpAnyH_ready (rs := [9]) (by kernel_rfl) (by simp) ?_
            refine (AllReadyH.cons (o := ({ dst := none, op := Op.store 31 (Operand.tmp 4) (Operand.tmp 36), type := 0, pos := "continued.go:43", after := #[{ on := 7, ground := Ground.data }, { on := 7, ground := Ground.chain }, { on := 0, ground := Ground.phase }, { on := 1, ground := Ground.phase }, { on := 2, ground := Ground.phase }, { on := 3, ground := Ground.phase }, { on := 4, ground := Ground.phase }, { on := 5, ground := Ground.phase }, { on := 6, ground := Ground.phase }, { on := 7, ground := Ground.phase }, { on := 8, ground := Ground.phase }], guard := none } : Oper)) rfl (fun K hK => ?_) AllReadyH.nil)
            go_simp
            clear ta0 ta1 qa0 qa1 tb0 tb1 qb0 qb1
            obtain ⟨u3, hu⟩ : ∃ u, u = (u2.setCell ⟨bA, 0, none⟩ (.bool sS)).setCell ⟨bA, 1, none⟩ (.slice aS kS cS) := ⟨_, rfl⟩
            have IN := Lib.hid (show IntAt u3 jA lA mA oA qA _ from by rw [hu]; exact BA.out.it.stored BA.out.row _ _)
            have ba := (show IBox u3 bA _ _ _ _ _ _ from by rw [hu]; exact IBox.put IS.out BA.out.row)
            replace BB := Lib.hid (show IBox u3 bB _ _ _ _ _ _ from by rw [hu]; exact BB.out.other BA.out.row hAB.symm _ _)
            replace BA := Lib.hid ba
            have xb : Below w1.heap.size w1 u3 := by rw [hu]; exact (XB.setCell (p := ⟨bA, 0, none⟩) hsA _).setCell (p := ⟨bA, 1, none⟩) hsA _
            rw [← hu]
            clear hu ba XB IS
            have XB := xb
            clear xb
            obtain ⟨ta0, ta1, qa0, qa1⟩ := blk2 BA.out.row
            obtain ⟨tb0, tb1, qb0, qb1⟩ := blk2 BB.out.row
            refine hK.out _ _ ?_ (fun hH6 => ?_)
            · exact HKP.out _ XB
            clear hK K hH5
            (try simp only [Act.put, List.setIfInBounds_toArray, List.set_cons_zero, List.set_cons_succ])
            refine wpAnyH_ready (rs := [10]) (by kernel_rfl) (by simp) ?_
            refine (AllReadyH.cons (o := ({ dst := none, op := Op.store 31 (Operand.tmp 5) (Operand.tmp 37), type := 0, pos := "continued.go:43", after := #[{ on := 8, ground := Ground.data }, { on := 9, ground := Ground.chain }, { on := 0, ground := Ground.phase }, { on := 1, ground := Ground.phase }, { on := 2, ground := Ground.phase }, { on := 3, ground := Ground.phase }, { on := 4, ground := Ground.phase }, { on := 5, ground := Ground.phase }, { on := 6, ground := Ground.phase }, { on := 7, ground := Ground.phase }, { on := 8, ground := Ground.phase }, { on := 9, ground := Ground.phase }], guard := none } : Oper)) rfl (fun K hK => ?_) AllReadyH.nil)
            go_simp
            clear ta0 ta1 qa0 qa1 tb0 tb1 qb0 qb1
            obtain ⟨u4, hu⟩ : ∃ u, u = (u3.setCell ⟨bB, 0, none⟩ (.bool jA)).setCell ⟨bB, 1, none⟩ (.slice lA mA oA) := ⟨_, rfl⟩
            have bb := (show IBox u4 bB _ _ _ _ _ _ from by rw [hu]; exact IBox.put IN.out BB.out.row)
            replace BA := Lib.hid (show IBox u4 bA _ _ _ _ _ _ from by rw [hu]; exact BA.out.other BB.out.row hAB _ _)
            replace BB := Lib.hid bb
            have xb : Below w1.heap.size w1 u4 := by rw [hu]; exact (XB.setCell (p := ⟨bB, 0, none⟩) hsB _).setCell (p := ⟨bB, 1, none⟩) hsB _
            rw [← hu]
            clear hu bb XB IN
            have XB := xb
            clear xb
            obtain ⟨ta0, ta1, qa0, qa1⟩ := blk2 BA.out.row
            obtain ⟨tb0, tb1, qb0, qb1⟩ := blk2 BB.out.row
            refine hK.out _ _ ?_ (fun hH7 => ?_)
            · exact HKP.out _ XB
            clear hK K hH6
            (try simp only [Act.put, List.setIfInBounds_toArray, List.set_cons_zero, List.set_cons_succ])
            refine wpAnyH_done (by kernel_rfl) ?_ _
            refine NoPanic.normal ?_
            clear ta0 ta1 qa0 qa1 tb0 tb1 qb0 qb1
            go_wp2_with fail
            go_roundw
            case rel => exact .inr (.inl ⟨by go_num, _, _, _, _, _, _, _, _, _, _, BA.out, BB.out, by omega, by omega, XB⟩)
            case measure => simp [intOf]
        · go_simp
          refine hK.out _ _ ?_ (fun hH1 => ?_)
          · exact HKP.out _ XB
          clear hK K hH0
          (try simp only [Act.put, List.setIfInBounds_toArray, List.set_cons_zero, List.set_cons_succ])
          refine wpAnyH_ready (rs := [4, 6]) (by kernel_rfl) (by simp) ?_
          refine (AllReadyH.cons (o := ({ dst := some 33, op := Op.load 31 (Operand.tmp 4), type := 31, pos := "continued.go:43", after := #[], guard := none } : Oper)) rfl (fun K hK => ?_) (AllReadyH.cons (o := ({ dst := some 35, op := Op.load 31 (Operand.tmp 5), type := 31, pos := "continued.go:43", after := #[], guard := none } : Oper)) rfl (fun K hK => ?_) AllReadyH.nil))
          · go_simp
            refine hK.out _ _ ?_ (fun hH2 => ?_)
            · exact HKP.out _ XB
            clear hK K hH1
            (try simp only [Act.put, List.setIfInBounds_toArray, List.set_cons_zero, List.set_cons_succ])
            refine wpAnyH_ready (rs := [5, 6]) (by kernel_rfl) (by simp) ?_
            refine (AllReadyH.cons (o := ({ dst := some 34, op := Op.call { callee := Callee.value (Operand.func 84), args := #[Operand.tmp 32, Operand.tmp 33], argTypes := #[31, 31] }, type := 31, pos := "continued.go:43", after := #[{ on := 3, ground := Ground.data }, { on := 4, ground := Ground.data }], guard := none } : Oper)) rfl (fun K hK => ?_) (AllReadyH.cons (o := ({ dst := some 35, op := Op.load 31 (Operand.tmp 5), type := 31, pos := "continued.go:43", after := #[], guard := none } : Oper)) rfl (fun K hK => ?_) AllReadyH.nil))
            · go_simp
              clear ta0 ta1 qa0 qa1 tb0 tb1 qb0 qb1
              refine (mul_int _ _ _ _ _ _ _ _ _ _ _ (x1) (x2) (H.out.i1.below XB) BA.out.it (by omega) (by omega)).mono ?_
              rintro e u1 ⟨sM, aM, kM, cM, zM, rfl, iM, gM, ub⟩
              replace BA := Lib.hid (BA.out.below ub)
              replace BB := Lib.hid (BB.out.below ub)
              have IM := Lib.hid iM
              replace XB := XB.trans (ub.mono XB.size)
              clear iM ub
              obtain ⟨ta0, ta1, qa0, qa1⟩ := blk2 BA.out.row
              obtain ⟨tb0, tb1, qb0, qb1⟩ := blk2 BB.out.row
              refine hK.out _ _ ?_ (fun hH3 => ?_)
              · exact HKP.out _ XB
              clear hK K hH2
              (try simp only [Act.put, List.setIfInBounds_toArray, List.set_cons_zero, List.set_cons_succ])
              refine wpAnyH_ready (rs := [6]) (by kernel_rfl) (by simp) ?_
              refine (AllReadyH.cons (o := ({ dst := some 35, op := Op.load 31 (Operand.tmp 5), type := 31, pos := "continued.go:43", after := #[], guard := none } : Oper)) rfl (fun K hK => ?_) AllReadyH.nil)
              go_simp
              refine hK.out _ _ ?_ (fun hH4 => ?_)
              · exact HKP.out _ XB
              clear hK K hH3
              (try simp only [Act.put, List.setIfInBounds_toArray, List.set_cons_zero, List.set_cons_succ])
              refine wpAnyH_ready (rs := [7]) (by kernel_rfl) (by simp) ?_
              refine (AllReadyH.cons (o := ({ dst := some 36, op := Op.call { callee := Callee.value (Operand.func 95), args := #[Operand.tmp 34, Operand.tmp 35], argTypes := #[31, 31] }, type := 31, pos := "continued.go:43", after := #[{ on := 5, ground := Ground.data }, { on := 6, ground := Ground.data }, { on := 5, ground := Ground.chain }], guard := none } : Oper)) rfl (fun K hK => ?_) AllReadyH.nil)
              go_simp
              clear ta0 ta1 qa0 qa1 tb0 tb1 qb0 qb1
              refine (add_int _ _ _ _ _ _ _ _ _ _ _ _ (1) IM.out BB.out.it (by omega) (by omega)).mono ?_
              rintro e u2 ⟨sS, aS, kS, cS, zS, rfl, iS, gS, ub⟩
              replace BA := Lib.hid (BA.out.below ub)
              replace BB := Lib.hid (BB.out.below ub)
              have IS := Lib.hid iS
              replace XB := XB.trans (ub.mono XB.size)
              clear iS ub
              obtain ⟨ta0, ta1, qa0, qa1⟩ := blk2 BA.out.row
              obtain ⟨tb0, tb1, qb0, qb1⟩ := blk2 BB.out.row
              refine hK.out _ _ ?_ (fun hH5 => ?_)
              · exact HKP.out _ XB
              clear hK K hH4
              (try simp only [Act.put, List.setIfInBounds_toArray, List.set_cons_zero, List.set_cons_succ])
              refine wpAnyH_ready (rs := [9]) (by kernel_rfl) (by simp) ?_
              refine (AllReadyH.cons (o := ({ dst := none, op := Op.store 31 (Operand.tmp 4) (Operand.tmp 36), type := 0, pos := "continued.go:43", after := #[{ on := 7, ground := Ground.data }, { on := 7, ground := Ground.chain }, { on := 0, ground := Ground.phase }, { on := 1, ground := Ground.phase }, { on := 2, ground := Ground.phase }, { on := 3, ground := Ground.phase }, { on := 4, ground := Ground.phase }, { on := 5, ground := Ground.phase }, { on := 6, ground := Ground.phase }, { on := 7, ground := Ground.phase }, { on := 8, ground := Ground.phase }], guard := none } : Oper)) rfl (fun K hK => ?_) AllReadyH.nil)
              go_simp
              clear ta0 ta1 qa0 qa1 tb0 tb1 qb0 qb1
              obtain ⟨u3, hu⟩ : ∃ u, u = (u2.setCell ⟨bA, 0, none⟩ (.bool sS)).setCell ⟨bA, 1, none⟩ (.slice aS kS cS) := ⟨_, rfl⟩
              have IN := Lib.hid (show IntAt u3 jA lA mA oA qA _ from by rw [hu]; exact BA.out.it.stored BA.out.row _ _)
              have ba := (show IBox u3 bA _ _ _ _ _ _ from by rw [hu]; exact IBox.put IS.out BA.out.row)
              replace BB := Lib.hid (show IBox u3 bB _ _ _ _ _ _ from by rw [hu]; exact BB.out.other BA.out.row hAB.symm _ _)
              replace BA := Lib.hid ba
              have xb : Below w1.heap.size w1 u3 := by rw [hu]; exact (XB.setCell (p := ⟨bA, 0, none⟩) hsA _).setCell (p := ⟨bA, 1, none⟩) hsA _
              rw [← hu]
              clear hu ba XB IS
              have XB := xb
              clear xb
              obtain ⟨ta0, ta1, qa0, qa1⟩ := blk2 BA.out.row
              obtain ⟨tb0, tb1, qb0, qb1⟩ := blk2 BB.out.row
              refine hK.out _ _ ?_ (fun hH6 => ?_)
              · exact HKP.out _ XB
              clear hK K hH5
              (try simp only [Act.put, List.setIfInBounds_toArray, List.set_cons_zero, List.set_cons_succ])
              refine wpAnyH_ready (rs := [10]) (by kernel_rfl) (by simp) ?_
              refine (AllReadyH.cons (o := ({ dst := none, op := Op.store 31 (Operand.tmp 5) (Operand.tmp 37), type := 0, pos := "continued.go:43", after := #[{ on := 8, ground := Ground.data }, { on := 9, ground := Ground.chain }, { on := 0, ground := Ground.phase }, { on := 1, ground := Ground.phase }, { on := 2, ground := Ground.phase }, { on := 3, ground := Ground.phase }, { on := 4, ground := Ground.phase }, { on := 5, ground := Ground.phase }, { on := 6, ground := Ground.phase }, { on := 7, ground := Ground.phase }, { on := 8, ground := Ground.phase }, { on := 9, ground := Ground.phase }], guard := none } : Oper)) rfl (fun K hK => ?_) AllReadyH.nil)
              go_simp
              clear ta0 ta1 qa0 qa1 tb0 tb1 qb0 qb1
              obtain ⟨u4, hu⟩ : ∃ u, u = (u3.setCell ⟨bB, 0, none⟩ (.bool jA)).setCell ⟨bB, 1, none⟩ (.slice lA mA oA) := ⟨_, rfl⟩
              have bb := (show IBox u4 bB _ _ _ _ _ _ from by rw [hu]; exact IBox.put IN.out BB.out.row)
              replace BA := Lib.hid (show IBox u4 bA _ _ _ _ _ _ from by rw [hu]; exact BA.out.other BB.out.row hAB _ _)
              replace BB := Lib.hid bb
              have xb : Below w1.heap.size w1 u4 := by rw [hu]; exact (XB.setCell (p := ⟨bB, 0, none⟩) hsB _).setCell (p := ⟨bB, 1, none⟩) hsB _
              rw [← hu]
              clear hu bb XB IN
              have XB := xb
              clear xb
              obtain ⟨ta0, ta1, qa0, qa1⟩ := blk2 BA.out.row
              obtain ⟨tb0, tb1, qb0, qb1⟩ := blk2 BB.out.row
              refine hK.out _ _ ?_ (fun hH7 => ?_)
              · exact HKP.out _ XB
              clear hK K hH6
              (try simp only [Act.put, List.setIfInBounds_toArray, List.set_cons_zero, List.set_cons_succ])
              refine wpAnyH_done (by kernel_rfl) ?_ _
              refine NoPanic.normal ?_
              clear ta0 ta1 qa0 qa1 tb0 tb1 qb0 qb1
              go_wp2_with fail
              go_roundw
              case rel => exact .inr (.inl ⟨by go_num, _, _, _, _, _, _, _, _, _, _, BA.out, BB.out, by omega, by omega, XB⟩)
              case measure => simp [intOf]
            · go_simp
              refine hK.out _ _ ?_ (fun hH3 => ?_)
              · exact HKP.out _ XB
              clear hK K hH2
              (try simp only [Act.put, List.setIfInBounds_toArray, List.set_cons_zero, List.set_cons_succ])
              refine wpAnyH_ready (rs := [5]) (by kernel_rfl) (by simp) ?_
              refine (AllReadyH.cons (o := ({ dst := some 34, op := Op.call { callee := Callee.value (Operand.func 84), args := #[Operand.tmp 32, Operand.tmp 33], argTypes := #[31, 31] }, type := 31, pos := "continued.go:43", after := #[{ on := 3, ground := Ground.data }, { on := 4, ground := Ground.data }], guard := none } : Oper)) rfl (fun K hK => ?_) AllReadyH.nil)
              go_simp
              clear ta0 ta1 qa0 qa1 tb0 tb1 qb0 qb1
              refine (mul_int _ _ _ _ _ _ _ _ _ _ _ (x1) (x2) (H.out.i1.below XB) BA.out.it (by omega) (by omega)).mono ?_
              rintro e u1 ⟨sM, aM, kM, cM, zM, rfl, iM, gM, ub⟩
              replace BA := Lib.hid (BA.out.below ub)
              replace BB := Lib.hid (BB.out.below ub)
              have IM := Lib.hid iM
              replace XB := XB.trans (ub.mono XB.size)
              clear iM ub
              obtain ⟨ta0, ta1, qa0, qa1⟩ := blk2 BA.out.row
              obtain ⟨tb0, tb1, qb0, qb1⟩ := blk2 BB.out.row
              refine hK.out _ _ ?_ (fun hH4 => ?_)
              · exact HKP.out _ XB
              clear hK K hH3
              (try simp only [Act.put, List.setIfInBounds_toArray, List.set_cons_zero, List.set_cons_succ])
              refine wpAnyH_ready (rs := [7]) (by kernel_rfl) (by simp) ?_
              refine (AllReadyH.cons (o := ({ dst := some 36, op := Op.call { callee := Callee.value (Operand.func 95), args := #[Operand.tmp 34, Operand.tmp 35], argTypes := #[31, 31] }, type := 31, pos := "continued.go:43", after := #[{ on := 5, ground := Ground.data }, { on := 6, ground := Ground.data }, { on := 5, ground := Ground.chain }], guard := none } : Oper)) rfl (fun K hK => ?_) AllReadyH.nil)
              go_simp
              clear ta0 ta1 qa0 qa1 tb0 tb1 qb0 qb1
              refine (add_int _ _ _ _ _ _ _ _ _ _ _ _ (1) IM.out BB.out.it (by omega) (by omega)).mono ?_
              rintro e u2 ⟨sS, aS, kS, cS, zS, rfl, iS, gS, ub⟩
              replace BA := Lib.hid (BA.out.below ub)
              replace BB := Lib.hid (BB.out.below ub)
              have IS := Lib.hid iS
              replace XB := XB.trans (ub.mono XB.size)
              clear iS ub
              obtain ⟨ta0, ta1, qa0, qa1⟩ := blk2 BA.out.row
              obtain ⟨tb0, tb1, qb0, qb1⟩ := blk2 BB.out.row
              refine hK.out _ _ ?_ (fun hH5 => ?_)
              · exact HKP.out _ XB
              clear hK K hH4
              (try simp only [Act.put, List.setIfInBounds_toArray, List.set_cons_zero, List.set_cons_succ])
              refine wpAnyH_ready (rs := [9]) (by kernel_rfl) (by simp) ?_
              refine (AllReadyH.cons (o := ({ dst := none, op := Op.store 31 (Operand.tmp 4) (Operand.tmp 36), type := 0, pos := "continued.go:43", after := #[{ on := 7, ground := Ground.data }, { on := 7, ground := Ground.chain }, { on := 0, ground := Ground.phase }, { on := 1, ground := Ground.phase }, { on := 2, ground := Ground.phase }, { on := 3, ground := Ground.phase }, { on := 4, ground := Ground.phase }, { on := 5, ground := Ground.phase }, { on := 6, ground := Ground.phase }, { on := 7, ground := Ground.phase }, { on := 8, ground := Ground.phase }], guard := none } : Oper)) rfl (fun K hK => ?_) AllReadyH.nil)
              go_simp
              clear ta0 ta1 qa0 qa1 tb0 tb1 qb0 qb1
              obtain ⟨u3, hu⟩ : ∃ u, u = (u2.setCell ⟨bA, 0, none⟩ (.bool sS)).setCell ⟨bA, 1, none⟩ (.slice aS kS cS) := ⟨_, rfl⟩
              have IN := Lib.hid (show IntAt u3 jA lA mA oA qA _ from by rw [hu]; exact BA.out.it.stored BA.out.row _ _)
              have ba := (show IBox u3 bA _ _ _ _ _ _ from by rw [hu]; exact IBox.put IS.out BA.out.row)
              replace BB := Lib.hid (show IBox u3 bB _ _ _ _ _ _ from by rw [hu]; exact BB.out.other BA.out.row hAB.symm _ _)
              replace BA := Lib.hid ba
              have xb : Below w1.heap.size w1 u3 := by rw [hu]; exact (XB.setCell (p := ⟨bA, 0, none⟩) hsA _).setCell (p := ⟨bA, 1, none⟩) hsA _
              rw [← hu]
              clear hu ba XB IS
              have XB := xb
              clear xb
              obtain ⟨ta0, ta1, qa0, qa1⟩ := blk2 BA.out.row
              obtain ⟨tb0, tb1, qb0, qb1⟩ := blk2 BB.out.row
              refine hK.out _ _ ?_ (fun hH6 => ?_)
              · exact HKP.out _ XB
              clear hK K hH5
              (try simp only [Act.put, List.setIfInBounds_toArray, List.set_cons_zero, List.set_cons_succ])
              refine wpAnyH_ready (rs := [10]) (by kernel_rfl) (by simp) ?_
              refine (AllReadyH.cons (o := ({ dst := none, op := Op.store 31 (Operand.tmp 5) (Operand.tmp 37), type := 0, pos := "continued.go:43", after := #[{ on := 8, ground := Ground.data }, { on := 9, ground := Ground.chain }, { on := 0, ground := Ground.phase }, { on := 1, ground := Ground.phase }, { on := 2, ground := Ground.phase }, { on := 3, ground := Ground.phase }, { on := 4, ground := Ground.phase }, { on := 5, ground := Ground.phase }, { on := 6, ground := Ground.phase }, { on := 7, ground := Ground.phase }, { on := 8, ground := Ground.phase }, { on := 9, ground := Ground.phase }], guard := none } : Oper)) rfl (fun K hK => ?_) AllReadyH.nil)
              go_simp
              clear ta0 ta1 qa0 qa1 tb0 tb1 qb0 qb1
              obtain ⟨u4, hu⟩ : ∃ u, u = (u3.setCell ⟨bB, 0, none⟩ (.bool jA)).setCell ⟨bB, 1, none⟩ (.slice lA mA oA) := ⟨_, rfl⟩
              have bb := (show IBox u4 bB _ _ _ _ _ _ from by rw [hu]; exact IBox.put IN.out BB.out.row)
              replace BA := Lib.hid (show IBox u4 bA _ _ _ _ _ _ from by rw [hu]; exact BA.out.other BB.out.row hAB _ _)
              replace BB := Lib.hid bb
              have xb : Below w1.heap.size w1 u4 := by rw [hu]; exact (XB.setCell (p := ⟨bB, 0, none⟩) hsB _).setCell (p := ⟨bB, 1, none⟩) hsB _
              rw [← hu]
              clear hu bb XB IN
              have XB := xb
              clear xb
              obtain ⟨ta0, ta1, qa0, qa1⟩ := blk2 BA.out.row
              obtain ⟨tb0, tb1, qb0, qb1⟩ := blk2 BB.out.row
              refine hK.out _ _ ?_ (fun hH7 => ?_)
              · exact HKP.out _ XB
              clear hK K hH6
              (try simp only [Act.put, List.setIfInBounds_toArray, List.set_cons_zero, List.set_cons_succ])
              refine wpAnyH_done (by kernel_rfl) ?_ _
              refine NoPanic.normal ?_
              clear ta0 ta1 qa0 qa1 tb0 tb1 qb0 qb1
              go_wp2_with fail
              go_roundw
              case rel => exact .inr (.inl ⟨by go_num, _, _, _, _, _, _, _, _, _, _, BA.out, BB.out, by omega, by omega, XB⟩)
              case measure => simp [intOf]
          · go_simp
            refine hK.out _ _ ?_ (fun hH2 => ?_)
            · exact HKP.out _ XB
            clear hK K hH1
            (try simp only [Act.put, List.setIfInBounds_toArray, List.set_cons_zero, List.set_cons_succ])
            refine wpAnyH_ready (rs := [4]) (by kernel_rfl) (by simp) ?_
            refine (AllReadyH.cons (o := ({ dst := some 33, op := Op.load 31 (Operand.tmp 4), type := 31, pos := "continued.go:43", after := #[], guard := none } : Oper)) rfl (fun K hK => ?_) AllReadyH.nil)
            go_simp
            refine hK.out _ _ ?_ (fun hH3 => ?_)
            · exact HKP.out _ XB
            clear hK K hH2
            (try simp only [Act.put, List.setIfInBounds_toArray, List.set_cons_zero, List.set_cons_succ])
            refine wpAnyH_ready (rs := [5]) (by kernel_rfl) (by simp) ?_
            refine (AllReadyH.cons (o := ({ dst := some 34, op := Op.call { callee := Callee.value (Operand.func 84), args := #[Operand.tmp 32, Operand.tmp 33], argTypes := #[31, 31] }, type := 31, pos := "continued.go:43", after := #[{ on := 3, ground := Ground.data }, { on := 4, ground := Ground.data }], guard := none } : Oper)) rfl (fun K hK => ?_) AllReadyH.nil)
            go_simp
            clear ta0 ta1 qa0 qa1 tb0 tb1 qb0 qb1
            refine (mul_int _ _ _ _ _ _ _ _ _ _ _ (x1) (x2) (H.out.i1.below XB) BA.out.it (by omega) (by omega)).mono ?_
            rintro e u1 ⟨sM, aM, kM, cM, zM, rfl, iM, gM, ub⟩
            replace BA := Lib.hid (BA.out.below ub)
            replace BB := Lib.hid (BB.out.below ub)
            have IM := Lib.hid iM
            replace XB := XB.trans (ub.mono XB.size)
            clear iM ub
            obtain ⟨ta0, ta1, qa0, qa1⟩ := blk2 BA.out.row
            obtain ⟨tb0, tb1, qb0, qb1⟩ := blk2 BB.out.row
            refine hK.out _ _ ?_ (fun hH4 => ?_)
            · exact HKP.out _ XB
            clear hK K hH3
            (try simp only [Act.put, List.setIfInBounds_toArray, List.set_cons_zero, List.set_cons_succ])
            refine wpAnyH_ready (rs := [7]) (by kernel_rfl) (by simp) ?_
            refine (AllReadyH.cons (o := ({ dst := some 36, op := Op.call { callee := Callee.value (Operand.func 95), args := #[Operand.tmp 34, Operand.tmp 35], argTypes := #[31, 31] }, type := 31, pos := "continued.go:43", after := #[{ on := 5, ground := Ground.data }, { on := 6, ground := Ground.data }, { on := 5, ground := Ground.chain }], guard := none } : Oper)) rfl (fun K hK => ?_) AllReadyH.nil)
            go_simp
            clear ta0 ta1 qa0 qa1 tb0 tb1 qb0 qb1
            refine (add_int _ _ _ _ _ _ _ _ _ _ _ _ (1) IM.out BB.out.it (by omega) (by omega)).mono ?_
            rintro e u2 ⟨sS, aS, kS, cS, zS, rfl, iS, gS, ub⟩
            replace BA := Lib.hid (BA.out.below ub)
            replace BB := Lib.hid (BB.out.below ub)
            have IS := Lib.hid iS
            replace XB := XB.trans (ub.mono XB.size)
            clear iS ub
            obtain ⟨ta0, ta1, qa0, qa1⟩ := blk2 BA.out.row
            obtain ⟨tb0, tb1, qb0, qb1⟩ := blk2 BB.out.row
            refine hK.out _ _ ?_ (fun hH5 => ?_)
            · exact HKP.out _ XB
            clear hK K hH4
            (try simp only [Act.put, List.setIfInBounds_toArray, List.set_cons_zero, List.set_cons_succ])
            refine wpAnyH_ready (rs := [9]) (by kernel_rfl) (by simp) ?_
            refine (AllReadyH.cons (o := ({ dst := none, op := Op.store 31 (Operand.tmp 4) (Operand.tmp 36), type := 0, pos := "continued.go:43", after := #[{ on := 7, ground := Ground.data }, { on := 7, ground := Ground.chain }, { on := 0, ground := Ground.phase }, { on := 1, ground := Ground.phase }, { on := 2, ground := Ground.phase }, { on := 3, ground := Ground.phase }, { on := 4, ground := Ground.phase }, { on := 5, ground := Ground.phase }, { on := 6, ground := Ground.phase }, { on := 7, ground := Ground.phase }, { on := 8, ground := Ground.phase }], guard := none } : Oper)) rfl (fun K hK => ?_) AllReadyH.nil)
            go_simp
            clear ta0 ta1 qa0 qa1 tb0 tb1 qb0 qb1
            obtain ⟨u3, hu⟩ : ∃ u, u = (u2.setCell ⟨bA, 0, none⟩ (.bool sS)).setCell ⟨bA, 1, none⟩ (.slice aS kS cS) := ⟨_, rfl⟩
            have IN := Lib.hid (show IntAt u3 jA lA mA oA qA _ from by rw [hu]; exact BA.out.it.stored BA.out.row _ _)
            have ba := (show IBox u3 bA _ _ _ _ _ _ from by rw [hu]; exact IBox.put IS.out BA.out.row)
            replace BB := Lib.hid (show IBox u3 bB _ _ _ _ _ _ from by rw [hu]; exact BB.out.other BA.out.row hAB.symm _ _)
            replace BA := Lib.hid ba
            have xb : Below w1.heap.size w1 u3 := by rw [hu]; exact (XB.setCell (p := ⟨bA, 0, none⟩) hsA _).setCell (p := ⟨bA, 1, none⟩) hsA _
            rw [← hu]
            clear hu ba XB IS
            have XB := xb
            clear xb
            obtain ⟨ta0, ta1, qa0, qa1⟩ := blk2 BA.out.row
            obtain ⟨tb0, tb1, qb0, qb1⟩ := blk2 BB.out.row
            refine hK.out _ _ ?_ (fun hH6 => ?_)
            · exact HKP.out _ XB
            clear hK K hH5
            (try simp only [Act.put, List.setIfInBounds_toArray, List.set_cons_zero, List.set_cons_succ])
            refine wpAnyH_ready (rs := [10]) (by kernel_rfl) (by simp) ?_
            refine (AllReadyH.cons (o := ({ dst := none, op := Op.store 31 (Operand.tmp 5) (Operand.tmp 37), type := 0, pos := "continued.go:43", after := #[{ on := 8, ground := Ground.data }, { on := 9, ground := Ground.chain }, { on := 0, ground := Ground.phase }, { on := 1, ground := Ground.phase }, { on := 2, ground := Ground.phase }, { on := 3, ground := Ground.phase }, { on := 4, ground := Ground.phase }, { on := 5, ground := Ground.phase }, { on := 6, ground := Ground.phase }, { on := 7, ground := Ground.phase }, { on := 8, ground := Ground.phase }, { on := 9, ground := Ground.phase }], guard := none } : Oper)) rfl (fun K hK => ?_) AllReadyH.nil)
            go_simp
            clear ta0 ta1 qa0 qa1 tb0 tb1 qb0 qb1
            obtain ⟨u4, hu⟩ : ∃ u, u = (u3.setCell ⟨bB, 0, none⟩ (.bool jA)).setCell ⟨bB, 1, none⟩ (.slice lA mA oA) := ⟨_, rfl⟩
            have bb := (show IBox u4 bB _ _ _ _ _ _ from by rw [hu]; exact IBox.put IN.out BB.out.row)
            replace BA := Lib.hid (show IBox u4 bA _ _ _ _ _ _ from by rw [hu]; exact BA.out.other BB.out.row hAB _ _)
            replace BB := Lib.hid bb
            have xb : Below w1.heap.size w1 u4 := by rw [hu]; exact (XB.setCell (p := ⟨bB, 0, none⟩) hsB _).setCell (p := ⟨bB, 1, none⟩) hsB _
            rw [← hu]
            clear hu bb XB IN
            have XB := xb
            clear xb
            obtain ⟨ta0, ta1, qa0, qa1⟩ := blk2 BA.out.row
            obtain ⟨tb0, tb1, qb0, qb1⟩ := blk2 BB.out.row
            refine hK.out _ _ ?_ (fun hH7 => ?_)
            · exact HKP.out _ XB
            clear hK K hH6
            (try simp only [Act.put, List.setIfInBounds_toArray, List.set_cons_zero, List.set_cons_succ])
            refine wpAnyH_done (by kernel_rfl) ?_ _
            refine NoPanic.normal ?_
            clear ta0 ta1 qa0 qa1 tb0 tb1 qb0 qb1
            go_wp2_with fail
            go_roundw
            case rel => exact .inr (.inl ⟨by go_num, _, _, _, _, _, _, _, _, _, _, BA.out, BB.out, by omega, by omega, XB⟩)
            case measure => simp [intOf]
      · obtain ⟨c, hc⟩ : ∃ c, cmpI (x1 * x2 + 1) 0 = c := ⟨_, rfl⟩
        have hcz : (c == 0) = false := by rw [← hc]; unfold cmpI; by_cases q1 : (x1 * x2 + 1) < 0 <;> by_cases q2 : 0 < (x1 * x2 + 1) <;> simp [q1, q2] <;> omega
        have HC := Lib.hid hc
        have BA := Lib.hid hba
        have BB := Lib.hid hbb
        have HWR := Lib.hid hbel
        have HKP : Hid (∀ w', Below w1.heap.size w1 w' → w'.cell? ⟨b, 0, none⟩ = some (.bool s0) ∧ w'.cell? ⟨b, 1, none⟩ = some (.slice a0 m0 k0)) := Lib.hid (fun w' hb => ⟨(hb.cell (p := ⟨b, 0, none⟩) H.out.lt).trans H.out.c0, (hb.cell (p := ⟨b, 1, none⟩) H.out.lt).trans H.out.c1⟩)
        clear hc hba hbb hbel
        obtain ⟨e0, e1, -, -⟩ := blk2 BA.out.row
        go_wp2_with fail
        refine (sign_int _ _ _ _ _ _ (x1 * x2 + 1) BA.out.it).mono ?_
        rintro e v0 ⟨rfl, ub⟩
        rw [HC.out]
        replace BA := Lib.hid (BA.out.below ub)
        replace BB := Lib.hid (BB.out.below ub)
        replace HWR := Lib.hid (HWR.out.trans (ub.mono HWR.out.size))
        clear ub e0 e1 HC
        go_wp2_with fail
        refine wp_region_noPanic ?_
        refine wp_region_held_drew (S := (fun w' => w'.cell? ⟨b, 0, none⟩ = some (.bool s0) ∧ w'.cell? ⟨b, 1, none⟩ = some (.slice a0 m0 k0))) (by kernel_rfl) ?_ (fun hH0 => ?_)
        · exact HKP.out _ HWR.out.drew
        obtain ⟨u0, hu⟩ : ∃ u, u = v0.drew := ⟨_, rfl⟩
        have XB : Below w1.heap.size w1 u0 := by rw [hu]; exact HWR.out.drew
        replace BA := Lib.hid (show IBox u0 bA _ _ _ _ _ _ from by rw [hu]; exact BA.out.below (Below.refl _ _).drew)
        replace BB := Lib.hid (show IBox u0 bB _ _ _ _ _ _ from by rw [hu]; exact BB.out.below (Below.refl _ _).drew)
        rw [← hu] at hH0 ⊢
        clear hu HWR
        obtain ⟨ta0, ta1, qa0, qa1⟩ := blk2 BA.out.row
        obtain ⟨tb0, tb1, qb0, qb1⟩ := blk2 BB.out.row
        refine wpAnyH_take (i := 0) (oi := ({ dst := some 29, op := Op.move (Operand.tmp 0), type := 78, pos := "continued.go:43", after := #[], guard := none } : Oper)) (v := ?_) rfl (by kernel_rfl) (by kernel_rfl) (by kernel_rfl) (fun _ _ _ h => h) (Or.inl ⟨by rfl, ?_⟩) (by assumption) ?_
        rotate_left
        · (intro w hSw; (try dsimp only at hSw); go_simp; try with_reducible rfl)
        (try simp only [Act.put, List.setIfInBounds_toArray, List.set_cons_zero, List.set_cons_succ])
        refine wpAnyH_take (i := 1) (oi := ({ dst := some 30, op := Op.move (Operand.tmp 6), type := 3, pos := "continued.go:43", after := #[], guard := none } : Oper)) (v := ?_) rfl (by kernel_rfl) (by kernel_rfl) (by kernel_rfl) (fun _ _ _ h => h) (Or.inl ⟨by rfl, ?_⟩) (by assumption) ?_
        rotate_left
        · (intro w hSw; (try dsimp only at hSw); go_simp; try with_reducible rfl)
        (try simp only [Act.put, List.setIfInBounds_toArray, List.set_cons_zero, List.set_cons_succ])
        refine wpAnyH_take (i := 2) (oi := ({ dst := some 31, op := Op.indexAddr 78 (Operand.tmp 29) (Operand.tmp 30), type := 0, pos := "continued.go:43", after := #[{ on := 0, ground := Ground.data }, { on := 1, ground := Ground.data }], guard := none } : Oper)) (v := ?_) rfl (by kernel_rfl) (by kernel_rfl) (by kernel_rfl) (fun _ _ _ h => h) (Or.inl ⟨by rfl, ?_⟩) (by assumption) ?_
        rotate_left
        · (intro w hSw; (try dsimp only at hSw); go_simp; try with_reducible rfl)
        (try simp only [Act.put, List.setIfInBounds_toArray, List.set_cons_zero, List.set_cons_succ])
        refine wpAnyH_take (i := 3) (oi := ({ dst := some 32, op := Op.load 31 (Operand.tmp 31), type := 31, pos := "continued.go:43", after := #[{ on := 2, ground := Ground.data }], guard := none } : Oper)) (v := ?_) rfl (by kernel_rfl) (by kernel_rfl) (by kernel_rfl) (fun _ _ _ h => h) (Or.inl ⟨by rfl, ?_⟩) (by assumption) ?_
        rotate_left
        · (intro w hSw; (try dsimp only at hSw); go_simp; try with_reducible rfl)
        (try simp only [Act.put, List.setIfInBounds_toArray, List.set_cons_zero, List.set_cons_succ])
        refine wpAnyH_ready (rs := [4, 6, 8]) (by kernel_rfl) (by simp) ?_
        refine (AllReadyH.cons (o := ({ dst := some 33, op := Op.load 31 (Operand.tmp 4), type := 31, pos := "continued.go:43", after := #[], guard := none } : Oper)) rfl (fun K hK => ?_) (AllReadyH.cons (o := ({ dst := some 35, op := Op.load 31 (Operand.tmp 5), type := 31, pos := "continued.go:43", after := #[], guard := none } : Oper)) rfl (fun K hK => ?_) (AllReadyH.cons (o := ({ dst := some 37, op := Op.load 31 (Operand.tmp 4), type := 31, pos := "continued.go:43", after := #[], guard := none } : Oper)) rfl (fun K hK => ?_) AllReadyH.nil)))
        · go_simp
          refine hK.out _ _ ?_ (fun hH1 => ?_)
          · exact HKP.out _ XB
          clear hK K hH0
          (try simp only [Act.put, List.setIfInBounds_toArray, List.set_cons_zero, List.set_cons_succ])
          refine wpAnyH_ready (rs := [5, 6, 8]) (by kernel_rfl) (by simp) ?_
          refine (AllReadyH.cons (o := ({ dst := some 34, op := Op.call { callee := Callee.value (Operand.func 84), args := #[Operand.tmp 32, Operand.tmp 33], argTypes := #[31, 31] }, type := 31, pos := "continued.go:43", after := #[{ on := 3, ground := Ground.data }, { on := 4, ground := Ground.data }], guard := none } : Oper)) rfl (fun K hK => ?_) (AllReadyH.cons (o := ({ dst := some 35, op := Op.load 31 (Operand.tmp 5), type := 31, pos := "continued.go:43", after := #[], guard := none } : Oper)) rfl (fun K hK => ?_) (AllReadyH.cons (o := ({ dst := some 37, op := Op.load 31 (Operand.tmp 4), type := 31, pos := "continued.go:43", after := #[], guard := none } : Oper)) rfl (fun K hK => ?_) AllReadyH.nil)))
          · go_simp
            clear ta0 ta1 qa0 qa1 tb0 tb1 qb0 qb1
            refine (mul_int _ _ _ _ _ _ _ _ _ _ _ (x0) (x1 * x2 + 1) (H.out.i0.below XB) BA.out.it (by omega) (by omega)).mono ?_
            rintro e u1 ⟨sM, aM, kM, cM, zM, rfl, iM, gM, ub⟩
            replace BA := Lib.hid (BA.out.below ub)
            replace BB := Lib.hid (BB.out.below ub)
            have IM := Lib.hid iM
            replace XB := XB.trans (ub.mono XB.size)
            clear iM ub
            obtain ⟨ta0, ta1, qa0, qa1⟩ := blk2 BA.out.row
            obtain ⟨tb0, tb1, qb0, qb1⟩ := blk2 BB.out.row
            refine hK.out _ _ ?_ (fun hH2 => ?_)
            · exact HKP.out _ XB
            clear hK K hH1
            (try simp only [Act.put, List.setIfInBounds_toArray, List.set_cons_zero, List.set_cons_succ])
            refine wpAnyH_ready (rs := [6, 8]) (by kernel_rfl) (by simp) ?_
            refine (AllReadyH.cons (o := ({ dst := some 35, op := Op.load 31 (Operand.tmp 5), type := 31, pos := "continued.go:43", after := #[], guard := none } : Oper)) rfl (fun K hK => ?_) (AllReadyH.cons (o := ({ dst := some 37, op := Op.load 31 (Operand.tmp 4), type := 31, pos := "continued.go:43", after := #[], guard := none } : Oper)) rfl (fun K hK => ?_) AllReadyH.nil))
            · go_simp
              refine hK.out _ _ ?_ (fun hH3 => ?_)
              · exact HKP.out _ XB
              clear hK K hH2
              (try simp only [Act.put, List.setIfInBounds_toArray, List.set_cons_zero, List.set_cons_succ])
              refine wpAnyH_ready (rs := [7, 8]) (by kernel_rfl) (by simp) ?_
              refine (AllReadyH.cons (o := ({ dst := some 36, op := Op.call { callee := Callee.value (Operand.func 95), args := #[Operand.tmp 34, Operand.tmp 35], argTypes := #[31, 31] }, type := 31, pos := "continued.go:43", after := #[{ on := 5, ground := Ground.data }, { on := 6, ground := Ground.data }, { on := 5, ground := Ground.chain }], guard := none } : Oper)) rfl (fun K hK => ?_) (AllReadyH.cons (o := ({ dst := some 37, op := Op.load 31 (Operand.tmp 4), type := 31, pos := "continued.go:43", after := #[], guard := none } : Oper)) rfl (fun K hK => ?_) AllReadyH.nil))
              · go_simp
                clear ta0 ta1 qa0 qa1 tb0 tb1 qb0 qb1
                refine (add_int _ _ _ _ _ _ _ _ _ _ _ _ (x2) IM.out BB.out.it (by omega) (by omega)).mono ?_
                rintro e u2 ⟨sS, aS, kS, cS, zS, rfl, iS, gS, ub⟩
                replace BA := Lib.hid (BA.out.below ub)
                replace BB := Lib.hid (BB.out.below ub)
                have IS := Lib.hid iS
                replace XB := XB.trans (ub.mono XB.size)
                clear iS ub
                obtain ⟨ta0, ta1, qa0, qa1⟩ := blk2 BA.out.row
                obtain ⟨tb0, tb1, qb0, qb1⟩ := blk2 BB.out.row
                refine hK.out _ _ ?_ (fun hH4 => ?_)
                · exact HKP.out _ XB
                clear hK K hH3
                (try simp only [Act.put, List.setIfInBounds_toArray, List.set_cons_zero, List.set_cons_succ])
                refine wpAnyH_ready (rs := [8]) (by kernel_rfl) (by simp) ?_
                refine (AllReadyH.cons (o := ({ dst := some 37, op := Op.load 31 (Operand.tmp 4), type := 31, pos := "continued.go:43", after := #[], guard := none } : Oper)) rfl (fun K hK => ?_) AllReadyH.nil)
                go_simp
                refine hK.out _ _ ?_ (fun hH5 => ?_)
                · exact HKP.out _ XB
                clear hK K hH4
                (try simp only [Act.put, List.setIfInBounds_toArray, List.set_cons_zero, List.set_cons_succ])
                refine wpAnyH_ready (rs := [9]) (by kernel_rfl) (by simp) ?_
                refine (AllReadyH.cons (o := ({ dst := none, op := Op.store 31 (Operand.tmp 4) (Operand.tmp 36), type := 0, pos := "continued.go:43", after := #[{ on := 7, ground := Ground.data }, { on := 7, ground := Ground.chain }, { on := 0, ground := Ground.phase }, { on := 1, ground := Ground.phase }, { on := 2, ground := Ground.phase }, { on := 3, ground := Ground.phase }, { on := 4, ground := Ground.phase }, { on := 5, ground := Ground.phase }, { on := 6, ground := Ground.phase }, { on := 7, ground := Ground.phase }, { on := 8, ground := Ground.phase }], guard := none } : Oper)) rfl (fun K hK => ?_) AllReadyH.nil)
                go_simp
                clear ta0 ta1 qa0 qa1 tb0 tb1 qb0 qb1
                obtain ⟨u3, hu⟩ : ∃ u, u = (u2.setCell ⟨bA, 0, none⟩ (.bool sS)).setCell ⟨bA, 1, none⟩ (.slice aS kS cS) := ⟨_, rfl⟩
                have IN := Lib.hid (show IntAt u3 jA lA mA oA qA _ from by rw [hu]; exact BA.out.it.stored BA.out.row _ _)
                have ba := (show IBox u3 bA _ _ _ _ _ _ from by rw [hu]; exact IBox.put IS.out BA.out.row)
                replace BB := Lib.hid (show IBox u3 bB _ _ _ _ _ _ from by rw [hu]; exact BB.out.other BA.out.row hAB.symm _ _)
                replace BA := Lib.hid ba
                have xb : Below w1.heap.size w1 u3 := by rw [hu]; exact (XB.setCell (p := ⟨bA, 0, none⟩) hsA _).setCell (p := ⟨bA, 1, none⟩) hsA _
                rw [← hu]
                clear hu ba XB IS
                have XB := xb
                clear xb
                obtain ⟨ta0, ta1, qa0, qa1⟩ := blk2 BA.out.row
                obtain ⟨tb0, tb1, qb0, qb1⟩ := blk2 BB.out.row
                refine hK.out _ _ ?_ (fun hH6 => ?_)
                · exact HKP.out _ XB
                clear hK K hH5
                (try simp only [Act.put, List.setIfInBounds_toArray, List.set_cons_zero, List.set_cons_succ])
                refine wpAnyH_ready (rs := [10]) (by kernel_rfl) (by simp) ?_
                refine (AllReadyH.cons (o := ({ dst := none, op := Op.store 31 (Operand.tmp 5) (Operand.tmp 37), type := 0, pos := "continued.go:43", after := #[{ on := 8, ground := Ground.data }, { on := 9, ground := Ground.chain }, { on := 0, ground := Ground.phase }, { on := 1, ground := Ground.phase }, { on := 2, ground := Ground.phase }, { on := 3, ground := Ground.phase }, { on := 4, ground := Ground.phase }, { on := 5, ground := Ground.phase }, { on := 6, ground := Ground.phase }, { on := 7, ground := Ground.phase }, { on := 8, ground := Ground.phase }, { on := 9, ground := Ground.phase }], guard := none } : Oper)) rfl (fun K hK => ?_) AllReadyH.nil)
                go_simp
                clear ta0 ta1 qa0 qa1 tb0 tb1 qb0 qb1
                obtain ⟨u4, hu⟩ : ∃ u, u = (u3.setCell ⟨bB, 0, none⟩ (.bool jA)).setCell ⟨bB, 1, none⟩ (.slice lA mA oA) := ⟨_, rfl⟩
                have bb := (show IBox u4 bB _ _ _ _ _ _ from by rw [hu]; exact IBox.put IN.out BB.out.row)
                replace BA := Lib.hid (show IBox u4 bA _ _ _ _ _ _ from by rw [hu]; exact BA.out.other BB.out.row hAB _ _)
                replace BB := Lib.hid bb
                have xb : Below w1.heap.size w1 u4 := by rw [hu]; exact (XB.setCell (p := ⟨bB, 0, none⟩) hsB _).setCell (p := ⟨bB, 1, none⟩) hsB _
                rw [← hu]
                clear hu bb XB IN
                have XB := xb
                clear xb
                obtain ⟨ta0, ta1, qa0, qa1⟩ := blk2 BA.out.row
                obtain ⟨tb0, tb1, qb0, qb1⟩ := blk2 BB.out.row
                refine hK.out _ _ ?_ (fun hH7 => ?_)
                · exact HKP.out _ XB
                clear hK K hH6
                (try simp only [Act.put, List.setIfInBounds_toArray, List.set_cons_zero, List.set_cons_succ])
                refine wpAnyH_done (by kernel_rfl) ?_ _
                refine NoPanic.normal ?_
                clear ta0 ta1 qa0 qa1 tb0 tb1 qb0 qb1
                go_wp2_with fail
                go_roundw
                case rel => exact .inr (.inr ⟨by go_num, _, _, _, _, _, _, _, _, _, _, BA.out, BB.out, by omega, by omega, XB⟩)
                case measure => simp [intOf]
              · go_simp
                refine hK.out _ _ ?_ (fun hH4 => ?_)
                · exact HKP.out _ XB
                clear hK K hH3
                (try simp only [Act.put, List.setIfInBounds_toArray, List.set_cons_zero, List.set_cons_succ])
                refine wpAnyH_ready (rs := [7]) (by kernel_rfl) (by simp) ?_
                refine (AllReadyH.cons (o := ({ dst := some 36, op := Op.call { callee := Callee.value (Operand.func 95), args := #[Operand.tmp 34, Operand.tmp 35], argTypes := #[31, 31] }, type := 31, pos := "continued.go:43", after := #[{ on := 5, ground := Ground.data }, { on := 6, ground := Ground.data }, { on := 5, ground := Ground.chain }], guard := none } : Oper)) rfl (fun K hK => ?_) AllReadyH.nil)
                go_simp
                clear ta0 ta1 qa0 qa1 tb0 tb1 qb0 qb1
                refine (add_int _ _ _ _ _ _ _ _ _ _ _ _ (x2) IM.out BB.out.it (by omega) (by omega)).mono ?_
                rintro e u2 ⟨sS, aS, kS, cS, zS, rfl, iS, gS, ub⟩
                replace BA := Lib.hid (BA.out.below ub)
                replace BB := Lib.hid (BB.out.below ub)
                have IS := Lib.hid iS
                replace XB := XB.trans (ub.mono XB.size)
                clear iS ub
                obtain ⟨ta0, ta1, qa0, qa1⟩ := blk2 BA.out.row
                obtain ⟨tb0, tb1, qb0, qb1⟩ := blk2 BB.out.row
                refine hK.out _ _ ?_ (fun hH5 => ?_)
                · exact HKP.out _ XB
                clear hK K hH4
                (try simp only [Act.put, List.setIfInBounds_toArray, List.set_cons_zero, List.set_cons_succ])
                refine wpAnyH_ready (rs := [9]) (by kernel_rfl) (by simp) ?_
                refine (AllReadyH.cons (o := ({ dst := none, op := Op.store 31 (Operand.tmp 4) (Operand.tmp 36), type := 0, pos := "continued.go:43", after := #[{ on := 7, ground := Ground.data }, { on := 7, ground := Ground.chain }, { on := 0, ground := Ground.phase }, { on := 1, ground := Ground.phase }, { on := 2, ground := Ground.phase }, { on := 3, ground := Ground.phase }, { on := 4, ground := Ground.phase }, { on := 5, ground := Ground.phase }, { on := 6, ground := Ground.phase }, { on := 7, ground := Ground.phase }, { on := 8, ground := Ground.phase }], guard := none } : Oper)) rfl (fun K hK => ?_) AllReadyH.nil)
                go_simp
                clear ta0 ta1 qa0 qa1 tb0 tb1 qb0 qb1
                obtain ⟨u3, hu⟩ : ∃ u, u = (u2.setCell ⟨bA, 0, none⟩ (.bool sS)).setCell ⟨bA, 1, none⟩ (.slice aS kS cS) := ⟨_, rfl⟩
                have IN := Lib.hid (show IntAt u3 jA lA mA oA qA _ from by rw [hu]; exact BA.out.it.stored BA.out.row _ _)
                have ba := (show IBox u3 bA _ _ _ _ _ _ from by rw [hu]; exact IBox.put IS.out BA.out.row)
                replace BB := Lib.hid (show IBox u3 bB _ _ _ _ _ _ from by rw [hu]; exact BB.out.other BA.out.row hAB.symm _ _)
                replace BA := Lib.hid ba
                have xb : Below w1.heap.size w1 u3 := by rw [hu]; exact (XB.setCell (p := ⟨bA, 0, none⟩) hsA _).setCell (p := ⟨bA, 1, none⟩) hsA _
                rw [← hu]
                clear hu ba XB IS
                have XB := xb
                clear xb
                obtain ⟨ta0, ta1, qa0, qa1⟩ := blk2 BA.out.row
                obtain ⟨tb0, tb1, qb0, qb1⟩ := blk2 BB.out.row
                refine hK.out _ _ ?_ (fun hH6 => ?_)
                · exact HKP.out _ XB
                clear hK K hH5
                (try simp only [Act.put, List.setIfInBounds_toArray, List.set_cons_zero, List.set_cons_succ])
                refine wpAnyH_ready (rs := [10]) (by kernel_rfl) (by simp) ?_
                refine (AllReadyH.cons (o := ({ dst := none, op := Op.store 31 (Operand.tmp 5) (Operand.tmp 37), type := 0, pos := "continued.go:43", after := #[{ on := 8, ground := Ground.data }, { on := 9, ground := Ground.chain }, { on := 0, ground := Ground.phase }, { on := 1, ground := Ground.phase }, { on := 2, ground := Ground.phase }, { on := 3, ground := Ground.phase }, { on := 4, ground := Ground.phase }, { on := 5, ground := Ground.phase }, { on := 6, ground := Ground.phase }, { on := 7, ground := Ground.phase }, { on := 8, ground := Ground.phase }, { on := 9, ground := Ground.phase }], guard := none } : Oper)) rfl (fun K hK => ?_) AllReadyH.nil)
                go_simp
                clear ta0 ta1 qa0 qa1 tb0 tb1 qb0 qb1
                obtain ⟨u4, hu⟩ : ∃ u, u = (u3.setCell ⟨bB, 0, none⟩ (.bool jA)).setCell ⟨bB, 1, none⟩ (.slice lA mA oA) := ⟨_, rfl⟩
                have bb := (show IBox u4 bB _ _ _ _ _ _ from by rw [hu]; exact IBox.put IN.out BB.out.row)
                replace BA := Lib.hid (show IBox u4 bA _ _ _ _ _ _ from by rw [hu]; exact BA.out.other BB.out.row hAB _ _)
                replace BB := Lib.hid bb
                have xb : Below w1.heap.size w1 u4 := by rw [hu]; exact (XB.setCell (p := ⟨bB, 0, none⟩) hsB _).setCell (p := ⟨bB, 1, none⟩) hsB _
                rw [← hu]
                clear hu bb XB IN
                have XB := xb
                clear xb
                obtain ⟨ta0, ta1, qa0, qa1⟩ := blk2 BA.out.row
                obtain ⟨tb0, tb1, qb0, qb1⟩ := blk2 BB.out.row
                refine hK.out _ _ ?_ (fun hH7 => ?_)
                · exact HKP.out _ XB
                clear hK K hH6
                (try simp only [Act.put, List.setIfInBounds_toArray, List.set_cons_zero, List.set_cons_succ])
                refine wpAnyH_done (by kernel_rfl) ?_ _
                refine NoPanic.normal ?_
                clear ta0 ta1 qa0 qa1 tb0 tb1 qb0 qb1
                go_wp2_with fail
                go_roundw
                case rel => exact .inr (.inr ⟨by go_num, _, _, _, _, _, _, _, _, _, _, BA.out, BB.out, by omega, by omega, XB⟩)
                case measure => simp [intOf]
            · go_simp
              refine hK.out _ _ ?_ (fun hH3 => ?_)
              · exact HKP.out _ XB
              clear hK K hH2
              (try simp only [Act.put, List.setIfInBounds_toArray, List.set_cons_zero, List.set_cons_succ])
              refine wpAnyH_ready (rs := [6]) (by kernel_rfl) (by simp) ?_
              refine (AllReadyH.cons (o := ({ dst := some 35, op := Op.load 31 (Operand.tmp 5), type := 31, pos := "continued.go:43", after := #[], guard := none } : Oper)) rfl (fun K hK => ?_) AllReadyH.nil)
              go_simp
              refine hK.out _ _ ?_ (fun hH4 => ?_)
              · exact HKP.out _ XB
              clear hK K hH3
              (try simp only [Act.put, List.setIfInBounds_toArray, List.set_cons_zero, List.set_cons_succ])
              refine wpAnyH_ready (rs := [7]) (by kernel_rfl) (by simp) ?_
              refine (AllReadyH.cons (o := ({ dst := some 36, op := Op.call { callee := Callee.value (Operand.func 95), args := #[Operand.tmp 34, Operand.tmp 35], argTypes := #[31, 31] }, type := 31, pos := "continued.go:43", after := #[{ on := 5, ground := Ground.data }, { on := 6, ground := Ground.data }, { on := 5, ground := Ground.chain }], guard := none } : Oper)) rfl (fun K hK => ?_) AllReadyH.nil)
              go_simp
              clear ta0 ta1 qa0 qa1 tb0 tb1 qb0 qb1
              refine (add_int _ _ _ _ _ _ _ _ _ _ _ _ (x2) IM.out BB.out.it (by omega) (by omega)).mono ?_
              rintro e u2 ⟨sS, aS, kS, cS, zS, rfl, iS, gS, ub⟩
              replace BA := Lib.hid (BA.out.below ub)
              replace BB := Lib.hid (BB.out.below ub)
              have IS := Lib.hid iS
              replace XB := XB.trans (ub.mono XB.size)
              clear iS ub
              obtain ⟨ta0, ta1, qa0, qa1⟩ := blk2 BA.out.row
              obtain ⟨tb0, tb1, qb0, qb1⟩ := blk2 BB.out.row
              refine hK.out _ _ ?_ (fun hH5 => ?_)
              · exact HKP.out _ XB
              clear hK K hH4
              (try simp only [Act.put, List.setIfInBounds_toArray, List.set_cons_zero, List.set_cons_succ])
              refine wpAnyH_ready (rs := [9]) (by kernel_rfl) (by simp) ?_
              refine (AllReadyH.cons (o := ({ dst := none, op := Op.store 31 (Operand.tmp 4) (Operand.tmp 36), type := 0, pos := "continued.go:43", after := #[{ on := 7, ground := Ground.data }, { on := 7, ground := Ground.chain }, { on := 0, ground := Ground.phase }, { on := 1, ground := Ground.phase }, { on := 2, ground := Ground.phase }, { on := 3, ground := Ground.phase }, { on := 4, ground := Ground.phase }, { on := 5, ground := Ground.phase }, { on := 6, ground := Ground.phase }, { on := 7, ground := Ground.phase }, { on := 8, ground := Ground.phase }], guard := none } : Oper)) rfl (fun K hK => ?_) AllReadyH.nil)
              go_simp
              clear ta0 ta1 qa0 qa1 tb0 tb1 qb0 qb1
              obtain ⟨u3, hu⟩ : ∃ u, u = (u2.setCell ⟨bA, 0, none⟩ (.bool sS)).setCell ⟨bA, 1, none⟩ (.slice aS kS cS) := ⟨_, rfl⟩
              have IN := Lib.hid (show IntAt u3 jA lA mA oA qA _ from by rw [hu]; exact BA.out.it.stored BA.out.row _ _)
              have ba := (show IBox u3 bA _ _ _ _ _ _ from by rw [hu]; exact IBox.put IS.out BA.out.row)
              replace BB := Lib.hid (show IBox u3 bB _ _ _ _ _ _ from by rw [hu]; exact BB.out.other BA.out.row hAB.symm _ _)
              replace BA := Lib.hid ba
              have xb : Below w1.heap.size w1 u3 := by rw [hu]; exact (XB.setCell (p := ⟨bA, 0, none⟩) hsA _).setCell (p := ⟨bA, 1, none⟩) hsA _
              rw [← hu]
              clear hu ba XB IS
              have XB := xb
              clear xb
              obtain ⟨ta0, ta1, qa0, qa1⟩ := blk2 BA.out.row
              obtain ⟨tb0, tb1, qb0, qb1⟩ := blk2 BB.out.row
              refine hK.out _ _ ?_ (fun hH6 => ?_)
              · exact HKP.out _ XB
              clear hK K hH5
              (try simp only [Act.put, List.setIfInBounds_toArray, List.set_cons_zero, List.set_cons_succ])
              refine wpAnyH_ready (rs := [10]) (by kernel_rfl) (by simp) ?_
              refine (AllReadyH.cons (o := ({ dst := none, op := Op.store 31 (Operand.tmp 5) (Operand.tmp 37), type := 0, pos := "continued.go:43", after := #[{ on := 8, ground := Ground.data }, { on := 9, ground := Ground.chain }, { on := 0, ground := Ground.phase }, { on := 1, ground := Ground.phase }, { on := 2, ground := Ground.phase }, { on := 3, ground := Ground.phase }, { on := 4, ground := Ground.phase }, { on := 5, ground := Ground.phase }, { on := 6, ground := Ground.phase }, { on := 7, ground := Ground.phase }, { on := 8, ground := Ground.phase }, { on := 9, ground := Ground.phase }], guard := none } : Oper)) rfl (fun K hK => ?_) AllReadyH.nil)
              go_simp
              clear ta0 ta1 qa0 qa1 tb0 tb1 qb0 qb1
              obtain ⟨u4, hu⟩ : ∃ u, u = (u3.setCell ⟨bB, 0, none⟩ (.bool jA)).setCell ⟨bB, 1, none⟩ (.slice lA mA oA) := ⟨_, rfl⟩
              have bb := (show IBox u4 bB _ _ _ _ _ _ from by rw [hu]; exact IBox.put IN.out BB.out.row)
              replace BA := Lib.hid (show IBox u4 bA _ _ _ _ _ _ from by rw [hu]; exact BA.out.other BB.out.row hAB _ _)
              replace BB := Lib.hid bb
              have xb : Below w1.heap.size w1 u4 := by rw [hu]; exact (XB.setCell (p := ⟨bB, 0, none⟩) hsB _).setCell (p := ⟨bB, 1, none⟩) hsB _
              rw [← hu]
              clear hu bb XB IN
              have XB := xb
              clear xb
              obtain ⟨ta0, ta1, qa0, qa1⟩ := blk2 BA.out.row
              obtain ⟨tb0, tb1, qb0, qb1⟩ := blk2 BB.out.row
              refine hK.out _ _ ?_ (fun hH7 => ?_)
              · exact HKP.out _ XB
              clear hK K hH6
              (try simp only [Act.put, List.setIfInBounds_toArray, List.set_cons_zero, List.set_cons_succ])
              refine wpAnyH_done (by kernel_rfl) ?_ _
              refine NoPanic.normal ?_
              clear ta0 ta1 qa0 qa1 tb0 tb1 qb0 qb1
              go_wp2_with fail
              go_roundw
              case rel => exact .inr (.inr ⟨by go_num, _, _, _, _, _, _, _, _, _, _, BA.out, BB.out, by omega, by omega, XB⟩)
              case measure => simp [intOf]
          · go_simp
            refine hK.out _ _ ?_ (fun hH2 => ?_)
            · exact HKP.out _ XB
            clear hK K hH1
            (try simp only [Act.put, List.setIfInBounds_toArray, List.set_cons_zero, List.set_cons_succ])
            refine wpAnyH_ready (rs := [5, 8]) (by kernel_rfl) (by simp) ?_
            refine (AllReadyH.cons (o := ({ dst := some 34, op := Op.call { callee := Callee.value (Operand.func 84), args := #[Operand.tmp 32, Operand.tmp 33], argTypes := #[31, 31] }, type := 31, pos := "continued.go:43", after := #[{ on := 3, ground := Ground.data }, { on := 4, ground := Ground.data }], guard := none } : Oper)) rfl (fun K hK => ?_) (AllReadyH.cons (o := ({ dst := some 37, op := Op.load 31 (Operand.tmp 4), type := 31, pos := "continued.go:43", after := #[], guard := none } : Oper)) rfl (fun K hK => ?_) AllReadyH.nil))
            · go_simp
              clear ta0 ta1 qa0 qa1 tb0 tb1 qb0 qb1
              refine (mul_int _ _ _ _ _ _ _ _ _ _ _ (x0) (x1 * x2 + 1) (H.out.i0.below XB) BA.out.it (by omega) (by omega)).mono ?_
              rintro e u1 ⟨sM, aM, kM, cM, zM, rfl, iM, gM, ub⟩
              replace BA := Lib.hid (BA.out.below ub)
              replace BB := Lib.hid (BB.out.below ub)
              have IM := Lib.hid iM
              replace XB := XB.trans (ub.mono XB.size)
              clear iM ub
              obtain ⟨ta0, ta1, qa0, qa1⟩ := blk2 BA.out.row
              obtain ⟨tb0, tb1, qb0, qb1⟩ := blk2 BB.out.row
              refine hK.out _ _ ?_ (fun hH3 => ?_)
              · exact HKP.out _ XB
              clear hK K hH2
              (try simp only [Act.put, List.setIfInBounds_toArray, List.set_cons_zero, List.set_cons_succ])
              refine wpAnyH_ready (rs := [7, 8]) (by kernel_rfl) (by simp) ?_
              refine (AllReadyH.cons (o := ({ dst := some 36, op := Op.call { callee := Callee.value (Operand.func 95), args := #[Operand.tmp 34, Operand.tmp 35], argTypes := #[31, 31] }, type := 31, pos := "continued.go:43", after := #[{ on := 5, ground := Ground.data }, { on := 6, ground := Ground.data }, { on := 5, ground := Ground.chain }], guard := none } : Oper)) rfl (fun K hK => ?_) (AllReadyH.cons (o := ({ dst := some 37, op := Op.load 31 (Operand.tmp 4), type := 31, pos := "continued.go:43", after := #[], guard := none } : Oper)) rfl (fun K hK => ?_) AllReadyH.nil))
              · go_simp
                clear ta0 ta1 qa0 qa1 tb0 tb1 qb0 qb1
                refine (add_int _ _ _ _ _ _ _ _ _ _ _ _ (x2) IM.out BB.out.it (by omega) (by omega)).mono ?_
                rintro e u2 ⟨sS, aS, kS, cS, zS, rfl, iS, gS, ub⟩
                replace BA := Lib.hid (BA.out.below ub)
                replace BB := Lib.hid (BB.out.below ub)
                have IS := Lib.hid iS
                replace XB := XB.trans (ub.mono XB.size)
                clear iS ub
                obtain ⟨ta0, ta1, qa0, qa1⟩ := blk2 BA.out.row
                obtain ⟨tb0, tb1, qb0, qb1⟩ := blk2 BB.out.row
                refine hK.out _ _ ?_ (fun hH4 => ?_)
                · exact HKP.out _ XB
                clear hK K hH3
                (try simp only [Act.put, List.setIfInBounds_toArray, List.set_cons_zero, List.set_cons_succ])
                refine wpAnyH_ready (rs := [8]) (by kernel_rfl) (by simp) ?_
                refine (AllReadyH.cons (o := ({ dst := some 37, op := Op.load 31 (Operand.tmp 4), type := 31, pos := "continued.go:43", after := #[], guard := none } : Oper)) rfl (fun K hK => ?_) AllReadyH.nil)
                go_simp
                refine hK.out _ _ ?_ (fun hH5 => ?_)
                · exact HKP.out _ XB
                clear hK K hH4
                (try simp only [Act.put, List.setIfInBounds_toArray, List.set_cons_zero, List.set_cons_succ])
                refine wpAnyH_ready (rs := [9]) (by kernel_rfl) (by simp) ?_
                refine (AllReadyH.cons (o := ({ dst := none, op := Op.store 31 (Operand.tmp 4) (Operand.tmp 36), type := 0, pos := "continued.go:43", after := #[{ on := 7, ground := Ground.data }, { on := 7, ground := Ground.chain }, { on := 0, ground := Ground.phase }, { on := 1, ground := Ground.phase }, { on := 2, ground := Ground.phase }, { on := 3, ground := Ground.phase }, { on := 4, ground := Ground.phase }, { on := 5, ground := Ground.phase }, { on := 6, ground := Ground.phase }, { on := 7, ground := Ground.phase }, { on := 8, ground := Ground.phase }], guard := none } : Oper)) rfl (fun K hK => ?_) AllReadyH.nil)
                go_simp
                clear ta0 ta1 qa0 qa1 tb0 tb1 qb0 qb1
                obtain ⟨u3, hu⟩ : ∃ u, u = (u2.setCell ⟨bA, 0, none⟩ (.bool sS)).setCell ⟨bA, 1, none⟩ (.slice aS kS cS) := ⟨_, rfl⟩
                have IN := Lib.hid (show IntAt u3 jA lA mA oA qA _ from by rw [hu]; exact BA.out.it.stored BA.out.row _ _)
                have ba := (show IBox u3 bA _ _ _ _ _ _ from by rw [hu]; exact IBox.put IS.out BA.out.row)
                replace BB := Lib.hid (show IBox u3 bB _ _ _ _ _ _ from by rw [hu]; exact BB.out.other BA.out.row hAB.symm _ _)
                replace BA := Lib.hid ba
                have xb : Below w1.heap.size w1 u3 := by rw [hu]; exact (XB.setCell (p := ⟨bA, 0, none⟩) hsA _).setCell (p := ⟨bA, 1, none⟩) hsA _
                rw [← hu]
                clear hu ba XB IS
                have XB := xb
                clear xb
                obtain ⟨ta0, ta1, qa0, qa1⟩ := blk2 BA.out.row
                obtain ⟨tb0, tb1, qb0, qb1⟩ := blk2 BB.out.row
                refine hK.out _ _ ?_ (fun hH6 => ?_)
                · exact HKP.out _ XB
                clear hK K hH5
                (try simp only [Act.put, List.setIfInBounds_toArray, List.set_cons_zero, List.set_cons_succ])
                refine wpAnyH_ready (rs := [10]) (by kernel_rfl) (by simp) ?_
                refine (AllReadyH.cons (o := ({ dst := none, op := Op.store 31 (Operand.tmp 5) (Operand.tmp 37), type := 0, pos := "continued.go:43", after := #[{ on := 8, ground := Ground.data }, { on := 9, ground := Ground.chain }, { on := 0, ground := Ground.phase }, { on := 1, ground := Ground.phase }, { on := 2, ground := Ground.phase }, { on := 3, ground := Ground.phase }, { on := 4, ground := Ground.phase }, { on := 5, ground := Ground.phase }, { on := 6, ground := Ground.phase }, { on := 7, ground := Ground.phase }, { on := 8, ground := Ground.phase }, { on := 9, ground := Ground.phase }], guard := none } : Oper)) rfl (fun K hK => ?_) AllReadyH.nil)
                go_simp
                clear ta0 ta1 qa0 qa1 tb0 tb1 qb0 qb1
                obtain ⟨u4, hu⟩ : ∃ u, u = (u3.setCell ⟨bB, 0, none⟩ (.bool jA)).setCell ⟨bB, 1, none⟩ (.slice lA mA oA) := ⟨_, rfl⟩
                have bb := (show IBox u4 bB _ _ _ _ _ _ from by rw [hu]; exact IBox.put IN.out BB.out.row)
                replace BA := Lib.hid (show IBox u4 bA _ _ _ _ _ _ from by rw [hu]; exact BA.out.other BB.out.row hAB _ _)
                replace BB := Lib.hid bb
                have xb : Below w1.heap.size w1 u4 := by rw [hu]; exact (XB.setCell (p := ⟨bB, 0, none⟩) hsB _).setCell (p := ⟨bB, 1, none⟩) hsB _
                rw [← hu]
                clear hu bb XB IN
                have XB := xb
                clear xb
                obtain ⟨ta0, ta1, qa0, qa1⟩ := blk2 BA.out.row
                obtain ⟨tb0, tb1, qb0, qb1⟩ := blk2 BB.out.row
                refine hK.out _ _ ?_ (fun hH7 => ?_)
                · exact HKP.out _ XB
                clear hK K hH6
                (try simp only [Act.put, List.setIfInBounds_toArray, List.set_cons_zero, List.set_cons_succ])
                refine wpAnyH_done (by kernel_rfl) ?_ _
                refine NoPanic.normal ?_
                clear ta0 ta1 qa0 qa1 tb0 tb1 qb0 qb1
                go_wp2_with fail
                go_roundw
                case rel => exact .inr (.inr ⟨by go_num, _, _, _, _, _, _, _, _, _, _, BA.out, BB.out, by omega, by omega, XB⟩)
                case measure => simp [intOf]
              · go_simp
                refine hK.out _ _ ?_ (fun hH4 => ?_)
                · exact HKP.out _ XB
                clear hK K hH3
                (try simp only [Act.put, List.setIfInBounds_toArray, List.set_cons_zero, List.set_cons_succ])
                refine wpAnyH_ready (rs := [7]) (by kernel_rfl) (by simp) ?_
                refine (AllReadyH.cons (o := ({ dst := some 36, op := Op.call { callee := Callee.value (Operand.func 95), args := #[Operand.tmp 34, Operand.tmp 35], argTypes := #[31, 31] }, type := 31, pos := "continued.go:43", after := #[{ on := 5, ground := Ground.data }, { on := 6, ground := Ground.data }, { on := 5, ground := Ground.chain }], guard := none } : Oper)) rfl (fun K hK => ?_) AllReadyH.nil)
                go_simp
                clear ta0 ta1 qa0 qa1 tb0 tb1 qb0 qb1
                refine (add_int _ _ _ _ _ _ _ _ _ _ _ _ (x2) IM.out BB.out.it (by omega) (by omega)).mono ?_
                rintro e u2 ⟨sS, aS, kS, cS, zS, rfl, iS, gS, ub⟩
                replace BA := Lib.hid (BA.out.below ub)
                replace BB := Lib.hid (BB.out.below ub)
                have IS := Lib.hid iS
                replace XB := XB.trans (ub.mono XB.size)
                clear iS ub
                obtain ⟨ta0, ta1, qa0, qa1⟩ := blk2 BA.out.row
                obtain ⟨tb0, tb1, qb0, qb1⟩ := blk2 BB.out.row
                refine hK.out _ _ ?_ (fun hH5 => ?_)
                · exact HKP.out _ XB
                clear hK K hH4
                (try simp only [Act.put, List.setIfInBounds_toArray, List.set_cons_zero, List.set_cons_succ])
                refine wpAnyH_ready (rs := [9]) (by kernel_rfl) (by simp) ?_
                refine (AllReadyH.cons (o := ({ dst := none, op := Op.store 31 (Operand.tmp 4) (Operand.tmp 36), type := 0, pos := "continued.go:43", after := #[{ on := 7, ground := Ground.data }, { on := 7, ground := Ground.chain }, { on := 0, ground := Ground.phase }, { on := 1, ground := Ground.phase }, { on := 2, ground := Ground.phase }, { on := 3, ground := Ground.phase }, { on := 4, ground := Ground.phase }, { on := 5, ground := Ground.phase }, { on := 6, ground := Ground.phase }, { on := 7, ground := Ground.phase }, { on := 8, ground := Ground.phase }], guard := none } : Oper)) rfl (fun K hK => ?_) AllReadyH.nil)
                go_simp
                clear ta0 ta1 qa0 qa1 tb0 tb1 qb0 qb1
                obtain ⟨u3, hu⟩ : ∃ u, u = (u2.setCell ⟨bA, 0, none⟩ (.bool sS)).setCell ⟨bA, 1, none⟩ (.slice aS kS cS) := ⟨_, rfl⟩
                have IN := Lib.hid (show IntAt u3 jA lA mA oA qA _ from by rw [hu]; exact BA.out.it.stored BA.out.row _ _)
                have ba := (show IBox u3 bA _ _ _ _ _ _ from by rw [hu]; exact IBox.put IS.out BA.out.row)
                replace BB := Lib.hid (show IBox u3 bB _ _ _ _ _ _ from by rw [hu]; exact BB.out.other BA.out.row hAB.symm _ _)
                replace BA := Lib.hid ba
                have xb : Below w1.heap.size w1 u3 := by rw [hu]; exact (XB.setCell (p := ⟨bA, 0, none⟩) hsA _).setCell (p := ⟨bA, 1, none⟩) hsA _
                rw [← hu]
                clear hu ba XB IS
                have XB := xb
                clear xb
                obtain ⟨ta0, ta1, qa0, qa1⟩ := blk2 BA.out.row
                obtain ⟨tb0, tb1, qb0, qb1⟩ := blk2 BB.out.row
                refine hK.out _ _ ?_ (fun hH6 => ?_)
                · exact HKP.out _ XB
                clear hK K hH5
                (try simp only [Act.put, List.setIfInBounds_toArray, List.set_cons_zero, List.set_cons_succ])
                refine wpAnyH_ready (rs := [10]) (by kernel_rfl) (by simp) ?_
                refine (AllReadyH.cons (o := ({ dst := none, op := Op.store 31 (Operand.tmp 5) (Operand.tmp 37), type := 0, pos := "continued.go:43", after := #[{ on := 8, ground := Ground.data }, { on := 9, ground := Ground.chain }, { on := 0, ground := Ground.phase }, { on := 1, ground := Ground.phase }, { on := 2, ground := Ground.phase }, { on := 3, ground := Ground.phase }, { on := 4, ground := Ground.phase }, { on := 5, ground := Ground.phase }, { on := 6, ground := Ground.phase }, { on := 7, ground := Ground.phase }, { on := 8, ground := Ground.phase }, { on := 9, ground := Ground.phase }], guard := none } : Oper)) rfl (fun K hK => ?_) AllReadyH.nil)
                go_simp
                clear ta0 ta1 qa0 qa1 tb0 tb1 qb0 qb1
                obtain ⟨u4, hu⟩ : ∃ u, u = (u3.setCell ⟨bB, 0, none⟩ (.bool jA)).setCell ⟨bB, 1, none⟩ (.slice lA mA oA) := ⟨_, rfl⟩
                have bb := (show IBox u4 bB _ _ _ _ _ _ from by rw [hu]; exact IBox.put IN.out BB.out.row)
                replace BA := Lib.hid (show IBox u4 bA _ _ _ _ _ _ from by rw [hu]; exact BA.out.other BB.out.row hAB _ _)
                replace BB := Lib.hid bb
                have xb : Below w1.heap.size w1 u4 := by rw [hu]; exact (XB.setCell (p := ⟨bB, 0, none⟩) hsB _).setCell (p := ⟨bB, 1, none⟩) hsB _
                rw [← hu]
                clear hu bb XB IN
                have XB := xb
                clear xb
                obtain ⟨ta0, ta1, qa0, qa1⟩ := blk2 BA.out.row
                obtain ⟨tb0, tb1, qb0, qb1⟩ := blk2 BB.out.row
                refine hK.out _ _ ?_ (fun hH7 => ?_)
                · exact HKP.out _ XB
                clear hK K hH6
                (try simp only [Act.put, List.setIfInBounds_toArray, List.set_cons_zero, List.set_cons_succ])
                refine wpAnyH_done (by kernel_rfl) ?_ _
                refine NoPanic.normal ?_
                clear ta0 ta1 qa0 qa1 tb0 tb1 qb0 qb1
                go_wp2_with fail
                go_roundw
                case rel => exact .inr (.inr ⟨by go_num, _, _, _, _, _, _, _, _, _, _, BA.out, BB.out, by omega, by omega, XB⟩)
                case measure => simp [intOf]
            · go_simp
              refine hK.out _ _ ?_ (fun hH3 => ?_)
              · exact HKP.out _ XB
              clear hK K hH2
              (try simp only [Act.put, List.setIfInBounds_toArray, List.set_cons_zero, List.set_cons_succ])
              refine wpAnyH_ready (rs := [5]) (by kernel_rfl) (by simp) ?_
              refine (AllReadyH.cons (o := ({ dst := some 34, op := Op.call { callee := Callee.value (Operand.func 84), args := #[Operand.tmp 32, Operand.tmp 33], argTypes := #[31, 31] }, type := 31, pos := "continued.go:43", after := #[{ on := 3, ground := Ground.data }, { on := 4, ground := Ground.data }], guard := none } : Oper)) rfl (fun K hK => ?_) AllReadyH.nil)
              go_simp
              clear ta0 ta1 qa0 qa1 tb0 tb1 qb0 qb1
              refine (mul_int _ _ _ _ _ _ _ _ _ _ _ (x0) (x1 * x2 + 1) (H.out.i0.below XB) BA.out.it (by omega) (by omega)).mono ?_
              rintro e u1 ⟨sM, aM, kM, cM, zM, rfl, iM, gM, ub⟩
              replace BA := Lib.hid (BA.out.below ub)
              replace BB := Lib.hid (BB.out.below ub)
              have IM := Lib.hid iM
              replace XB := XB.trans (ub.mono XB.size)
              clear iM ub
              obtain ⟨ta0, ta1, qa0, qa1⟩ := blk2 BA.out.row
              obtain ⟨tb0, tb1, qb0, qb1⟩ := blk2 BB.out.row
              refine hK.out _ _ ?_ (fun hH4 => ?_)
              · exact HKP.out _ XB
              clear hK K hH3
              (try simp only [Act.put, List.setIfInBounds_toArray, List.set_cons_zero, List.set_cons_succ])
              refine wpAnyH_ready (rs := [7]) (by kernel_rfl) (by simp) ?_
              refine (AllReadyH.cons (o := ({ dst := some 36, op := Op.call { callee := Callee.value (Operand.func 95), args := #[Operand.tmp 34, Operand.tmp 35], argTypes := #[31, 31] }, type := 31, pos := "continued.go:43", after := #[{ on := 5, ground := Ground.data }, { on := 6, ground := Ground.data }, { on := 5, ground := Ground.chain }], guard := none } : Oper)) rfl (fun K hK => ?_) AllReadyH.nil)
              go_simp
              clear ta0 ta1 qa0 qa1 tb0 tb1 qb0 qb1
              refine (add_int _ _ _ _ _ _ _ _ _ _ _ _ (x2) IM.out BB.out.it (by omega) (by omega)).mono ?_
              rintro e u2 ⟨sS, aS, kS, cS, zS, rfl, iS, gS, ub⟩
              replace BA := Lib.hid (BA.out.below ub)
              replace BB := Lib.hid (BB.out.below ub)
              have IS := Lib.hid iS
              replace XB := XB.trans (ub.mono XB.size)
              clear iS ub
              obtain ⟨ta0, ta1, qa0, qa1⟩ := blk2 BA.out.row
              obtain ⟨tb0, tb1, qb0, qb1⟩ := blk2 BB.out.row
              refine hK.out _ _ ?_ (fun hH5 => ?_)
              · exact HKP.out _ XB
              clear hK K hH4
              (try simp only [Act.put, List.setIfInBounds_toArray, List.set_cons_zero, List.set_cons_succ])
              refine wpAnyH_ready (rs := [9]) (by kernel_rfl) (by simp) ?_
              refine (AllReadyH.cons (o := ({ dst := none, op := Op.store 31 (Operand.tmp 4) (Operand.tmp 36), type := 0, pos := "continued.go:43", after := #[{ on := 7, ground := Ground.data }, { on := 7, ground := Ground.chain }, { on := 0, ground := Ground.phase }, { on := 1, ground := Ground.phase }, { on := 2, ground := Ground.phase }, { on := 3, ground := Ground.phase }, { on := 4, ground := Ground.phase }, { on := 5, ground := Ground.phase }, { on := 6, ground := Ground.phase }, { on := 7, ground := Ground.phase }, { on := 8, ground := Ground.phase }], guard := none } : Oper)) rfl (fun K hK => ?_) AllReadyH.nil)
              go_simp
              clear ta0 ta1 qa0 qa1 tb0 tb1 qb0 qb1
              obtain ⟨u3, hu⟩ : ∃ u, u = (u2.setCell ⟨bA, 0, none⟩ (.bool sS)).setCell ⟨bA, 1, none⟩ (.slice aS kS cS) := ⟨_, rfl⟩
              have IN := Lib.hid (show IntAt u3 jA lA mA oA qA _ from by rw [hu]; exact BA.out.it.stored BA.out.row _ _)
              have ba := (show IBox u3 bA _ _ _ _ _ _ from by rw [hu]; exact IBox.put IS.out BA.out.row)
              replace BB := Lib.hid (show IBox u3 bB _ _ _ _ _ _ from by rw [hu]; exact BB.out.other BA.out.row hAB.symm _ _)
              replace BA := Lib.hid ba
              have xb : Below w1.heap.size w1 u3 := by rw [hu]; exact (XB.setCell (p := ⟨bA, 0, none⟩) hsA _).setCell (p := ⟨bA, 1, none⟩) hsA _
              rw [← hu]
              clear hu ba XB IS
              have XB := xb
              clear xb
              obtain ⟨ta0, ta1, qa0, qa1⟩ := blk2 BA.out.row
              obtain ⟨tb0, tb1, qb0, qb1⟩ := blk2 BB.out.row
              refine hK.out _ _ ?_ (fun hH6 => ?_)
              · exact HKP.out _ XB
              clear hK K hH5
              (try simp only [Act.put, List.setIfInBounds_toArray, List.set_cons_zero, List.set_cons_succ])
              refine wpAnyH_ready (rs := [10]) (by kernel_rfl) (by simp) ?_
              refine (AllReadyH.cons (o := ({ dst := none, op := Op.store 31 (Operand.tmp 5) (Operand.tmp 37), type := 0, pos := "continued.go:43", after := #[{ on := 8, ground := Ground.data }, { on := 9, ground := Ground.chain }, { on := 0, ground := Ground.phase }, { on := 1, ground := Ground.phase }, { on := 2, ground := Ground.phase }, { on := 3, ground := Ground.phase }, { on := 4, ground := Ground.phase }, { on := 5, ground := Ground.phase }, { on := 6, ground := Ground.phase }, { on := 7, ground := Ground.phase }, { on := 8, ground := Ground.phase }, { on := 9, ground := Ground.phase }], guard := none } : Oper)) rfl (fun K hK => ?_) AllReadyH.nil)
              go_simp
              clear ta0 ta1 qa0 qa1 tb0 tb1 qb0 qb1
              obtain ⟨u4, hu⟩ : ∃ u, u = (u3.setCell ⟨bB, 0, none⟩ (.bool jA)).setCell ⟨bB, 1, none⟩ (.slice lA mA oA) := ⟨_, rfl⟩
              have bb := (show IBox u4 bB _ _ _ _ _ _ from by rw [hu]; exact IBox.put IN.out BB.out.row)
              replace BA := Lib.hid (show IBox u4 bA _ _ _ _ _ _ from by rw [hu]; exact BA.out.other BB.out.row hAB _ _)
              replace BB := Lib.hid bb
              have xb : Below w1.heap.size w1 u4 := by rw [hu]; exact (XB.setCell (p := ⟨bB, 0, none⟩) hsB _).setCell (p := ⟨bB, 1, none⟩) hsB _
              rw [← hu]
              clear hu bb XB IN
              have XB := xb
              clear xb
              obtain ⟨ta0, ta1, qa0, qa1⟩ := blk2 BA.out.row
              obtain ⟨tb0, tb1, qb0, qb1⟩ := blk2 BB.out.row
              refine hK.out _ _ ?_ (fun hH7 => ?_)
              · exact HKP.out _ XB
              clear hK K hH6
              (try simp only [Act.put, List.setIfInBounds_toArray, List.set_cons_zero, List.set_cons_succ])
              refine wpAnyH_done (by kernel_rfl) ?_ _
              refine NoPanic.normal ?_
              clear ta0 ta1 qa0 qa1 tb0 tb1 qb0 qb1
              go_wp2_with fail
              go_roundw
              case rel => exact .inr (.inr ⟨by go_num, _, _, _, _, _, _, _, _, _, _, BA.out, BB.out, by omega, by omega, XB⟩)
              case measure => simp [intOf]
          · go_simp
            refine hK.out _ _ ?_ (fun hH2 => ?_)
            · exact HKP.out _ XB
            clear hK K hH1
            (try simp only [Act.put, List.setIfInBounds_toArray, List.set_cons_zero, List.set_cons_succ])
            refine wpAnyH_ready (rs := [5, 6]) (by kernel_rfl) (by simp) ?_
            refine (AllReadyH.cons (o := ({ dst := some 34, op := Op.call { callee := Callee.value (Operand.func 84), args := #[Operand.tmp 32, Operand.tmp 33], argTypes := #[31, 31] }, type := 31, pos := "continued.go:43", after := #[{ on := 3, ground := Ground.data }, { on := 4, ground := Ground.data }], guard := none } : Oper)) rfl (fun K hK => ?_) (AllReadyH.cons (o := ({ dst := some 35, op := Op.load 31 (Operand.tmp 5), type := 31, pos := "continued.go:43", after := #[], guard := none } : Oper)) rfl (fun K hK => ?_) AllReadyH.nil))
            · go_simp
              clear ta0 ta1 qa0 qa1 tb0 tb1 qb0 qb1
              refine (mul_int _ _ _ _ _ _ _ _ _ _ _ (x0) (x1 * x2 + 1) (H.out.i0.below XB) BA.out.it (by omega) (by omega)).mono ?_
              rintro e u1 ⟨sM, aM, kM, cM, zM, rfl, iM, gM, ub⟩
              replace BA := Lib.hid (BA.out.below ub)
              replace BB := Lib.hid (BB.out.below ub)
              have IM := Lib.hid iM
              replace XB := XB.trans (ub.mono XB.size)
              clear iM ub
              obtain ⟨ta0, ta1, qa0, qa1⟩ := blk2 BA.out.row
              obtain ⟨tb0, tb1, qb0, qb1⟩ := blk2 BB.out.row
              refine hK.out _ _ ?_ (fun hH3 => ?_)
              · exact HKP.out _ XB
              clear hK K hH2
              (try simp only [Act.put, List.setIfInBounds_toArray, List.set_cons_zero, List.set_cons_succ])
              refine wpAnyH_ready (rs := [6]) (by kernel_rfl) (by simp) ?_
              refine (AllReadyH.cons (o := ({ dst := some 35, op := Op.load 31 (Operand.tmp 5), type := 31, pos := "continued.go:43", after := #[], guard := none } : Oper)) rfl (fun K hK => ?_) AllReadyH.nil)
              go_simp
              refine hK.out _ _ ?_ (fun hH4 => ?_)
              · exact HKP.out _ XB
              clear hK K hH3
              (try simp only [Act.put, List.setIfInBounds_toArray, List.set_cons_zero, List.set_cons_succ])
              refine wpAnyH_ready (rs := [7]) (by kernel_rfl) (by simp) ?_
              refine (AllReadyH.cons (o := ({ dst := some 36, op := Op.call { callee := Callee.value (Operand.func 95), args := #[Operand.tmp 34, Operand.tmp 35], argTypes := #[31, 31] }, type := 31, pos := "continued.go:43", after := #[{ on := 5, ground := Ground.data }, { on := 6, ground := Ground.data }, { on := 5, ground := Ground.chain }], guard := none } : Oper)) rfl (fun K hK => ?_) AllReadyH.nil)
              go_simp
              clear ta0 ta1 qa0 qa1 tb0 tb1 qb0 qb1
              refine (add_int _ _ _ _ _ _ _ _ _ _ _ _ (x2) IM.out BB.out.it (by omega) (by omega)).mono ?_
              rintro e u2 ⟨sS, aS, kS, cS, zS, rfl, iS, gS, ub⟩
              replace BA := Lib.hid (BA.out.below ub)
              replace BB := Lib.hid (BB.out.below ub)
              have IS := Lib.hid iS
              replace XB := XB.trans (ub.mono XB.size)
              clear iS ub
              obtain ⟨ta0, ta1, qa0, qa1⟩ := blk2 BA.out.row
              obtain ⟨tb0, tb1, qb0, qb1⟩ := blk2 BB.out.row
              refine hK.out _ _ ?_ (fun hH5 => ?_)
              · exact HKP.out _ XB
              clear hK K hH4
              (try simp only [Act.put, List.setIfInBounds_toArray, List.set_cons_zero, List.set_cons_succ])
              refine wpAnyH_ready (rs := [9]) (by kernel_rfl) (by simp) ?_
              refine (AllReadyH.cons (o := ({ dst := none, op := Op.store 31 (Operand.tmp 4) (Operand.tmp 36), type := 0, pos := "continued.go:43", after := #[{ on := 7, ground := Ground.data }, { on := 7, ground := Ground.chain }, { on := 0, ground := Ground.phase }, { on := 1, ground := Ground.phase }, { on := 2, ground := Ground.phase }, { on := 3, ground := Ground.phase }, { on := 4, ground := Ground.phase }, { on := 5, ground := Ground.phase }, { on := 6, ground := Ground.phase }, { on := 7, ground := Ground.phase }, { on := 8, ground := Ground.phase }], guard := none } : Oper)) rfl (fun K hK => ?_) AllReadyH.nil)
              go_simp
              clear ta0 ta1 qa0 qa1 tb0 tb1 qb0 qb1
              obtain ⟨u3, hu⟩ : ∃ u, u = (u2.setCell ⟨bA, 0, none⟩ (.bool sS)).setCell ⟨bA, 1, none⟩ (.slice aS kS cS) := ⟨_, rfl⟩
              have IN := Lib.hid (show IntAt u3 jA lA mA oA qA _ from by rw [hu]; exact BA.out.it.stored BA.out.row _ _)
              have ba := (show IBox u3 bA _ _ _ _ _ _ from by rw [hu]; exact IBox.put IS.out BA.out.row)
              replace BB := Lib.hid (show IBox u3 bB _ _ _ _ _ _ from by rw [hu]; exact BB.out.other BA.out.row hAB.symm _ _)
              replace BA := Lib.hid ba
              have xb : Below w1.heap.size w1 u3 := by rw [hu]; exact (XB.setCell (p := ⟨bA, 0, none⟩) hsA _).setCell (p := ⟨bA, 1, none⟩) hsA _
              rw [← hu]
              clear hu ba XB IS
              have XB := xb
              clear xb
              obtain ⟨ta0, ta1, qa0, qa1⟩ := blk2 BA.out.row
              obtain ⟨tb0, tb1, qb0, qb1⟩ := blk2 BB.out.row
              refine hK.out _ _ ?_ (fun hH6 => ?_)
              · exact HKP.out _ XB
              clear hK K hH5
              (try simp only [Act.put, List.setIfInBounds_toArray, List.set_cons_zero, List.set_cons_succ])
              refine wpAnyH_ready (rs := [10]) (by kernel_rfl) (by simp) ?_
              refine (AllReadyH.cons (o := ({ dst := none, op := Op.store 31 (Operand.tmp 5) (Operand.tmp 37), type := 0, pos := "continued.go:43", after := #[{ on := 8, ground := Ground.data }, { on := 9, ground := Ground.chain }, { on := 0, ground := Ground.phase }, { on := 1, ground := Ground.phase }, { on := 2, ground := Ground.phase }, { on := 3, ground := Ground.phase }, { on := 4, ground := Ground.phase }, { on := 5, ground := Ground.phase }, { on := 6, ground := Ground.phase }, { on := 7, ground := Ground.phase }, { on := 8, ground := Ground.phase }, { on := 9, ground := Ground.phase }], guard := none } : Oper)) rfl (fun K hK => ?_) AllReadyH.nil)
              go_simp
              clear ta0 ta1 qa0 qa1 tb0 tb1 qb0 qb1
              obtain ⟨u4, hu⟩ : ∃ u, u = (u3.setCell ⟨bB, 0, none⟩ (.bool jA)).setCell ⟨bB, 1, none⟩ (.slice lA mA oA) := ⟨_, rfl⟩
              have bb := (show IBox u4 bB _ _ _ _ _ _ from by rw [hu]; exact IBox.put IN.out BB.out.row)
              replace BA := Lib.hid (show IBox u4 bA _ _ _ _ _ _ from by rw [hu]; exact BA.out.other BB.out.row hAB _ _)
              replace BB := Lib.hid bb
              have xb : Below w1.heap.size w1 u4 := by rw [hu]; exact (XB.setCell (p := ⟨bB, 0, none⟩) hsB _).setCell (p := ⟨bB, 1, none⟩) hsB _
              rw [← hu]
              clear hu bb XB IN
              have XB := xb
              clear xb
              obtain ⟨ta0, ta1, qa0, qa1⟩ := blk2 BA.out.row
              obtain ⟨tb0, tb1, qb0, qb1⟩ := blk2 BB.out.row
              refine hK.out _ _ ?_ (fun hH7 => ?_)
              · exact HKP.out _ XB
              clear hK K hH6
              (try simp only [Act.put, List.setIfInBounds_toArray, List.set_cons_zero, List.set_cons_succ])
              refine wpAnyH_done (by kernel_rfl) ?_ _
              refine NoPanic.normal ?_
              clear ta0 ta1 qa0 qa1 tb0 tb1 qb0 qb1
              go_wp2_with fail
              go_roundw
              case rel => exact .inr (.inr ⟨by go_num, _, _, _, _, _, _, _, _, _, _, BA.out, BB.out, by omega, by omega, XB⟩)
              case measure => simp [intOf]
            · go_simp
              refine hK.out _ _ ?_ (fun hH3 => ?_)
              · exact HKP.out _ XB
              clear hK K hH2
              (try simp only [Act.put, List.setIfInBounds_toArray, List.set_cons_zero, List.set_cons_succ])
              refine wpAnyH_ready (rs := [5]) (by kernel_rfl) (by simp) ?_
              refine (AllReadyH.cons (o := ({ dst := some 34, op := Op.call { callee := Callee.value (Operand.func 84), args := #[Operand.tmp 32, Operand.tmp 33], argTypes := #[31, 31] }, type := 31, pos := "continued.go:43", after := #[{ on := 3, ground := Ground.data }, { on := 4, ground := Ground.data }], guard := none } : Oper)) rfl (fun K hK => ?_) AllReadyH.nil)
              go_simp
              clear ta0 ta1 qa0 qa1 tb0 tb1 qb0 qb1
              refine (mul_int _ _ _ _ _ _ _ _ _ _ _ (x0) (x1 * x2 + 1) (H.out.i0.below XB) BA.out.it (by omega) (by omega)).mono ?_
              rintro e u1 ⟨sM, aM, kM, cM, zM, rfl, iM, gM, ub⟩
              replace BA := Lib.hid (BA.out.below ub)
              replace BB := Lib.hid (BB.out.below ub)
              have IM := Lib.hid iM
              replace XB := XB.trans (ub.mono XB.size)
              clear iM ub
              obtain ⟨ta0, ta1, qa0, qa1⟩ := blk2 BA.out.row
              obtain ⟨tb0, tb1, qb0, qb1⟩ := blk2 BB.out.row
              refine hK.out _ _ ?_ (fun hH4 => ?_)
              · exact HKP.out _ XB
              clear hK K hH3
              (try simp only [Act.put, List.setIfInBounds_toArray, List.set_cons_zero, List.set_cons_succ])
              refine wpAnyH_ready (rs := [7]) (by kernel_rfl) (by simp) ?_
              refine (AllReadyH.cons (o := ({ dst := some 36, op := Op.call { callee := Callee.value (Operand.func 95), args := #[Operand.tmp 34, Operand.tmp 35], argTypes := #[31, 31] }, type := 31, pos := "continued.go:43", after := #[{ on := 5, ground := Ground.data }, { on := 6, ground := Ground.data }, { on := 5, ground := Ground.chain }], guard := none } : Oper)) rfl (fun K hK => ?_) AllReadyH.nil)
              go_simp
              clear ta0 ta1 qa0 qa1 tb0 tb1 qb0 qb1
              refine (add_int _ _ _ _ _ _ _ _ _ _ _ _ (x2) IM.out BB.out.it (by omega) (by omega)).mono ?_
              rintro e u2 ⟨sS, aS, kS, cS, zS, rfl, iS, gS, ub⟩
              replace BA := Lib.hid (BA.out.below ub)
              replace BB := Lib.hid (BB.out.below ub)
              have IS := Lib.hid iS
              replace XB := XB.trans (ub.mono XB.size)
              clear iS ub
              obtain ⟨ta0, ta1, qa0, qa1⟩ := blk2 BA.out.row
              obtain ⟨tb0, tb1, qb0, qb1⟩ := blk2 BB.out.row
              refine hK.out _ _ ?_ (fun hH5 => ?_)
              · exact HKP.out _ XB
              clear hK K hH4
              (try simp only [Act.put, List.setIfInBounds_toArray, List.set_cons_zero, List.set_cons_succ])
              refine wpAnyH_ready (rs := [9]) (by kernel_rfl) (by simp) ?_
              refine (AllReadyH.cons (o := ({ dst := none, op := Op.store 31 (Operand.tmp 4) (Operand.tmp 36), type := 0, pos := "continued.go:43", after := #[{ on := 7, ground := Ground.data }, { on := 7, ground := Ground.chain }, { on := 0, ground := Ground.phase }, { on := 1, ground := Ground.phase }, { on := 2, ground := Ground.phase }, { on := 3, ground := Ground.phase }, { on := 4, ground := Ground.phase }, { on := 5, ground := Ground.phase }, { on := 6, ground := Ground.phase }, { on := 7, ground := Ground.phase }, { on := 8, ground := Ground.phase }], guard := none } : Oper)) rfl (fun K hK => ?_) AllReadyH.nil)
              go_simp
              clear ta0 ta1 qa0 qa1 tb0 tb1 qb0 qb1
              obtain ⟨u3, hu⟩ : ∃ u, u = (u2.setCell ⟨bA, 0, none⟩ (.bool sS)).setCell ⟨bA, 1, none⟩ (.slice aS kS cS) := ⟨_, rfl⟩
              have IN := Lib.hid (show IntAt u3 jA lA mA oA qA _ from by rw [hu]; exact BA.out.it.stored BA.out.row _ _)
              have ba := (show IBox u3 bA _ _ _ _ _ _ from by rw [hu]; exact IBox.put IS.out BA.out.row)
              replace BB := Lib.hid (show IBox u3 bB _ _ _ _ _ _ from by rw [hu]; exact BB.out.other BA.out.row hAB.symm _ _)
              replace BA := Lib.hid ba
              have xb : Below w1.heap.size w1 u3 := by rw [hu]; exact (XB.setCell (p := ⟨bA, 0, none⟩) hsA _).setCell (p := ⟨bA, 1, none⟩) hsA _
              rw [← hu]
              clear hu ba XB IS
              have XB := xb
              clear xb
              obtain ⟨ta0, ta1, qa0, qa1⟩ := blk2 BA.out.row
              obtain ⟨tb0, tb1, qb0, qb1⟩ := blk2 BB.out.row
              refine hK.out _ _ ?_ (fun hH6 => ?_)
              · exact HKP.out _ XB
              clear hK K hH5
              (try simp only [Act.put, List.setIfInBounds_toArray, List.set_cons_zero, List.set_cons_succ])
              refine wpAnyH_ready (rs := [10]) (by kernel_rfl) (by simp) ?_
              refine (AllReadyH.cons (o := ({ dst := none, op := Op.store 31 (Operand.tmp 5) (Operand.tmp 37), type := 0, pos := "continued.go:43", after := #[{ on := 8, ground := Ground.data }, { on := 9, ground := Ground.chain }, { on := 0, ground := Ground.phase }, { on := 1, ground := Ground.phase }, { on := 2, ground := Ground.phase }, { on := 3, ground := Ground.phase }, { on := 4, ground := Ground.phase }, { on := 5, ground := Ground.phase }, { on := 6, ground := Ground.phase }, { on := 7, ground := Ground.phase }, { on := 8, ground := Ground.phase }, { on := 9, ground := Ground.phase }], guard := none } : Oper)) rfl (fun K hK => ?_) AllReadyH.nil)
              go_simp
              clear ta0 ta1 qa0 qa1 tb0 tb1 qb0 qb1
              obtain ⟨u4, hu⟩ : ∃ u, u = (u3.setCell ⟨bB, 0, none⟩ (.bool jA)).setCell ⟨bB, 1, none⟩ (.slice lA mA oA) := ⟨_, rfl⟩
              have bb := (show IBox u4 bB _ _ _ _ _ _ from by rw [hu]; exact IBox.put IN.out BB.out.row)
              replace BA := Lib.hid (show IBox u4 bA _ _ _ _ _ _ from by rw [hu]; exact BA.out.other BB.out.row hAB _ _)
              replace BB := Lib.hid bb
              have xb : Below w1.heap.size w1 u4 := by rw [hu]; exact (XB.setCell (p := ⟨bB, 0, none⟩) hsB _).setCell (p := ⟨bB, 1, none⟩) hsB _
              rw [← hu]
              clear hu bb XB IN
              have XB := xb
              clear xb
              obtain ⟨ta0, ta1, qa0, qa1⟩ := blk2 BA.out.row
              obtain ⟨tb0, tb1, qb0, qb1⟩ := blk2 BB.out.row
              refine hK.out _ _ ?_ (fun hH7 => ?_)
              · exact HKP.out _ XB
              clear hK K hH6
              (try simp only [Act.put, List.setIfInBounds_toArray, List.set_cons_zero, List.set_cons_succ])
              refine wpAnyH_done (by kernel_rfl) ?_ _
              refine NoPanic.normal ?_
              clear ta0 ta1 qa0 qa1 tb0 tb1 qb0 qb1
              go_wp2_with fail
              go_roundw
              case rel => exact .inr (.inr ⟨by go_num, _, _, _, _, _, _, _, _, _, _, BA.out, BB.out, by omega, by omega, XB⟩)
              case measure => simp [intOf]
        · go_simp
          refine hK.out _ _ ?_ (fun hH1 => ?_)
          · exact HKP.out _ XB
          clear hK K hH0
          (try simp only [Act.put, List.setIfInBounds_toArray, List.set_cons_zero, List.set_cons_succ])
          refine wpAnyH_ready (rs := [4, 8]) (by kernel_rfl) (by simp) ?_
          refine (AllReadyH.cons (o := ({ dst := some 33, op := Op.load 31 (Operand.tmp 4), type := 31, pos := "continued.go:43", after := #[], guard := none } : Oper)) rfl (fun K hK => ?_) (AllReadyH.cons (o := ({ dst := some 37, op := Op.load 31 (Operand.tmp 4), type := 31, pos := "continued.go:43", after := #[], guard := none } : Oper)) rfl (fun K hK => ?_) AllReadyH.nil))
          · go_simp
            refine hK.out _ _ ?_ (fun hH2 => ?_)
            · exact HKP.out _ XB
            clear hK K hH1
            (try simp only [Act.put, List.setIfInBounds_toArray, List.set_cons_zero, List.set_cons_succ])
            refine wpAnyH_ready (rs := [5, 8]) (by kernel_rfl) (by simp) ?_
            refine (AllReadyH.cons (o := ({ dst := some 34, op := Op.call { callee := Callee.value (Operand.func 84), args := #[Operand.tmp 32, Operand.tmp 33], argTypes := #[31, 31] }, type := 31, pos := "continued.go:43", after := #[{ on := 3, ground := Ground.data }, { on := 4, ground := Ground.data }], guard := none } : Oper)) rfl (fun K hK => ?_) (AllReadyH.cons (o := ({ dst := some 37, op := Op.load 31 (Operand.tmp 4), type := 31, pos := "continued.go:43", after := #[], guard := none } : Oper)) rfl (fun K hK => ?_) AllReadyH.nil))
            · go_simp
              clear ta0 ta1 qa0 qa1 tb0 tb1 qb0 qb1
              refine (mul_int _ _ _ _ _ _ _ _ _ _ _ (x0) (x1 * x2 + 1) (H.out.i0.below XB) BA.out.it (by omega) (by omega)).mono ?_
              rintro e u1 ⟨sM, aM, kM, cM, zM, rfl, iM, gM, ub⟩
              replace BA := Lib.hid (BA.out.below ub)
              replace BB := Lib.hid (BB.out.below ub)
              have IM := Lib.hid iM
              replace XB := XB.trans (ub.mono XB.size)
              clear iM ub
              obtain ⟨ta0, ta1, qa0, qa1⟩ := blk2 BA.out.row
              obtain ⟨tb0, tb1, qb0, qb1⟩ := blk2 BB.out.row
              refine hK.out _ _ ?_ (fun hH3 => ?_)
              · exact HKP.out _ XB
              clear hK K hH2
              (try simp only [Act.put, List.setIfInBounds_toArray, List.set_cons_zero, List.set_cons_succ])
              refine wpAnyH_ready (rs := [7, 8]) (by kernel_rfl) (by simp) ?_
              refine (AllReadyH.cons (o := ({ dst := some 36, op := Op.call { callee := Callee.value (Operand.func 95), args := #[Operand.tmp 34, Operand.tmp 35], argTypes := #[31, 31] }, type := 31, pos := "continued.go:43", after := #[{ on := 5, ground := Ground.data }, { on := 6, ground := Ground.data }, { on := 5, ground := Ground.chain }], guard := none } : Oper)) rfl (fun K hK => ?_) (AllReadyH.cons (o := ({ dst := some 37, op := Op.load 31 (Operand.tmp 4), type := 31, pos := "continued.go:43", after := #[], guard := none } : Oper)) rfl (fun K hK => ?_) AllReadyH.nil))
              · go_simp
                clear ta0 ta1 qa0 qa1 tb0 tb1 qb0 qb1
                refine (add_int _ _ _ _ _ _ _ _ _ _ _ _ (x2) IM.out BB.out.it (by omega) (by omega)).mono ?_
                rintro e u2 ⟨sS, aS, kS, cS, zS, rfl, iS, gS, ub⟩
                replace BA := Lib.hid (BA.out.below ub)
                replace BB := Lib.hid (BB.out.below ub)
                have IS := Lib.hid iS
                replace XB := XB.trans (ub.mono XB.size)
                clear iS ub
                obtain ⟨ta0, ta1, qa0, qa1⟩ := blk2 BA.out.row
                obtain ⟨tb0, tb1, qb0, qb1⟩ := blk2 BB.out.row
                refine hK.out _ _ ?_ (fun hH4 => ?_)
                · exact HKP.out _ XB
                clear hK K hH3
                (try simp only [Act.put, List.setIfInBounds_toArray, List.set_cons_zero, List.set_cons_succ])
                refine wpAnyH_ready (rs := [8]) (by kernel_rfl) (by simp) ?_
                refine (AllReadyH.cons (o := ({ dst := some 37, op := Op.load 31 (Operand.tmp 4), type := 31, pos := "continued.go:43", after := #[], guard := none } : Oper)) rfl (fun K hK => ?_) AllReadyH.nil)
                go_simp
                refine hK.out _ _ ?_ (fun hH5 => ?_)
                · exact HKP.out _ XB
                clear hK K hH4
                (try simp only [Act.put, List.setIfInBounds_toArray, List.set_cons_zero, List.set_cons_succ])
                refine wpAnyH_ready (rs := [9]) (by kernel_rfl) (by simp) ?_
                refine (AllReadyH.cons (o := ({ dst := none, op := Op.store 31 (Operand.tmp 4) (Operand.tmp 36), type := 0, pos := "continued.go:43", after := #[{ on := 7, ground := Ground.data }, { on := 7, ground := Ground.chain }, { on := 0, ground := Ground.phase }, { on := 1, ground := Ground.phase }, { on := 2, ground := Ground.phase }, { on := 3, ground := Ground.phase }, { on := 4, ground := Ground.phase }, { on := 5, ground := Ground.phase }, { on := 6, ground := Ground.phase }, { on := 7, ground := Ground.phase }, { on := 8, ground := Ground.phase }], guard := none } : Oper)) rfl (fun K hK => ?_) AllReadyH.nil)
                go_simp
                clear ta0 ta1 qa0 qa1 tb0 tb1 qb0 qb1
                obtain ⟨u3, hu⟩ : ∃ u, u = (u2.setCell ⟨bA, 0, none⟩ (.bool sS)).setCell ⟨bA, 1, none⟩ (.slice aS kS cS) := ⟨_, rfl⟩
                have IN := Lib.hid (show IntAt u3 jA lA mA oA qA _ from by rw [hu]; exact BA.out.it.stored BA.out.row _ _)
                have ba := (show IBox u3 bA _ _ _ _ _ _ from by rw [hu]; exact IBox.put IS.out BA.out.row)
                replace BB := Lib.hid (show IBox u3 bB _ _ _ _ _ _ from by rw [hu]; exact BB.out.other BA.out.row hAB.symm _ _)
                replace BA := Lib.hid ba
                have xb : Below w1.heap.size w1 u3 := by rw [hu]; exact (XB.setCell (p := ⟨bA, 0, none⟩) hsA _).setCell (p := ⟨bA, 1, none⟩) hsA _
                rw [← hu]
                clear hu ba XB IS
                have XB := xb
                clear xb
                obtain ⟨ta0, ta1, qa0, qa1⟩ := blk2 BA.out.row
                obtain ⟨tb0, tb1, qb0, qb1⟩ := blk2 BB.out.row
                refine hK.out _ _ ?_ (fun hH6 => ?_)
                · exact HKP.out _ XB
                clear hK K hH5
                (try simp only [Act.put, List.setIfInBounds_toArray, List.set_cons_zero, List.set_cons_succ])
                refine wpAnyH_ready (rs := [10]) (by kernel_rfl) (by simp) ?_
                refine (AllReadyH.cons (o := ({ dst := none, op := Op.store 31 (Operand.tmp 5) (Operand.tmp 37), type := 0, pos := "continued.go:43", after := #[{ on := 8, ground := Ground.data }, { on := 9, ground := Ground.chain }, { on := 0, ground := Ground.phase }, { on := 1, ground := Ground.phase }, { on := 2, ground := Ground.phase }, { on := 3, ground := Ground.phase }, { on := 4, ground := Ground.phase }, { on := 5, ground := Ground.phase }, { on := 6, ground := Ground.phase }, { on := 7, ground := Ground.phase }, { on := 8, ground := Ground.phase }, { on := 9, ground := Ground.phase }], guard := none } : Oper)) rfl (fun K hK => ?_) AllReadyH.nil)
                go_simp
                clear ta0 ta1 qa0 qa1 tb0 tb1 qb0 qb1
                obtain ⟨u4, hu⟩ : ∃ u, u = (u3.setCell ⟨bB, 0, none⟩ (.bool jA)).setCell ⟨bB, 1, none⟩ (.slice lA mA oA) := ⟨_, rfl⟩
                have bb := (show IBox u4 bB _ _ _ _ _ _ from by rw [hu]; exact IBox.put IN.out BB.out.row)
                replace BA := Lib.hid (show IBox u4 bA _ _ _ _ _ _ from by rw [hu]; exact BA.out.other BB.out.row hAB _ _)
                replace BB := Lib.hid bb
                have xb : Below w1.heap.size w1 u4 := by rw [hu]; exact (XB.setCell (p := ⟨bB, 0, none⟩) hsB _).setCell (p := ⟨bB, 1, none⟩) hsB _
                rw [← hu]
                clear hu bb XB IN
                have XB := xb
                clear xb
                obtain ⟨ta0, ta1, qa0, qa1⟩ := blk2 BA.out.row
                obtain ⟨tb0, tb1, qb0, qb1⟩ := blk2 BB.out.row
                refine hK.out _ _ ?_ (fun hH7 => ?_)
                · exact HKP.out _ XB
                clear hK K hH6
                (try simp only [Act.put, List.setIfInBounds_toArray, List.set_cons_zero, List.set_cons_succ])
                refine wpAnyH_done (by kernel_rfl) ?_ _
                refine NoPanic.normal ?_
                clear ta0 ta1 qa0 qa1 tb0 tb1 qb0 qb1
                go_wp2_with fail
                go_roundw
                case rel => exact .inr (.inr ⟨by go_num, _, _, _, _, _, _, _, _, _, _, BA.out, BB.out, by omega, by omega, XB⟩)
                case measure => simp [intOf]
              · go_simp
                refine hK.out _ _ ?_ (fun hH4 => ?_)
                · exact HKP.out _ XB
                clear hK K hH3
                (try simp only [Act.put, List.setIfInBounds_toArray, List.set_cons_zero, List.set_cons_succ])
                refine wpAnyH_ready (rs := [7]) (by kernel_rfl) (by simp) ?_
                refine (AllReadyH.cons (o := ({ dst := some 36, op := Op.call { callee := Callee.value (Operand.func 95), args := #[Operand.tmp 34, Operand.tmp 35], argTypes := #[31, 31] }, type := 31, pos := "continued.go:43", after := #[{ on := 5, ground := Ground.data }, { on := 6, ground := Ground.data }, { on := 5, ground := Ground.chain }], guard := none } : Oper)) rfl (fun K hK => ?_) AllReadyH.nil)
                go_simp
                clear ta0 ta1 qa0 qa1 tb0 tb1 qb0 qb1
                refine (add_int _ _ _ _ _ _ _ _ _ _ _ _ (x2) IM.out BB.out.it (by omega) (by omega)).mono ?_
                rintro e u2 ⟨sS, aS, kS, cS, zS, rfl, iS, gS, ub⟩
                replace BA := Lib.hid (BA.out.below ub)
                replace BB := Lib.hid (BB.out.below ub)
                have IS := Lib.hid iS
                replace XB := XB.trans (ub.mono XB.size)
                clear iS ub
                obtain ⟨ta0, ta1, qa0, qa1⟩ := blk2 BA.out.row
                obtain ⟨tb0, tb1, qb0, qb1⟩ := blk2 BB.out.row
                refine hK.out _ _ ?_ (fun hH5 => ?_)
                · exact HKP.out _ XB
                clear hK K hH4
                (try simp only [Act.put, List.setIfInBounds_toArray, List.set_cons_zero, List.set_cons_succ])
                refine wpAnyH_ready (rs := [9]) (by kernel_rfl) (by simp) ?_
                refine (AllReadyH.cons (o := ({ dst := none, op := Op.store 31 (Operand.tmp 4) (Operand.tmp 36), type := 0, pos := "continued.go:43", after := #[{ on := 7, ground := Ground.data }, { on := 7, ground := Ground.chain }, { on := 0, ground := Ground.phase }, { on := 1, ground := Ground.phase }, { on := 2, ground := Ground.phase }, { on := 3, ground := Ground.phase }, { on := 4, ground := Ground.phase }, { on := 5, ground := Ground.phase }, { on := 6, ground := Ground.phase }, { on := 7, ground := Ground.phase }, { on := 8, ground := Ground.phase }], guard := none } : Oper)) rfl (fun K hK => ?_) AllReadyH.nil)
                go_simp
                clear ta0 ta1 qa0 qa1 tb0 tb1 qb0 qb1
                obtain ⟨u3, hu⟩ : ∃ u, u = (u2.setCell ⟨bA, 0, none⟩ (.bool sS)).setCell ⟨bA, 1, none⟩ (.slice aS kS cS) := ⟨_, rfl⟩
                have IN := Lib.hid (show IntAt u3 jA lA mA oA qA _ from by rw [hu]; exact BA.out.it.stored BA.out.row _ _)
                have ba := (show IBox u3 bA _ _ _ _ _ _ from by rw [hu]; exact IBox.put IS.out BA.out.row)
                replace BB := Lib.hid (show IBox u3 bB _ _ _ _ _ _ from by rw [hu]; exact BB.out.other BA.out.row hAB.symm _ _)
                replace BA := Lib.hid ba
                have xb : Below w1.heap.size w1 u3 := by rw [hu]; exact (XB.setCell (p := ⟨bA, 0, none⟩) hsA _).setCell (p := ⟨bA, 1, none⟩) hsA _
                rw [← hu]
                clear hu ba XB IS
                have XB := xb
                clear xb
                obtain ⟨ta0, ta1, qa0, qa1⟩ := blk2 BA.out.row
                obtain ⟨tb0, tb1, qb0, qb1⟩ := blk2 BB.out.row
                refine hK.out _ _ ?_ (fun hH6 => ?_)
                · exact HKP.out _ XB
                clear hK K hH5
                (try simp only [Act.put, List.setIfInBounds_toArray, List.set_cons_zero, List.set_cons_succ])
                refine wpAnyH_ready (rs := [10]) (by kernel_rfl) (by simp) ?_
                refine (AllReadyH.cons (o := ({ dst := none, op := Op.store 31 (Operand.tmp 5) (Operand.tmp 37), type := 0, pos := "continued.go:43", after := #[{ on := 8, ground := Ground.data }, { on := 9, ground := Ground.chain }, { on := 0, ground := Ground.phase }, { on := 1, ground := Ground.phase }, { on := 2, ground := Ground.phase }, { on := 3, ground := Ground.phase }, { on := 4, ground := Ground.phase }, { on := 5, ground := Ground.phase }, { on := 6, ground := Ground.phase }, { on := 7, ground := Ground.phase }, { on := 8, ground := Ground.phase }, { on := 9, ground := Ground.phase }], guard := none } : Oper)) rfl (fun K hK => ?_) AllReadyH.nil)
                go_simp
                clear ta0 ta1 qa0 qa1 tb0 tb1 qb0 qb1
                obtain ⟨u4, hu⟩ : ∃ u, u = (u3.setCell ⟨bB, 0, none⟩ (.bool jA)).setCell ⟨bB, 1, none⟩ (.slice lA mA oA) := ⟨_, rfl⟩
                have bb := (show IBox u4 bB _ _ _ _ _ _ from by rw [hu]; exact IBox.put IN.out BB.out.row)
                replace BA := Lib.hid (show IBox u4 bA _ _ _ _ _ _ from by rw [hu]; exact BA.out.other BB.out.row hAB _ _)
                replace BB := Lib.hid bb
                have xb : Below w1.heap.size w1 u4 := by rw [hu]; exact (XB.setCell (p := ⟨bB, 0, none⟩) hsB _).setCell (p := ⟨bB, 1, none⟩) hsB _
                rw [← hu]
                clear hu bb XB IN
                have XB := xb
                clear xb
                obtain ⟨ta0, ta1, qa0, qa1⟩ := blk2 BA.out.row
                obtain ⟨tb0, tb1, qb0, qb1⟩ := blk2 BB.out.row
                refine hK.out _ _ ?_ (fun hH7 => ?_)
                · exact HKP.out _ XB
                clear hK K hH6
                (try simp only [Act.put, List.setIfInBounds_toArray, List.set_cons_zero, List.set_cons_succ])
                refine wpAnyH_done (by kernel_rfl) ?_ _
                refine NoPanic.normal ?_
                clear ta0 ta1 qa0 qa1 tb0 tb1 qb0 qb1
                go_wp2_with fail
                go_roundw
                case rel => exact .inr (.inr ⟨by go_num, _, _, _, _, _, _, _, _, _, _, BA.out, BB.out, by omega, by omega, XB⟩)
                case measure => simp [intOf]
            · go_simp
              refine hK.out _ _ ?_ (fun hH3 => ?_)
              · exact HKP.out _ XB
              clear hK K hH2
              (try simp only [Act.put, List.setIfInBounds_toArray, List.set_cons_zero, List.set_cons_succ])
              refine wpAnyH_ready (rs := [5]) (by kernel_rfl) (by simp) ?_
              refine (AllReadyH.cons (o := ({ dst := some 34, op := Op.call { callee := Callee.value (Operand.func 84), args := #[Operand.tmp 32, Operand.tmp 33], argTypes := #[31, 31] }, type := 31, pos := "continued.go:43", after := #[{ on := 3, ground := Ground.data }, { on := 4, ground := Ground.data }], guard := none } : Oper)) rfl (fun K hK => ?_) AllReadyH.nil)
              go_simp
              clear ta0 ta1 qa0 qa1 tb0 tb1 qb0 qb1
              refine (mul_int _ _ _ _ _ _ _ _ _ _ _ (x0) (x1 * x2 + 1) (H.out.i0.below XB) BA.out.it (by omega) (by omega)).mono ?_
              rintro e u1 ⟨sM, aM, kM, cM, zM, rfl, iM, gM, ub⟩
              replace BA := Lib.hid (BA.out.below ub)
              replace BB := Lib.hid (BB.out.below ub)
              have IM := Lib.hid iM
              replace XB := XB.trans (ub.mono XB.size)
              clear iM ub
              obtain ⟨ta0, ta1, qa0, qa1⟩ := blk2 BA.out.row
              obtain ⟨tb0, tb1, qb0, qb1⟩ := blk2 BB.out.row
              refine hK.out _ _ ?_ (fun hH4 => ?_)
              · exact HKP.out _ XB
              clear hK K hH3
              (try simp only [Act.put, List.setIfInBounds_toArray, List.set_cons_zero, List.set_cons_succ])
              refine wpAnyH_ready (rs := [7]) (by kernel_rfl) (by simp) ?_
              refine (AllReadyH.cons (o := ({ dst := some 36, op := Op.call { callee := Callee.value (Operand.func 95), args := #[Operand.tmp 34, Operand.tmp 35], argTypes := #[31, 31] }, type := 31, pos := "continued.go:43", after := #[{ on := 5, ground := Ground.data }, { on := 6, ground := Ground.data }, { on := 5, ground := Ground.chain }], guard := none } : Oper)) rfl (fun K hK => ?_) AllReadyH.nil)
              go_simp
              clear ta0 ta1 qa0 qa1 tb0 tb1 qb0 qb1
              refine (add_int _ _ _ _ _ _ _ _ _ _ _ _ (x2) IM.out BB.out.it (by omega) (by omega)).mono ?_
              rintro e u2 ⟨sS, aS, kS, cS, zS, rfl, iS, gS, ub⟩
              replace BA := Lib.hid (BA.out.below ub)
              replace BB := Lib.hid (BB.out.below ub)
              have IS := Lib.hid iS
              replace XB := XB.trans (ub.mono XB.size)
              clear iS ub
              obtain ⟨ta0, ta1, qa0, qa1⟩ := blk2 BA.out.row
              obtain ⟨tb0, tb1, qb0, qb1⟩ := blk2 BB.out.row
              refine hK.out _ _ ?_ (fun hH5 => ?_)
              · exact HKP.out _ XB
              clear hK K hH4
              (try simp only [Act.put, List.setIfInBounds_toArray, List.set_cons_zero, List.set_cons_succ])
              refine wpAnyH_ready (rs := [9]) (by kernel_rfl) (by simp) ?_
              refine (AllReadyH.cons (o := ({ dst := none, op := Op.store 31 (Operand.tmp 4) (Operand.tmp 36), type := 0, pos := "continued.go:43", after := #[{ on := 7, ground := Ground.data }, { on := 7, ground := Ground.chain }, { on := 0, ground := Ground.phase }, { on := 1, ground := Ground.phase }, { on := 2, ground := Ground.phase }, { on := 3, ground := Ground.phase }, { on := 4, ground := Ground.phase }, { on := 5, ground := Ground.phase }, { on := 6, ground := Ground.phase }, { on := 7, ground := Ground.phase }, { on := 8, ground := Ground.phase }], guard := none } : Oper)) rfl (fun K hK => ?_) AllReadyH.nil)
              go_simp
              clear ta0 ta1 qa0 qa1 tb0 tb1 qb0 qb1
              obtain ⟨u3, hu⟩ : ∃ u, u = (u2.setCell ⟨bA, 0, none⟩ (.bool sS)).setCell ⟨bA, 1, none⟩ (.slice aS kS cS) := ⟨_, rfl⟩
              have IN := Lib.hid (show IntAt u3 jA lA mA oA qA _ from by rw [hu]; exact BA.out.it.stored BA.out.row _ _)
              have ba := (show IBox u3 bA _ _ _ _ _ _ from by rw [hu]; exact IBox.put IS.out BA.out.row)
              replace BB := Lib.hid (show IBox u3 bB _ _ _ _ _ _ from by rw [hu]; exact BB.out.other BA.out.row hAB.symm _ _)
              replace BA := Lib.hid ba
              have xb : Below w1.heap.size w1 u3 := by rw [hu]; exact (XB.setCell (p := ⟨bA, 0, none⟩) hsA _).setCell (p := ⟨bA, 1, none⟩) hsA _
              rw [← hu]
              clear hu ba XB IS
              have XB := xb
              clear xb
              obtain ⟨ta0, ta1, qa0, qa1⟩ := blk2 BA.out.row
              obtain ⟨tb0, tb1, qb0, qb1⟩ := blk2 BB.out.row
              refine hK.out _ _ ?_ (fun hH6 => ?_)
              · exact HKP.out _ XB
              clear hK K hH5
              (try simp only [Act.put, List.setIfInBounds_toArray, List.set_cons_zero, List.set_cons_succ])
              refine wpAnyH_ready (rs := [10]) (by kernel_rfl) (by simp) ?_
              refine (AllReadyH.cons (o := ({ dst := none, op := Op.store 31 (Operand.tmp 5) (Operand.tmp 37), type := 0, pos := "continued.go:43", after := #[{ on := 8, ground := Ground.data }, { on := 9, ground := Ground.chain }, { on := 0, ground := Ground.phase }, { on := 1, ground := Ground.phase }, { on := 2, ground := Ground.phase }, { on := 3, ground := Ground.phase }, { on := 4, ground := Ground.phase }, { on := 5, ground := Ground.phase }, { on := 6, ground := Ground.phase }, { on := 7, ground := Ground.phase }, { on := 8, ground := Ground.phase }, { on := 9, ground := Ground.phase }], guard := none } : Oper)) rfl (fun K hK => ?_) AllReadyH.nil)
              go_simp
              clear ta0 ta1 qa0 qa1 tb0 tb1 qb0 qb1
              obtain ⟨u4, hu⟩ : ∃ u, u = (u3.setCell ⟨bB, 0, none⟩ (.bool jA)).setCell ⟨bB, 1, none⟩ (.slice lA mA oA) := ⟨_, rfl⟩
              have bb := (show IBox u4 bB _ _ _ _ _ _ from by rw [hu]; exact IBox.put IN.out BB.out.row)
              replace BA := Lib.hid (show IBox u4 bA _ _ _ _ _ _ from by rw [hu]; exact BA.out.other BB.out.row hAB _ _)
              replace BB := Lib.hid bb
              have xb : Below w1.heap.size w1 u4 := by rw [hu]; exact (XB.setCell (p := ⟨bB, 0, none⟩) hsB _).setCell (p := ⟨bB, 1, none⟩) hsB _
              rw [← hu]
              clear hu bb XB IN
              have XB := xb
              clear xb
              obtain ⟨ta0, ta1, qa0, qa1⟩ := blk2 BA.out.row
              obtain ⟨tb0, tb1, qb0, qb1⟩ := blk2 BB.out.row
              refine hK.out _ _ ?_ (fun hH7 => ?_)
              · exact HKP.out _ XB
              clear hK K hH6
              (try simp only [Act.put, List.setIfInBounds_toArray, List.set_cons_zero, List.set_cons_succ])
              refine wpAnyH_done (by kernel_rfl) ?_ _
              refine NoPanic.normal ?_
              clear ta0 ta1 qa0 qa1 tb0 tb1 qb0 qb1
              go_wp2_with fail
              go_roundw
              case rel => exact .inr (.inr ⟨by go_num, _, _, _, _, _, _, _, _, _, _, BA.out, BB.out, by omega, by omega, XB⟩)
              case measure => simp [intOf]
          · go_simp
            refine hK.out _ _ ?_ (fun hH2 => ?_)
            · exact HKP.out _ XB
            clear hK K hH1
            (try simp only [Act.put, List.setIfInBounds_toArray, List.set_cons_zero, List.set_cons_succ])
            refine wpAnyH_ready (rs := [4]) (by kernel_rfl) (by simp) ?_
            refine (AllReadyH.cons (o := ({ dst := some 33, op := Op.load 31 (Operand.tmp 4), type := 31, pos := "continued.go:43", after := #[], guard := none } : Oper)) rfl (fun K hK => ?_) AllReadyH.nil)
            go_simp
            refine hK.out _ _ ?_ (fun hH3 => ?_)
            · exact HKP.out _ XB
            clear hK K hH2
            (try simp only [Act.put, List.setIfInBounds_toArray, List.set_cons_zero, List.set_cons_succ])
            refine wpAnyH_ready (rs := [5]) (by kernel_rfl) (by simp) ?_
            refine (AllReadyH.cons (o := ({ dst := some 34, op := Op.call { callee := Callee.value (Operand.func 84), args := #[Operand.tmp 32, Operand.tmp 33], argTypes := #[31, 31] }, type := 31, pos := "continued.go:43", after := #[{ on := 3, ground := Ground.data }, { on := 4, ground := Ground.data }], guard := none } : Oper)) rfl (fun K hK => ?_) AllReadyH.nil)
            go_simp
            clear ta0 ta1 qa0 qa1 tb0 tb1 qb0 qb1
            refine (mul_int _ _ _ _ _ _ _ _ _ _ _ (x0) (x1 * x2 + 1) (H.out.i0.below XB) BA.out.it (by omega) (by omega)).mono ?_
            rintro e u1 ⟨sM, aM, kM, cM, zM, rfl, iM, gM, ub⟩
            replace BA := Lib.hid (BA.out.below ub)
            replace BB := Lib.hid (BB.out.below ub)
            have IM := Lib.hid iM
            replace XB := XB.trans (ub.mono XB.size)
            clear iM ub
            obtain ⟨ta0, ta1, qa0, qa1⟩ := blk2 BA.out.row
            obtain ⟨tb0, tb1, qb0, qb1⟩ := blk2 BB.out.row
            refine hK.out _ _ ?_ (fun hH4 => ?_)
            · exact HKP.out _ XB
            clear hK K hH3
            (try simp only [Act.put, List.setIfInBounds_toArray, List.set_cons_zero, List.set_cons_succ])
            refine wpAnyH_ready (rs := [7]) (by kernel_rfl) (by simp) ?_
            refine (AllReadyH.cons (o := ({ dst := some 36, op := Op.call { callee := Callee.value (Operand.func 95), args := #[Operand.tmp 34, Operand.tmp 35], argTypes := #[31, 31] }, type := 31, pos := "continued.go:43", after := #[{ on := 5, ground := Ground.data }, { on := 6, ground := Ground.data }, { on := 5, ground := Ground.chain }], guard := none } : Oper)) rfl (fun K hK => ?_) AllReadyH.nil)
            go_simp
            clear ta0 ta1 qa0 qa1 tb0 tb1 qb0 qb1
            refine (add_int _ _ _ _ _ _ _ _ _ _ _ _ (x2) IM.out BB.out.it (by omega) (by omega)).mono ?_
            rintro e u2 ⟨sS, aS, kS, cS, zS, rfl, iS, gS, ub⟩
            replace BA := Lib.hid (BA.out.below ub)
            replace BB := Lib.hid (BB.out.below ub)
            have IS := Lib.hid iS
            replace XB := XB.trans (ub.mono XB.size)
            clear iS ub
            obtain ⟨ta0, ta1, qa0, qa1⟩ := blk2 BA.out.row
            obtain ⟨tb0, tb1, qb0, qb1⟩ := blk2 BB.out.row
            refine hK.out _ _ ?_ (fun hH5 => ?_)
            · exact HKP.out _ XB
            clear hK K hH4
            (try simp only [Act.put, List.setIfInBounds_toArray, List.set_cons_zero, List.set_cons_succ])
            refine wpAnyH_ready (rs := [9]) (by kernel_rfl) (by simp) ?_
            refine (AllReadyH.cons (o := ({ dst := none, op := Op.store 31 (Operand.tmp 4) (Operand.tmp 36), type := 0, pos := "continued.go:43", after := #[{ on := 7, ground := Ground.data }, { on := 7, ground := Ground.chain }, { on := 0, ground := Ground.phase }, { on := 1, ground := Ground.phase }, { on := 2, ground := Ground.phase }, { on := 3, ground := Ground.phase }, { on := 4, ground := Ground.phase }, { on := 5, ground := Ground.phase }, { on := 6, ground := Ground.phase }, { on := 7, ground := Ground.phase }, { on := 8, ground := Ground.phase }], guard := none } : Oper)) rfl (fun K hK => ?_) AllReadyH.nil)
            go_simp
            clear ta0 ta1 qa0 qa1 tb0 tb1 qb0 qb1
            obtain ⟨u3, hu⟩ : ∃ u, u = (u2.setCell ⟨bA, 0, none⟩ (.bool sS)).setCell ⟨bA, 1, none⟩ (.slice aS kS cS) := ⟨_, rfl⟩
            have IN := Lib.hid (show IntAt u3 jA lA mA oA qA _ from by rw [hu]; exact BA.out.it.stored BA.out.row _ _)
            have ba := (show IBox u3 bA _ _ _ _ _ _ from by rw [hu]; exact IBox.put IS.out BA.out.row)
            replace BB := Lib.hid (show IBox u3 bB _ _ _ _ _ _ from by rw [hu]; exact BB.out.other BA.out.row hAB.symm _ _)
            replace BA := Lib.hid ba
            have xb : Below w1.heap.size w1 u3 := by rw [hu]; exact (XB.setCell (p := ⟨bA, 0, none⟩) hsA _).setCell (p := ⟨bA, 1, none⟩) hsA _
            rw [← hu]
            clear hu ba XB IS
            have XB := xb
            clear xb
            obtain ⟨ta0, ta1, qa0, qa1⟩ := blk2 BA.out.row
            obtain ⟨tb0, tb1, qb0, qb1⟩ := blk2 BB.out.row
            refine hK.out _ _ ?_ (fun hH6 => ?_)
            · exact HKP.out _ XB
            clear hK K hH5
            (try simp only [Act.put, List.setIfInBounds_toArray, List.set_cons_zero, List.set_cons_succ])
            refine wpAnyH_ready (rs := [10]) (by kernel_rfl) (by simp) ?_
            refine (AllReadyH.cons (o := ({ dst := none, op := Op.store 31 (Operand.tmp 5) (Operand.tmp 37), type := 0, pos := "continued.go:43", after := #[{ on := 8, ground := Ground.data }, { on := 9, ground := Ground.chain }, { on := 0, ground := Ground.phase }, { on := 1, ground := Ground.phase }, { on := 2, ground := Ground.phase }, { on := 3, ground := Ground.phase }, { on := 4, ground := Ground.phase }, { on := 5, ground := Ground.phase }, { on := 6, ground := Ground.phase }, { on := 7, ground := Ground.phase }, { on := 8, ground := Ground.phase }, { on := 9, ground := Ground.phase }], guard := none } : Oper)) rfl (fun K hK => ?_) AllReadyH.nil)
            go_simp
            clear ta0 ta1 qa0 qa1 tb0 tb1 qb0 qb1
            obtain ⟨u4, hu⟩ : ∃ u, u = (u3.setCell ⟨bB, 0, none⟩ (.bool jA)).setCell ⟨bB, 1, none⟩ (.slice lA mA oA) := ⟨_, rfl⟩
            have bb := (show IBox u4 bB _ _ _ _ _ _ from by rw [hu]; exact IBox.put IN.out BB.out.row)
            replace BA := Lib.hid (show IBox u4 bA _ _ _ _ _ _ from by rw [hu]; exact BA.out.other BB.out.row hAB _ _)
            replace BB := Lib.hid bb
            have xb : Below w1.heap.size w1 u4 := by rw [hu]; exact (XB.setCell (p := ⟨bB, 0, none⟩) hsB _).setCell (p := ⟨bB, 1, none⟩) hsB _
            rw [← hu]
            clear hu bb XB IN
            have XB := xb
            clear xb
            obtain ⟨ta0, ta1, qa0, qa1⟩ := blk2 BA.out.row
            obtain ⟨tb0, tb1, qb0, qb1⟩ := blk2 BB.out.row
            refine hK.out _ _ ?_ (fun hH7 => ?_)
            · exact HKP.out _ XB
            clear hK K hH6
            (try simp only [Act.put, List.setIfInBounds_toArray, List.set_cons_zero, List.set_cons_succ])
            refine wpAnyH_done (by kernel_rfl) ?_ _
            refine NoPanic.normal ?_
            clear ta0 ta1 qa0 qa1 tb0 tb1 qb0 qb1
            go_wp2_with fail
            go_roundw
            case rel => exact .inr (.inr ⟨by go_num, _, _, _, _, _, _, _, _, _, _, BA.out, BB.out, by omega, by omega, XB⟩)
            case measure => simp [intOf]
        · go_simp
          refine hK.out _ _ ?_ (fun hH1 => ?_)
          · exact HKP.out _ XB
          clear hK K hH0
          (try simp only [Act.put, List.setIfInBounds_toArray, List.set_cons_zero, List.set_cons_succ])
          refine wpAnyH_ready (rs := [4, 6]) (by kernel_rfl) (by simp) ?_
          refine (AllReadyH.cons (o := ({ dst := some 33, op := Op.load 31 (Operand.tmp 4), type := 31, pos := "continued.go:43", after := #[], guard := none } : Oper)) rfl (fun K hK => ?_) (AllReadyH.cons (o := ({ dst := some 35, op := Op.load 31 (Operand.tmp 5), type := 31, pos := "continued.go:43", after := #[], guard := none } : Oper)) rfl (fun K hK => ?_) AllReadyH.nil))
          · go_simp
            refine hK.out _ _ ?_ (fun hH2 => ?_)
            · exact HKP.out _ XB
            clear hK K hH1
            (try simp only [Act.put, List.setIfInBounds_toArray, List.set_cons_zero, List.set_cons_succ])
            refine wpAnyH_ready (rs := [5, 6]) (by kernel_rfl) (by simp) ?_
            refine (AllReadyH.cons (o := ({ dst := some 34, op := Op.call { callee := Callee.value (Operand.func 84), args := #[Operand.tmp 32, Operand.tmp 33], argTypes := #[31, 31] }, type := 31, pos := "continued.go:43", after := #[{ on := 3, ground := Ground.data }, { on := 4, ground := Ground.data }], guard := none } : Oper)) rfl (fun K hK => ?_) (AllReadyH.cons (o := ({ dst := some 35, op := Op.load 31 (Operand.tmp 5), type := 31, pos := "continued.go:43", after := #[], guard := none } : Oper)) rfl (fun K hK => ?_) AllReadyH.nil))
            · go_simp
              clear ta0 ta1 qa0 qa1 tb0 tb1 qb0 qb1
              refine (mul_int _ _ _ _ _ _ _ _ _ _ _ (x0) (x1 * x2 + 1) (H.out.i0.below XB) BA.out.it (by omega) (by omega)).mono ?_
              rintro e u1 ⟨sM, aM, kM, cM, zM, rfl, iM, gM, ub⟩
              replace BA := Lib.hid (BA.out.below ub)
              replace BB := Lib.hid (BB.out.below ub)
              have IM := Lib.hid iM
              replace XB := XB.trans (ub.mono XB.size)
              clear iM ub
              obtain ⟨ta0, ta1, qa0, qa1⟩ := blk2 BA.out.row
              obtain ⟨tb0, tb1, qb0, qb1⟩ := blk2 BB.out.row
              refine hK.out _ _ ?_ (fun hH3 => ?_)
              · exact HKP.out _ XB
              clear hK K hH2
              (try simp only [Act.put, List.setIfInBounds_toArray, List.set_cons_zero, List.set_cons_succ])
              refine wpAnyH_ready (rs := [6]) (by kernel_rfl) (by simp) ?_
              refine (AllReadyH.cons (o := ({ dst := some 35, op := Op.load 31 (Operand.tmp 5), type := 31, pos := "continued.go:43", after := #[], guard := none } : Oper)) rfl (fun K hK => ?_) AllReadyH.nil)
              go_simp
              refine hK.out _ _ ?_ (fun hH4 => ?_)
              · exact HKP.out _ XB
              clear hK K hH3
              (try simp only [Act.put, List.setIfInBounds_toArray, List.set_cons_zero, List.set_cons_succ])
              refine wpAnyH_ready (rs := [7]) (by kernel_rfl) (by simp) ?_
              refine (AllReadyH.cons (o := ({ dst := some 36, op := Op.call { callee := Callee.value (Operand.func 95), args := #[Operand.tmp 34, Operand.tmp 35], argTypes := #[31, 31] }, type := 31, pos := "continued.go:43", after := #[{ on := 5, ground := Ground.data }, { on := 6, ground := Ground.data }, { on := 5, ground := Ground.chain }], guard := none } : Oper)) rfl (fun K hK => ?_) AllReadyH.nil)
              go_simp
              clear ta0 ta1 qa0 qa1 tb0 tb1 qb0 qb1
              refine (add_int _ _ _ _ _ _ _ _ _ _ _ _ (x2) IM.out BB.out.it (by omega) (by omega)).mono ?_
              rintro e u2 ⟨sS, aS, kS, cS, zS, rfl, iS, gS, ub⟩
              replace BA := Lib.hid (BA.out.below ub)
              replace BB := Lib.hid (BB.out.below ub)
              have IS := Lib.hid iS
              replace XB := XB.trans (ub.mono XB.size)
              clear iS ub
              obtain ⟨ta0, ta1, qa0, qa1⟩ := blk2 BA.out.row
              obtain ⟨tb0, tb1, qb0, qb1⟩ := blk2 BB.out.row
              refine hK.out _ _ ?_ (fun hH5 => ?_)
              · exact HKP.out _ XB
              clear hK K hH4
              (try simp only [Act.put, List.setIfInBounds_toArray, List.set_cons_zero, List.set_cons_succ])
              refine wpAnyH_ready (rs := [9]) (by kernel_rfl) (by simp) ?_
              refine (AllReadyH.cons (o := ({ dst := none, op := Op.store 31 (Operand.tmp 4) (Operand.tmp 36), type := 0, pos := "continued.go:43", after := #[{ on := 7, ground := Ground.data }, { on := 7, ground := Ground.chain }, { on := 0, ground := Ground.phase }, { on := 1, ground := Ground.phase }, { on := 2, ground := Ground.phase }, { on := 3, ground := Ground.phase }, { on := 4, ground := Ground.phase }, { on := 5, ground := Ground.phase }, { on := 6, ground := Ground.phase }, { on := 7, ground := Ground.phase }, { on := 8, ground := Ground.phase }], guard := none } : Oper)) rfl (fun K hK => ?_) AllReadyH.nil)
              go_simp
              clear ta0 ta1 qa0 qa1 tb0 tb1 qb0 qb1
              obtain ⟨u3, hu⟩ : ∃ u, u = (u2.setCell ⟨bA, 0, none⟩ (.bool sS)).setCell ⟨bA, 1, none⟩ (.slice aS kS cS) := ⟨_, rfl⟩
              have IN := Lib.hid (show IntAt u3 jA lA mA oA qA _ from by rw [hu]; exact BA.out.it.stored BA.out.row _ _)
              have ba := (show IBox u3 bA _ _ _ _ _ _ from by rw [hu]; exact IBox.put IS.out BA.out.row)
              replace BB := Lib.hid (show IBox u3 bB _ _ _ _ _ _ from by rw [hu]; exact BB.out.other BA.out.row hAB.symm _ _)
              replace BA := Lib.hid ba
              have xb : Below w1.heap.size w1 u3 := by rw [hu]; exact (XB.setCell (p := ⟨bA, 0, none⟩) hsA _).setCell (p := ⟨bA, 1, none⟩) hsA _
              rw [← hu]
              clear hu ba XB IS
              have XB := xb
              clear xb
              obtain ⟨ta0, ta1, qa0, qa1⟩ := blk2 BA.out.row
              obtain ⟨tb0, tb1, qb0, qb1⟩ := blk2 BB.out.row
              refine hK.out _ _ ?_ (fun hH6 => ?_)
              · exact HKP.out _ XB
              clear hK K hH5
              (try simp only [Act.put, List.setIfInBounds_toArray, List.set_cons_zero, List.set_cons_succ])
              refine wpAnyH_ready (rs := [10]) (by kernel_rfl) (by simp) ?_
              refine (AllReadyH.cons (o := ({ dst := none, op := Op.store 31 (Operand.tmp 5) (Operand.tmp 37), type := 0, pos := "continued.go:43", after := #[{ on := 8, ground := Ground.data }, { on := 9, ground := Ground.chain }, { on := 0, ground := Ground.phase }, { on := 1, ground := Ground.phase }, { on := 2, ground := Ground.phase }, { on := 3, ground := Ground.phase }, { on := 4, ground := Ground.phase }, { on := 5, ground := Ground.phase }, { on := 6, ground := Ground.phase }, { on := 7, ground := Ground.phase }, { on := 8, ground := Ground.phase }, { on := 9, ground := Ground.phase }], guard := none } : Oper)) rfl (fun K hK => ?_) AllReadyH.nil)
              go_simp
              clear ta0 ta1 qa0 qa1 tb0 tb1 qb0 qb1
              obtain ⟨u4, hu⟩ : ∃ u, u = (u3.setCell ⟨bB, 0, none⟩ (.bool jA)).setCell ⟨bB, 1, none⟩ (.slice lA mA oA) := ⟨_, rfl⟩
              have bb := (show IBox u4 bB _ _ _ _ _ _ from by rw [hu]; exact IBox.put IN.out BB.out.row)
              replace BA := Lib.hid (show IBox u4 bA _ _ _ _ _ _ from by rw [hu]; exact BA.out.other BB.out.row hAB _ _)
              replace BB := Lib.hid bb
              have xb : Below w1.heap.size w1 u4 := by rw [hu]; exact (XB.setCell (p := ⟨bB, 0, none⟩) hsB _).setCell (p := ⟨bB, 1, none⟩) hsB _
              rw [← hu]
              clear hu bb XB IN
              have XB := xb
              clear xb
              obtain ⟨ta0, ta1, qa0, qa1⟩ := blk2 BA.out.row
              obtain ⟨tb0, tb1, qb0, qb1⟩ := blk2 BB.out.row
              refine hK.out _ _ ?_ (fun hH7 => ?_)
              · exact HKP.out _ XB
              clear hK K hH6
              (try simp only [Act.put, List.setIfInBounds_toArray, List.set_cons_zero, List.set_cons_succ])
              refine wpAnyH_done (by kernel_rfl) ?_ _
              refine NoPanic.normal ?_
              clear ta0 ta1 qa0 qa1 tb0 tb1 qb0 qb1
              go_wp2_with fail
              go_roundw
              case rel => exact .inr (.inr ⟨by go_num, _, _, _, _, _, _, _, _, _, _, BA.out, BB.out, by omega, by omega, XB⟩)
              case measure => simp [intOf]
            · go_simp
              refine hK.out _ _ ?_ (fun hH3 => ?_)
              · exact HKP.out _ XB
              clear hK K hH2
              (try simp only [Act.put, List.setIfInBounds_toArray, List.set_cons_zero, List.set_cons_succ])
              refine wpAnyH_ready (rs := [5]) (by kernel_rfl) (by simp) ?_
              refine (AllReadyH.cons (o := ({ dst := some 34, op := Op.call { callee := Callee.value (Operand.func 84), args := #[Operand.tmp 32, Operand.tmp 33], argTypes := #[31, 31] }, type := 31, pos := "continued.go:43", after := #[{ on := 3, ground := Ground.data }, { on := 4, ground := Ground.data }], guard := none } : Oper)) rfl (fun K hK => ?_) AllReadyH.nil)
              go_simp
              clear ta0 ta1 qa0 qa1 tb0 tb1 qb0 qb1
              refine (mul_int _ _ _ _ _ _ _ _ _ _ _ (x0) (x1 * x2 + 1) (H.out.i0.below XB) BA.out.it (by omega) (by omega)).mono ?_
              rintro e u1 ⟨sM, aM, kM, cM, zM, rfl, iM, gM, ub⟩
              replace BA := Lib.hid (BA.out.below ub)
              replace BB := Lib.hid (BB.out.below ub)
              have IM := Lib.hid iM
              replace XB := XB.trans (ub.mono XB.size)
              clear iM ub
              obtain ⟨ta0, ta1, qa0, qa1⟩ := blk2 BA.out.row
              obtain ⟨tb0, tb1, qb0, qb1⟩ := blk2 BB.out.row
              refine hK.out _ _ ?_ (fun hH4 => ?_)
              · exact HKP.out _ XB
              clear hK K hH3
              (try simp only [Act.put, List.setIfInBounds_toArray, List.set_cons_zero, List.set_cons_succ])
              refine wpAnyH_ready (rs := [7]) (by kernel_rfl) (by simp) ?_
              refine (AllReadyH.cons (o := ({ dst := some 36, op := Op.call { callee := Callee.value (Operand.func 95), args := #[Operand.tmp 34, Operand.tmp 35], argTypes := #[31, 31] }, type := 31, pos := "continued.go:43", after := #[{ on := 5, ground := Ground.data }, { on := 6, ground := Ground.data }, { on := 5, ground := Ground.chain }], guard := none } : Oper)) rfl (fun K hK => ?_) AllReadyH.nil)
              go_simp
              clear ta0 ta1 qa0 qa1 tb0 tb1 qb0 qb1
              refine (add_int _ _ _ _ _ _ _ _ _ _ _ _ (x2) IM.out BB.out.it (by omega) (by omega)).mono ?_
              rintro e u2 ⟨sS, aS, kS, cS, zS, rfl, iS, gS, ub⟩
              replace BA := Lib.hid (BA.out.below ub)
              replace BB := Lib.hid (BB.out.below ub)
              have IS := Lib.hid iS
              replace XB := XB.trans (ub.mono XB.size)
              clear iS ub
              obtain ⟨ta0, ta1, qa0, qa1⟩ := blk2 BA.out.row
              obtain ⟨tb0, tb1, qb0, qb1⟩ := blk2 BB.out.row
              refine hK.out _ _ ?_ (fun hH5 => ?_)
              · exact HKP.out _ XB
              clear hK K hH4
              (try simp only [Act.put, List.setIfInBounds_toArray, List.set_cons_zero, List.set_cons_succ])
              refine wpAnyH_ready (rs := [9]) (by kernel_rfl) (by simp) ?_
              refine (AllReadyH.cons (o := ({ dst := none, op := Op.store 31 (Operand.tmp 4) (Operand.tmp 36), type := 0, pos := "continued.go:43", after := #[{ on := 7, ground := Ground.data }, { on := 7, ground := Ground.chain }, { on := 0, ground := Ground.phase }, { on := 1, ground := Ground.phase }, { on := 2, ground := Ground.phase }, { on := 3, ground := Ground.phase }, { on := 4, ground := Ground.phase }, { on := 5, ground := Ground.phase }, { on := 6, ground := Ground.phase }, { on := 7, ground := Ground.phase }, { on := 8, ground := Ground.phase }], guard := none } : Oper)) rfl (fun K hK => ?_) AllReadyH.nil)
              go_simp
              clear ta0 ta1 qa0 qa1 tb0 tb1 qb0 qb1
              obtain ⟨u3, hu⟩ : ∃ u, u = (u2.setCell ⟨bA, 0, none⟩ (.bool sS)).setCell ⟨bA, 1, none⟩ (.slice aS kS cS) := ⟨_, rfl⟩
              have IN := Lib.hid (show IntAt u3 jA lA mA oA qA _ from by rw [hu]; exact BA.out.it.stored BA.out.row _ _)
              have ba := (show IBox u3 bA _ _ _ _ _ _ from by rw [hu]; exact IBox.put IS.out BA.out.row)
              replace BB := Lib.hid (show IBox u3 bB _ _ _ _ _ _ from by rw [hu]; exact BB.out.other BA.out.row hAB.symm _ _)
              replace BA := Lib.hid ba
              have xb : Below w1.heap.size w1 u3 := by rw [hu]; exact (XB.setCell (p := ⟨bA, 0, none⟩) hsA _).setCell (p := ⟨bA, 1, none⟩) hsA _
              rw [← hu]
              clear hu ba XB IS
              have XB := xb
              clear xb
              obtain ⟨ta0, ta1, qa0, qa1⟩ := blk2 BA.out.row
              obtain ⟨tb0, tb1, qb0, qb1⟩ := blk2 BB.out.row
              refine hK.out _ _ ?_ (fun hH6 => ?_)
              · exact HKP.out _ XB
              clear hK K hH5
              (try simp only [Act.put, List.setIfInBounds_toArray, List.set_cons_zero, List.set_cons_succ])
              refine wpAnyH_ready (rs := [10]) (by kernel_rfl) (by simp) ?_
              refine (AllReadyH.cons (o := ({ dst := none, op := Op.store 31 (Operand.tmp 5) (Operand.tmp 37), type := 0, pos := "continued.go:43", after := #[{ on := 8, ground := Ground.data }, { on := 9, ground := Ground.chain }, { on := 0, ground := Ground.phase }, { on := 1, ground := Ground.phase }, { on := 2, ground := Ground.phase }, { on := 3, ground := Ground.phase }, { on := 4, ground := Ground.phase }, { on := 5, ground := Ground.phase }, { on := 6, ground := Ground.phase }, { on := 7, ground := Ground.phase }, { on := 8, ground := Ground.phase }, { on := 9, ground := Ground.phase }], guard := none } : Oper)) rfl (fun K hK => ?_) AllReadyH.nil)
              go_simp
              clear ta0 ta1 qa0 qa1 tb0 tb1 qb0 qb1
              obtain ⟨u4, hu⟩ : ∃ u, u = (u3.setCell ⟨bB, 0, none⟩ (.bool jA)).setCell ⟨bB, 1, none⟩ (.slice lA mA oA) := ⟨_, rfl⟩
              have bb := (show IBox u4 bB _ _ _ _ _ _ from by rw [hu]; exact IBox.put IN.out BB.out.row)
              replace BA := Lib.hid (show IBox u4 bA _ _ _ _ _ _ from by rw [hu]; exact BA.out.other BB.out.row hAB _ _)
              replace BB := Lib.hid bb
              have xb : Below w1.heap.size w1 u4 := by rw [hu]; exact (XB.setCell (p := ⟨bB, 0, none⟩) hsB _).setCell (p := ⟨bB, 1, none⟩) hsB _
              rw [← hu]
              clear hu bb XB IN
              have XB := xb
              clear xb
              obtain ⟨ta0, ta1, qa0, qa1⟩ := blk2 BA.out.row
              obtain ⟨tb0, tb1, qb0, qb1⟩ := blk2 BB.out.row
              refine hK.out _ _ ?_ (fun hH7 => ?_)
              · exact HKP.out _ XB
              clear hK K hH6
              (try simp only [Act.put, List.setIfInBounds_toArray, List.set_cons_zero, List.set_cons_succ])
              refine wpAnyH_done (by kernel_rfl) ?_ _
              refine NoPanic.normal ?_
              clear ta0 ta1 qa0 qa1 tb0 tb1 qb0 qb1
              go_wp2_with fail
              go_roundw
              case rel => exact .inr (.inr ⟨by go_num, _, _, _, _, _, _, _, _, _, _, BA.out, BB.out, by omega, by omega, XB⟩)
              case measure => simp [intOf]
          · go_simp
            refine hK.out _ _ ?_ (fun hH2 => ?_)
            · exact HKP.out _ XB
            clear hK K hH1
            (try simp only [Act.put, List.setIfInBounds_toArray, List.set_cons_zero, List.set_cons_succ])
            refine wpAnyH_ready (rs := [4]) (by kernel_rfl) (by simp) ?_
            refine (AllReadyH.cons (o := ({ dst := some 33, op := Op.load 31 (Operand.tmp 4), type := 31, pos := "continued.go:43", after := #[], guard := none } : Oper)) rfl (fun K hK => ?_) AllReadyH.nil)
            go_simp
            refine hK.out _ _ ?_ (fun hH3 => ?_)
            · exact HKP.out _ XB
            clear hK K hH2
            (try simp only [Act.put, List.setIfInBounds_toArray, List.set_cons_zero, List.set_cons_succ])
            refine wpAnyH_ready (rs := [5]) (by kernel_rfl) (by simp) ?_
            refine (AllReadyH.cons (o := ({ dst := some 34, op := Op.call { callee := Callee.value (Operand.func 84), args := #[Operand.tmp 32, Operand.tmp 33], argTypes := #[31, 31] }, type := 31, pos := "continued.go:43", after := #[{ on := 3, ground := Ground.data }, { on := 4, ground := Ground.data }], guard := none } : Oper)) rfl (fun K hK => ?_) AllReadyH.nil)
            go_simp
            clear ta0 ta1 qa0 qa1 tb0 tb1 qb0 qb1
            refine (mul_int _ _ _ _ _ _ _ _ _ _ _ (x0) (x1 * x2 + 1) (H.out.i0.below XB) BA.out.it (by omega) (by omega)).mono ?_
            rintro e u1 ⟨sM, aM, kM, cM, zM, rfl, iM, gM, ub⟩
            replace BA := Lib.hid (BA.out.below ub)
            replace BB := Lib.hid (BB.out.below ub)
            have IM := Lib.hid iM
            replace XB := XB.trans (ub.mono XB.size)
            clear iM ub
            obtain ⟨ta0, ta1, qa0, qa1⟩ := blk2 BA.out.row
            obtain ⟨tb0, tb1, qb0, qb1⟩ := blk2 BB.out.row
            refine hK.out _ _ ?_ (fun hH4 => ?_)
            · exact HKP.out _ XB
            clear hK K hH3
            (try simp only [Act.put, List.setIfInBounds_toArray, List.set_cons_zero, List.set_cons_succ])
            refine wpAnyH_ready (rs := [7]) (by kernel_rfl) (by simp) ?_
            refine (AllReadyH.cons (o := ({ dst := some 36, op := Op.call { callee := Callee.value (Operand.func 95), args := #[Operand.tmp 34, Operand.tmp 35], argTypes := #[31, 31] }, type := 31, pos := "continued.go:43", after := #[{ on := 5, ground := Ground.data }, { on := 6, ground := Ground.data }, { on := 5, ground := Ground.chain }], guard := none } : Oper)) rfl (fun K hK => ?_) AllReadyH.nil)
            go_simp
            clear ta0 ta1 qa0 qa1 tb0 tb1 qb0 qb1
            refine (add_int _ _ _ _ _ _ _ _ _ _ _ _ (x2) IM.out BB.out.it (by omega) (by omega)).mono ?_
            rintro e u2 ⟨sS, aS, kS, cS, zS, rfl, iS, gS, ub⟩
            replace BA := Lib.hid (BA.out.below ub)
            replace BB := Lib.hid (BB.out.below ub)
            have IS := Lib.hid iS
            replace XB := XB.trans (ub.mono XB.size)
            clear iS ub
            obtain ⟨ta0, ta1, qa0, qa1⟩ := blk2 BA.out.row
            obtain ⟨tb0, tb1, qb0, qb1⟩ := blk2 BB.out.row
            refine hK.out _ _ ?_ (fun hH5 => ?_)
            · exact HKP.out _ XB
            clear hK K hH4
            (try simp only [Act.put, List.setIfInBounds_toArray, List.set_cons_zero, List.set_cons_succ])
            refine wpAnyH_ready (rs := [9]) (by kernel_rfl) (by simp) ?_
            refine (AllReadyH.cons (o := ({ dst := none, op := Op.store 31 (Operand.tmp 4) (Operand.tmp 36), type := 0, pos := "continued.go:43", after := #[{ on := 7, ground := Ground.data }, { on := 7, ground := Ground.chain }, { on := 0, ground := Ground.phase }, { on := 1, ground := Ground.phase }, { on := 2, ground := Ground.phase }, { on := 3, ground := Ground.phase }, { on := 4, ground := Ground.phase }, { on := 5, ground := Ground.phase }, { on := 6, ground := Ground.phase }, { on := 7, ground := Ground.phase }, { on := 8, ground := Ground.phase }], guard := none } : Oper)) rfl (fun K hK => ?_) AllReadyH.nil)
            go_simp
            clear ta0 ta1 qa0 qa1 tb0 tb1 qb0 qb1
            obtain ⟨u3, hu⟩ : ∃ u, u = (u2.setCell ⟨bA, 0, none⟩ (.bool sS)).setCell ⟨bA, 1, none⟩ (.slice aS kS cS) := ⟨_, rfl⟩
            have IN := Lib.hid (show IntAt u3 jA lA mA oA qA _ from by rw [hu]; exact BA.out.it.stored BA.out.row _ _)
            have ba := (show IBox u3 bA _ _ _ _ _ _ from by rw [hu]; exact IBox.put IS.out BA.out.row)
            replace BB := Lib.hid (show IBox u3 bB _ _ _ _ _ _ from by rw [hu]; exact BB.out.other BA.out.row hAB.symm _ _)
            replace BA := Lib.hid ba
            have xb : Below w1.heap.size w1 u3 := by rw [hu]; exact (XB.setCell (p := ⟨bA, 0, none⟩) hsA _).setCell (p := ⟨bA, 1, none⟩) hsA _
            rw [← hu]
            clear hu ba XB IS
            have XB := xb
            clear xb
            obtain ⟨ta0, ta1, qa0, qa1⟩ := blk2 BA.out.row
            obtain ⟨tb0, tb1, qb0, qb1⟩ := blk2 BB.out.row
            refine hK.out _ _ ?_ (fun hH6 => ?_)
            · exact HKP.out _ XB
            clear hK K hH5
            (try simp only [Act.put, List.setIfInBounds_toArray, List.set_cons_zero, List.set_cons_succ])
            refine wpAnyH_ready (rs := [10]) (by kernel_rfl) (by simp) ?_
            refine (AllReadyH.cons (o := ({ dst := none, op := Op.store 31 (Operand.tmp 5) (Operand.tmp 37), type := 0, pos := "continued.go:43", after := #[{ on := 8, ground := Ground.data }, { on := 9, ground := Ground.chain }, { on := 0, ground := Ground.phase }, { on := 1, ground := Ground.phase }, { on := 2, ground := Ground.phase }, { on := 3, ground := Ground.phase }, { on := 4, ground := Ground.phase }, { on := 5, ground := Ground.phase }, { on := 6, ground := Ground.phase }, { on := 7, ground := Ground.phase }, { on := 8, ground := Ground.phase }, { on := 9, ground := Ground.phase }], guard := none } : Oper)) rfl (fun K hK => ?_) AllReadyH.nil)
            go_simp
            clear ta0 ta1 qa0 qa1 tb0 tb1 qb0 qb1
            obtain ⟨u4, hu⟩ : ∃ u, u = (u3.setCell ⟨bB, 0, none⟩ (.bool jA)).setCell ⟨bB, 1, none⟩ (.slice lA mA oA) := ⟨_, rfl⟩
            have bb := (show IBox u4 bB _ _ _ _ _ _ from by rw [hu]; exact IBox.put IN.out BB.out.row)
            replace BA := Lib.hid (show IBox u4 bA _ _ _ _ _ _ from by rw [hu]; exact BA.out.other BB.out.row hAB _ _)
            replace BB := Lib.hid bb
            have xb : Below w1.heap.size w1 u4 := by rw [hu]; exact (XB.setCell (p := ⟨bB, 0, none⟩) hsB _).setCell (p := ⟨bB, 1, none⟩) hsB _
            rw [← hu]
            clear hu bb XB IN
            have XB := xb
            clear xb
            obtain ⟨ta0, ta1, qa0, qa1⟩ := blk2 BA.out.row
            obtain ⟨tb0, tb1, qb0, qb1⟩ := blk2 BB.out.row
            refine hK.out _ _ ?_ (fun hH7 => ?_)
            · exact HKP.out _ XB
            clear hK K hH6
            (try simp only [Act.put, List.setIfInBounds_toArray, List.set_cons_zero, List.set_cons_succ])
            refine wpAnyH_done (by kernel_rfl) ?_ _
            refine NoPanic.normal ?_
            clear ta0 ta1 qa0 qa1 tb0 tb1 qb0 qb1
            go_wp2_with fail
            go_roundw
            case rel => exact .inr (.inr ⟨by go_num, _, _, _, _, _, _, _, _, _, _, BA.out, BB.out, by omega, by omega, XB⟩)
            case measure => simp [intOf]
      · have BA := Lib.hid hba
        have BB := Lib.hid hbb
        have HWR := Lib.hid hbel
        clear hba hbb hbel
        obtain ⟨tb0, tb1, -, -⟩ := blk2 BB.out.row
        go_wp2_with fail
        refine (sign_int _ _ _ _ _ _ (x1 * x2 + 1) BB.out.it).mono ?_
        rintro e v0 ⟨rfl, ub⟩
        rw [cmpI_gt HL.out.1]
        replace BA := Lib.hid (BA.out.below ub)
        replace BB := Lib.hid (BB.out.below ub)
        replace HWR := Lib.hid (HWR.out.trans (ub.mono HWR.out.size))
        clear ub tb0 tb1
        obtain ⟨ta0, ta1, -, -⟩ := blk2 BA.out.row
        obtain ⟨tb0, tb1, -, -⟩ := blk2 BB.out.row
        have r := (HWR.out.block P (Array.getElem?_eq_some_iff.1 R0.out).1).trans R0.out
        obtain ⟨p0, p1, p2, p3⟩ := blk4 r
        obtain ⟨pf0, pf1, pf2, pf3⟩ := blk4f r
        have HX := Lib.hid (stored4 BA.out.it r (.bool jA) (.slice lA mA oA) (.bool jB) (.slice lB mB oB))
        have HY := Lib.hid (stored4 BB.out.it r (.bool jA) (.slice lA mA oA) (.bool jB) (.slice lB mB oB))
        have HZ := Lib.hid (below4 (HB.out.trans (HWR.out.mono HB.out.size)) (B := P) (by have := HP.out; omega) (.bool jA) (.slice lA mA oA) (.bool jB) (.slice lB mB oB))
        clear r
        go_wp2_with fail
        refine bodyPost_ret (v := .tuple #[.agg #[.bool jA, .slice lA mA oA, .bool jB, .slice lB mB oB], .int .i64 0]) (by simp [results, Tryz.results52, go_sem, p0, p1, p2, p3]) rfl ?_
        exact ⟨_, _, _, _, _, _, _, _, _, _, _, rfl, ⟨HX.out, HY.out, .inl rfl, HL.out⟩, by omega, by omega, HZ.out⟩

end Go.Proofs.YtdfepdhflnnjpaaGreat
