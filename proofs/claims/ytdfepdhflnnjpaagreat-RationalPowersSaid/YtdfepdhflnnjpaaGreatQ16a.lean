/- A slice of integers of the call's own, appended to: behind its length its block bears no numbers. -/
import Derived.Test.YtdfepdhflnnjpaaGreatQ12a
import Derived.Deep.AppendLies
import Derived.OwnWalk
namespace Go.Proofs.YtdfepdhflnnjpaaGreat
open Go.RowKit
set_option autoImplicit false
set_option linter.unusedVariables false

/-- Behind the first n integers the block bears no limbs. -/
def Spare (w : World) (g n : Nat) : Prop := ∀ i z, 2 * n ≤ i → w.cell? ⟨g, i, none⟩ ≠ some (.int .u32 z)

theorem zero_cells_spare (k j : Nat) (z : Int) : (Builtin.zeroCells #[.bool false, .slice none 0 0] k)[j]? ≠ some (.int .u32 z) := by
  intro h
  have hlt := (Array.getElem?_eq_some_iff.1 h).1
  rw [Array.getElem?_eq_getElem hlt] at h
  simp only [Option.some.injEq] at h
  have hm : j % 2 < 2 := Nat.mod_lt _ (by omega)
  simp only [Builtin.zeroCells, Array.getElem_map, Array.getElem_range] at h
  have hs : (#[Value.bool false, .slice none 0 0] : Array Value).size = 2 := rfl
  rw [hs] at h
  rcases (by omega : j % 2 = 0 ∨ j % 2 = 1) with h0 | h0 <;> rw [h0] at h <;> simp at h

/-- All limbs are as they were. -/
def Limbs (w w' : World) : Prop := ∀ p z, w.cell? p = some (.int .u32 z) → w'.cell? p = some (.int .u32 z)

theorem IntAt.limbs {w w' : World} {neg : Bool} {ao : Option Addr} {n cap : Nat} {zs : List Int} {x : Int} (h : IntAt w neg ao n cap zs x) (hl : Limbs w w') : IntAt w' neg ao n cap zs x :=
  ⟨⟨h.sl.len, h.sl.le, h.sl.most, h.sl.nil, by
    rcases h.sl.cells with h | ⟨b, o, h1, h2⟩
    · exact .inl h
    · exact .inr ⟨b, o, h1, fun i hi => hl _ _ (h2 i hi)⟩⟩, h.lim, h.top, h.sign, h.val⟩

theorem Spare.kept {w w' : World} {g n : Nat} (h : Spare w g n) (hb : w'.heap[g]? = w.heap[g]?) : Spare w' g n := fun i z hi => by
  rw [World.cell?_of_block (a := ⟨g, i, none⟩) hb]; exact h i z hi

theorem run_append_int {P : Program} (w : World) (t ty : TypeId) (base : Nat) (e : TypeId) (i : TypeInfo) (bytes : Nat) (ht : P.underlying t = some (.slice e)) (hi : P.info? e = some i) (hz : i.zero = some (.agg #[.bool false, .slice none 0 0]))
    (hsize : i.size = 2) (hby : i.bytes = bytes)
    (v : Value) (n : Nat) (xs : List Value) (hown : w.ownsRow base e 2 v n xs) (hsp : ∀ g, v.ownBlock = some g → Spare w g n)
    (ad : Addr) (c : Nat) (s : Bool) (ao : Option Addr) (k kc : Nat) (hnews : ∀ j u, [Value.bool s, .slice ao k kc][j]? = some u → w.cell? (ad.add j) = some u)
    (h63 : n + 1 ≤ maxLen) (hbytes : (n + 1) * bytes ≤ 140737488355328) (hbase : base ≤ w.heap.size) (H : Nat) (hH : w.heap.size = H) :
    ∃ g cap w', (Builtin.append_ #[t, t] ty #[v, .slice (some ad) 1 c]).run P w = .ok (.slice (some ⟨g, 0, none⟩) (n + 1) cap) w' ∧
      w'.ownsRow base e 2 (.slice (some ⟨g, 0, none⟩) (n + 1) cap) (n + 1) (xs ++ [.bool s, .slice ao k kc]) ∧ w.grownBy w' v.ownBlock ∧ (v.ownBlock = some g ∨ g = H) ∧ g < w'.heap.size ∧ Spare w' g (n + 1) ∧ Limbs w w' := by
  have hl : [Value.bool s, .slice ao k kc].length = 1 * 2 := rfl
  have h1 : ∀ u ∈ [Value.bool s, .slice ao k kc], u.oneCell' = true := by simp [Value.oneCell']
  have hzs : (Value.agg #[.bool false, .slice none 0 0]).cells.size = 2 := rfl
  have hzc : (Value.agg #[.bool false, .slice none 0 0]).cells = #[.bool false, .slice none 0 0] := rfl
  obtain ⟨g, cap, w', hr, h2, h3, h4, h5⟩ := run_append_lies (P := P) w t ty base e i _ 2 bytes ht hi hz hsize hby hzs (by omega) v n xs hown ad 1 c _ hl hnews h1 (by omega) h63 hbytes hbase H hH
  refine ⟨g, cap, w', hr, h2, h3, h4, h5, ?_⟩
  subst hby
  have fresh : ∀ (olds : Array Value) (q : Nat), olds.size = (n + 1) * 2 → w' = w.drew.alloc (.cells (olds ++ Builtin.zeroCells #[.bool false, .slice none 0 0] q) e) → g = w.heap.size → Spare w' g (n + 1) ∧ Limbs w w' := by
    intro olds q ho hw hg
    subst hw hg
    refine ⟨fun j z hj => ?_, fun p z hp => ?_⟩
    · have hrow : (w.drew.alloc (Obj.cells (olds ++ Builtin.zeroCells #[Value.bool false, Value.slice none 0 0] q) e)).heap[w.heap.size]? = some (.cells (olds ++ Builtin.zeroCells #[Value.bool false, Value.slice none 0 0] q) e (0, 0)) := heap_alloc_new w.drew _
      rw [cell_of_row _ w.heap.size j _ e (0, 0) hrow, Array.getElem?_append_right (by omega)]
      exact zero_cells_spare _ _ _
    · have hlt := World.block_lt_of_cell? w p hp
      rw [← hp]
      exact World.cell?_of_block (w := w) (by first | exact heap_alloc_old w.drew _ hlt | exact Go.heap_alloc_old w.drew _ _ hlt)
  rcases hown.2 with ⟨rfl, rfl⟩ | ⟨g0, cap0, cur, rfl, hbg, hg, hnc, hcm, hcs, htake⟩
  · have hr' := run_append_nil (P := P) w t ty e i _ ht hi hz ad 1 c [Value.bool s, .slice ao k kc] (by rw [hsize]; rfl) hnews (by omega) (by omega) (by omega)
    rw [hr'] at hr
    simp only [Result.ok.injEq, Value.slice.injEq, Option.some.injEq, Addr.mk.injEq, and_true, true_and] at hr
    refine fresh _ _ ?_ hr.2.symm hr.1.1.symm
    simp
  · by_cases hroom : n + 1 ≤ cap0
    · have hfit : n * i.size + [Value.bool s, .slice ao k kc].length ≤ cur.size := by rw [hsize, hcs, hl, ← Nat.add_mul]; exact Nat.mul_le_mul_right _ hroom
      have hr' := run_append_room (P := P) w t ty e i ht hi g0 n cap0 cur hg ad 1 c _ (by rw [hsize]; rfl) hnews h1 hroom hfit
      rw [hr'] at hr
      simp only [Result.ok.injEq, Value.slice.injEq, Option.some.injEq, Addr.mk.injEq, and_true, true_and] at hr
      obtain ⟨hg1, hw⟩ := hr
      have hg1 := hg1.1
      subst hg1 hw
      have hsp0 := hsp g0 rfl
      have hfit' : n * 2 + 2 ≤ cur.size := by rw [hsize] at hfit; exact hfit
      have cellAt : ∀ j, (w.setRow g0 (List.take (n * i.size) cur.toList ++ [Value.bool s, .slice ao k kc] ++ List.drop (n * i.size + [Value.bool s, .slice ao k kc].length) cur.toList).toArray).cell? ⟨g0, j, none⟩ = if j < n * 2 then cur[j]? else if j < n * 2 + 2 then [Value.bool s, .slice ao k kc][j - n * 2]? else cur[j]? := by
        intro j
        rw [cell_of_row _ g0 j _ e (0, 0) (setRow_heap w g0 cur _ e _ hg), hsize]
        have hlen : (List.take (n * 2) cur.toList).length = n * 2 := by simp; omega
        rw [List.getElem?_toArray]
        split
        · rename_i hj
          rw [List.append_assoc, List.getElem?_append_left (by omega), List.getElem?_take_of_lt hj, Array.getElem?_toList]
        · split
          · rename_i hj hj2
            rw [List.append_assoc, List.getElem?_append_right (by omega), hlen, List.getElem?_append_left (by simp; omega)]
          · rename_i hj hj2
            rw [List.getElem?_append_right (by simp; omega), List.getElem?_drop]
            simp only [List.length_append, hlen, List.length_cons, List.length_nil]
            rw [Array.getElem?_toList]
            congr 1
            omega
      have hold : ∀ j, w.cell? ⟨g0, j, none⟩ = cur[j]? := fun j => cell_of_row w g0 j cur e (0, 0) hg
      refine ⟨fun j z hj => ?_, fun p z hp => ?_⟩
      · rw [cellAt, if_neg (by omega), if_neg (by omega), ← hold]
        exact hsp0 j z (by omega)
      · by_cases hpb : p.block = g0
        · obtain ⟨pb, po, ps⟩ := p
          simp only at hpb
          subst hpb
          cases ps with
          | some _ => simp [World.cell?, hg] at hp
          | none =>
            rw [cellAt]
            have hc := hold po
            rw [hp] at hc
            have hnot : ¬ (2 * n ≤ po) := fun hle => hsp0 po z hle hp
            rw [if_pos (by omega), ← hc]
        · rw [← hp]
          exact World.cell?_of_block (setRow_other w g0 p.block _ hpb)
    · have holds : ∀ j u, xs[j]? = some u → w.cell? ((⟨g0, 0, none⟩ : Addr).add j) = some u := hown.cells (g := g0) rfl
      have hr' := run_append_grow (P := P) w t ty e i _ ht hi hz ⟨g0, 0, none⟩ n cap0 xs (by rw [hsize]; exact hown.1) holds ad 1 c [Value.bool s, .slice ao k kc] (by rw [hsize]; rfl) hnews (by omega) (by simp only [maxLen] at h63; omega) (growslice_fits (by omega) hbytes)
      rw [hr'] at hr
      simp only [Result.ok.injEq, Value.slice.injEq, Option.some.injEq, Addr.mk.injEq, and_true, true_and] at hr
      refine fresh _ _ ?_ hr.2.symm hr.1.1.symm
      simp [hown.1]
      omega

/-- All blocks below are as they were: so are the limbs. -/
theorem Below.limbs {w w' : World} (hb : Below w.heap.size w w') : Limbs w w' := fun p z hp => (hb.cell (World.block_lt_of_cell? w p hp)).trans hp

theorem cell_two (w : World) (x y : Value) (t : TypeId) : ∀ j u, [x, y][j]? = some u → (w.alloc (.cells #[x, y] t)).cell? ((⟨w.heap.size, 0, none⟩ : Addr).add j) = some u := by
  intro j u hj
  match j, hj with
  | 0, hj => simp at hj; subst hj; simp [Addr.add]
  | 1, hj => simp at hj; subst hj; simp [Addr.add]

theorem int_small {w : World} {neg : Bool} {ao : Option Addr} {n cap : Nat} {zs : List Int} {x : Int} (h : IntAt w neg ao n cap zs x) (h0 : 0 ≤ x) (h1 : x ≤ 4294967295) : n ≤ 1 := by
  have hl := h.sl.len
  have hv := h.val
  have hn := val_nonneg h.lim
  by_cases hz : zs = []
  · subst hz; simp at hl; omega
  · have hp := val_pos_of_top h.lim h.top hz
    have hle : val zs ≤ 4294967295 := by unfold sgn at hv; split at hv <;> omega
    rcases Nat.lt_or_ge 1 zs.length with h2 | h2
    · exfalso
      have h3 : zs.length - 1 = zs.length - 2 + 1 := by omega
      rw [h3, Int.pow_succ] at hp
      have h4 : (1 : Int) ≤ 4294967296 ^ (zs.length - 2) := by have := Int.pow_pos (n := 4294967296) (m := zs.length - 2) (by omega); omega
      omega
    · omega

theorem IBox.grown {w w' : World} {p : Nat} {x : Int} {s : Bool} {a : Option Addr} {n c : Nat} {z : List Int} {row : Option Nat} (h : IBox w p s a n c z x) (hg : w.grownBy w' row) (hl : Limbs w w') (hne : some p ≠ row) : IBox w' p s a n c z x :=
  ⟨(hg.block p (Array.getElem?_eq_some_iff.1 h.row).1 hne).trans h.row, h.it.limbs hl⟩

/-- A block with an integer. -/
def Bx (w : World) (p : Nat) (x : Int) : Prop := ∃ s a n c z, IBox w p s a n c z x
theorem Bx.lt {w : World} {p : Nat} {x : Int} (h : Bx w p x) : p < w.heap.size := by
  obtain ⟨s, a, n, c, z, h⟩ := h
  exact (Array.getElem?_eq_some_iff.1 h.row).1
theorem Bx.below {w w' : World} {p : Nat} {x : Int} (h : Bx w p x) (hb : Below w.heap.size w w') : Bx w' p x := by
  obtain ⟨s, a, n, c, z, h⟩ := h
  exact ⟨s, a, n, c, z, h.below hb⟩
theorem Bx.grown {w w' : World} {p : Nat} {x : Int} {row : Option Nat} (h : Bx w p x) (hg : w.grownBy w' row) (hl : Limbs w w') (hne : some p ≠ row) : Bx w' p x := by
  have hlt := h.lt
  obtain ⟨s, a, n, c, z, h⟩ := h
  exact ⟨s, a, n, c, z, (hg.block p hlt hne).trans h.row, h.it.limbs hl⟩
theorem Bx.put {w : World} {p : Nat} {x y : Int} {s : Bool} {a : Option Addr} {n c : Nat} {z : List Int} (h : Bx w p x) (i : IntAt w s a n c z y) : Bx ((w.setCell ⟨p, 0, none⟩ (.bool s)).setCell ⟨p, 1, none⟩ (.slice a n c)) p y := by
  obtain ⟨s', a', n', c', z', h⟩ := h
  exact ⟨_, _, _, _, _, IBox.put i h.row⟩
theorem Bx.other {w : World} {p q : Nat} {x y : Int} (h : Bx w p x) (hq : Bx w q y) (hne : p ≠ q) (u v : Value) : Bx ((w.setCell ⟨q, 0, none⟩ u).setCell ⟨q, 1, none⟩ v) p x := by
  obtain ⟨s, a, n, c, z, h⟩ := h
  obtain ⟨s', a', n', c', z', hq⟩ := hq
  exact ⟨_, _, _, _, _, h.other hq.row hne u v⟩
theorem Bx.it {w : World} {q : Nat} {y x : Int} {s : Bool} {a : Option Addr} {n c : Nat} {z : List Int} (hq : Bx w q y) (i : IntAt w s a n c z x) (u v : Value) : IntAt ((w.setCell ⟨q, 0, none⟩ u).setCell ⟨q, 1, none⟩ v) s a n c z x := by
  obtain ⟨s', a', n', c', z', hq⟩ := hq
  exact i.stored hq.row u v

/-- The cells are those of the integers xs. -/
def Els (w : World) : List Int → List Value → Prop
  | [], cs => cs = []
  | x :: xs, cs => ∃ s a m k z rest, cs = .bool s :: .slice a m k :: rest ∧ IntAt w s a m k z x ∧ Els w xs rest
theorem Els.limbs {w w' : World} (hl : Limbs w w') : ∀ {xs : List Int} {cs : List Value}, Els w xs cs → Els w' xs cs
  | [], _, h => h
  | x :: xs, _, ⟨s, a, m, k, z, rest, hc, hi, h⟩ => ⟨s, a, m, k, z, rest, hc, hi.limbs hl, Els.limbs hl h⟩
theorem Els.snoc {w : World} {s : Bool} {a : Option Addr} {m k : Nat} {z : List Int} {x : Int} (hi : IntAt w s a m k z x) : ∀ {xs : List Int} {cs : List Value}, Els w xs cs → Els w (xs ++ [x]) (cs ++ [.bool s, .slice a m k])
  | [], cs, h => by
    have h : cs = [] := h
    subst h
    exact ⟨s, a, m, k, z, [], rfl, hi, rfl⟩
  | y :: xs, _, ⟨s', a', m', k', z', rest, hc, hi', h⟩ => by
    subst hc
    exact ⟨s', a', m', k', z', rest ++ [.bool s, .slice a m k], rfl, hi', Els.snoc hi h⟩

/-- The slice is one of the call's own (from block B on), and holds the integers xs. -/
def Rowed (w : World) (B : Nat) (v : Value) (xs : List Int) : Prop :=
  ∃ cs, w.ownsRow B 31 2 v xs.length cs ∧ (∀ g, v.ownBlock = some g → Spare w g xs.length) ∧ Els w xs cs
theorem Rowed.nil (w : World) (B : Nat) : Rowed w B (.slice none 0 0) [] := ⟨[], World.ownsRow_nil _ _ _ _, (by intro g h; cases h), rfl⟩
theorem Rowed.block {w : World} {B g : Nat} {v : Value} {xs : List Int} (h : Rowed w B v xs) (hg : v.ownBlock = some g) : B ≤ g ∧ g < w.heap.size := by
  obtain ⟨cs, h, -, -⟩ := h
  rcases h.2 with ⟨hv, -⟩ | ⟨g', cap, cur, hv, hb, hr, -⟩
  · subst hv; cases hg
  · subst hv
    simp only [Value.ownBlock, Option.some.injEq] at hg
    subst hg
    exact ⟨hb, (Array.getElem?_eq_some_iff.1 hr).1⟩
theorem Rowed.below {w w' : World} {B : Nat} {v : Value} {xs : List Int} (h : Rowed w B v xs) (hb : Below w.heap.size w w') : Rowed w' B v xs := by
  have hblk := fun g hg => (h.block (g := g) hg).2
  obtain ⟨cs, h1, h2, h3⟩ := h
  have hk : w'.ownsRow B 31 2 v xs.length cs := by
    refine ⟨h1.1, ?_⟩
    rcases h1.2 with hn | ⟨g, cap, cur, hv, hbg, hr, rest⟩
    · exact .inl hn
    · exact .inr ⟨g, cap, cur, hv, hbg, (hb.block g (Array.getElem?_eq_some_iff.1 hr).1).trans hr, rest⟩
  exact ⟨cs, hk, fun g hg => (h2 g hg).kept (hb.block g (hblk g hg)), h3.limbs (Below.limbs hb)⟩
theorem Rowed.setBox {w : World} {B p : Nat} {v : Value} {xs : List Int} {a : Bool} {b : Option Addr} {c d : Nat} (h : Rowed w B v xs) (hp : p < B) (hb : w.heap[p]? = some (.cells #[.bool a, .slice b c d] 31 (0, 0))) (u1 u2 : Value) :
    Rowed ((w.setCell ⟨p, 0, none⟩ u1).setCell ⟨p, 1, none⟩ u2) B v xs := by
  have hblk := fun g hg => (h.block (g := g) hg).1
  obtain ⟨cs, h1, h2, h3⟩ := h
  have hl : Limbs w ((w.setCell ⟨p, 0, none⟩ u1).setCell ⟨p, 1, none⟩ u2) := by
    obtain ⟨e0, e1, _, _⟩ := blk2 hb
    intro q z hq
    rw [World.cell?_setCell_other, World.cell?_setCell_other]
    · exact hq
    · intro e; rw [e] at e0; rw [e0] at hq; cases hq
    · intro e; rw [e] at e1; rw [e1] at hq; cases hq
  have hblock : ∀ g, g ≠ p → ((w.setCell ⟨p, 0, none⟩ u1).setCell ⟨p, 1, none⟩ u2).heap[g]? = w.heap[g]? := fun g hg => by
    rw [Below.heap_setCell _ _ _ _ hg, Below.heap_setCell _ _ _ _ hg]
  refine ⟨cs, ⟨h1.1, ?_⟩, fun g hg => (h2 g hg).kept (hblock g (by have := hblk g hg; omega)), h3.limbs hl⟩
  rcases h1.2 with hn | ⟨g, cap, cur, hv, hbg, hr, rest⟩
  · exact .inl hn
  · exact .inr ⟨g, cap, cur, hv, hbg, (hblock g (by omega)).trans hr, rest⟩

theorem Rowed.put {w : World} {B p : Nat} {v : Value} {xs : List Int} {y : Int} (h : Rowed w B v xs) (hp : p < B) (hq : Bx w p y) (u1 u2 : Value) : Rowed ((w.setCell ⟨p, 0, none⟩ u1).setCell ⟨p, 1, none⟩ u2) B v xs := by
  obtain ⟨s', a', n', c', z', hq⟩ := hq
  exact h.setBox hp hq.row u1 u2

theorem heap2 {w : World} {p q : Nat} (h : q ≠ p) (u v : Value) : ((w.setCell ⟨p, 0, none⟩ u).setCell ⟨p, 1, none⟩ v).heap[q]? = w.heap[q]? := by
  rw [Below.heap_setCell _ _ _ _ h, Below.heap_setCell _ _ _ _ h]

/-- The boxes of simplest: where they lie. -/
structure Lie (N B pA pB pC pE pO P2 : Nat) : Prop where
  dAB : pA ≠ pB
  dAC : pA ≠ pC
  dAE : pA ≠ pE
  dBC : pB ≠ pC
  dBE : pB ≠ pE
  dCE : pC ≠ pE
  lA : pA < B
  lB : pB < B
  lC : pC < B
  lE : pE < B
  oA : pO < pA
  oB : pO < pB
  oC : pO < pC
  oE : pO < pE
  hP : P2 < pO
  hN : N ≤ P2

/-- What lies in the boxes of simplest, and in its slice. -/
structure Five (w0 w : World) (N B pA pB pC pE pO P2 : Nat) (row : Option Obj) (xA xB xC xE : Int) (v : Value) (xs : List Int) : Prop where
  fA : Bx w pA xA
  fB : Bx w pB xB
  fC : Bx w pC xC
  fE : Bx w pE xE
  fO : Bx w pO 1
  r : Rowed w B v xs
  l : Below N w0 w
  p : w.heap[P2]? = row
  s : B ≤ w.heap.size

theorem Five.below {w0 w w' : World} {N B pA pB pC pE pO P2 : Nat} {row : Option Obj} {xA xB xC xE : Int} {v : Value} {xs : List Int} (h : Five w0 w N B pA pB pC pE pO P2 row xA xB xC xE v xs) (L : Lie N B pA pB pC pE pO P2) (hb : Below w.heap.size w w') :
    Five w0 w' N B pA pB pC pE pO P2 row xA xB xC xE v xs :=
  ⟨h.fA.below hb, h.fB.below hb, h.fC.below hb, h.fE.below hb, h.fO.below hb, h.r.below hb, h.l.trans (hb.mono (by have := h.s; have := L.hN; have := L.hP; have := L.oA; have := L.lA; omega)), (hb.block P2 (by have := h.s; have := L.hP; have := L.oA; have := L.lA; omega)).trans h.p, Nat.le_trans h.s hb.size⟩

theorem Five.grown {w0 w w' : World} {N B pA pB pC pE pO P2 : Nat} {row : Option Obj} {xA xB xC xE : Int} {v v' : Value} {xs ys : List Int} (h : Five w0 w N B pA pB pC pE pO P2 row xA xB xC xE v xs) (L : Lie N B pA pB pC pE pO P2)
    (hr : Rowed w' B v' ys) (hg : w.grownBy w' v.ownBlock) (hl : Limbs w w') : Five w0 w' N B pA pB pC pE pO P2 row xA xB xC xE v' ys := by
  have hb := fun g hg => (h.r.block (g := g) hg).1
  have hne : ∀ q, q < B → some q ≠ v.ownBlock := fun q hq e => by have := hb q e.symm; omega
  have h1 := L.lA; have h2 := L.lB; have h3 := L.lC; have h4 := L.lE; have h5 := L.oA; have h6 := L.hP; have h7 := L.hN; have h8 := h.s
  exact ⟨h.fA.grown hg hl (hne _ h1), h.fB.grown hg hl (hne _ h2), h.fC.grown hg hl (hne _ h3), h.fE.grown hg hl (hne _ h4), h.fO.grown hg hl (hne _ (by omega)), hr, h.l.grown hg (by omega) (fun k hk => by have := hb k hk; omega),
    (hg.block P2 (by omega) (hne _ (by omega))).trans h.p, Nat.le_trans h8 hg.size⟩

theorem Five.putA {w0 w : World} {N B pA pB pC pE pO P2 : Nat} {row : Option Obj} {xA xB xC xE y : Int} {v : Value} {xs : List Int} {s : Bool} {a : Option Addr} {n c : Nat} {z : List Int} (h : Five w0 w N B pA pB pC pE pO P2 row xA xB xC xE v xs) (L : Lie N B pA pB pC pE pO P2) (i : IntAt w s a n c z y) :
    Five w0 ((w.setCell ⟨pA, 0, none⟩ (.bool s)).setCell ⟨pA, 1, none⟩ (.slice a n c)) N B pA pB pC pE pO P2 row y xB xC xE v xs :=
  ⟨h.fA.put i, h.fB.other h.fA L.dAB.symm _ _, h.fC.other h.fA L.dAC.symm _ _, h.fE.other h.fA L.dAE.symm _ _, h.fO.other h.fA (by have := L.oA; omega) _ _, h.r.put L.lA h.fA _ _, below2 h.l (by have := L.oA; have := L.hP; have := L.hN; omega) _ _, (heap2 (by have := L.oA; have := L.hP; omega) _ _).trans h.p, by have := h.s; simpa using this⟩

theorem Five.putB {w0 w : World} {N B pA pB pC pE pO P2 : Nat} {row : Option Obj} {xA xB xC xE y : Int} {v : Value} {xs : List Int} {s : Bool} {a : Option Addr} {n c : Nat} {z : List Int} (h : Five w0 w N B pA pB pC pE pO P2 row xA xB xC xE v xs) (L : Lie N B pA pB pC pE pO P2) (i : IntAt w s a n c z y) :
    Five w0 ((w.setCell ⟨pB, 0, none⟩ (.bool s)).setCell ⟨pB, 1, none⟩ (.slice a n c)) N B pA pB pC pE pO P2 row xA y xC xE v xs :=
  ⟨h.fA.other h.fB L.dAB _ _, h.fB.put i, h.fC.other h.fB L.dBC.symm _ _, h.fE.other h.fB L.dBE.symm _ _, h.fO.other h.fB (by have := L.oB; omega) _ _, h.r.put L.lB h.fB _ _, below2 h.l (by have := L.oB; have := L.hP; have := L.hN; omega) _ _, (heap2 (by have := L.oB; have := L.hP; omega) _ _).trans h.p, by have := h.s; simpa using this⟩

theorem Five.putC {w0 w : World} {N B pA pB pC pE pO P2 : Nat} {row : Option Obj} {xA xB xC xE y : Int} {v : Value} {xs : List Int} {s : Bool} {a : Option Addr} {n c : Nat} {z : List Int} (h : Five w0 w N B pA pB pC pE pO P2 row xA xB xC xE v xs) (L : Lie N B pA pB pC pE pO P2) (i : IntAt w s a n c z y) :
    Five w0 ((w.setCell ⟨pC, 0, none⟩ (.bool s)).setCell ⟨pC, 1, none⟩ (.slice a n c)) N B pA pB pC pE pO P2 row xA xB y xE v xs :=
  ⟨h.fA.other h.fC L.dAC _ _, h.fB.other h.fC L.dBC _ _, h.fC.put i, h.fE.other h.fC L.dCE.symm _ _, h.fO.other h.fC (by have := L.oC; omega) _ _, h.r.put L.lC h.fC _ _, below2 h.l (by have := L.oC; have := L.hP; have := L.hN; omega) _ _, (heap2 (by have := L.oC; have := L.hP; omega) _ _).trans h.p, by have := h.s; simpa using this⟩

theorem Five.putE {w0 w : World} {N B pA pB pC pE pO P2 : Nat} {row : Option Obj} {xA xB xC xE y : Int} {v : Value} {xs : List Int} {s : Bool} {a : Option Addr} {n c : Nat} {z : List Int} (h : Five w0 w N B pA pB pC pE pO P2 row xA xB xC xE v xs) (L : Lie N B pA pB pC pE pO P2) (i : IntAt w s a n c z y) :
    Five w0 ((w.setCell ⟨pE, 0, none⟩ (.bool s)).setCell ⟨pE, 1, none⟩ (.slice a n c)) N B pA pB pC pE pO P2 row xA xB xC y v xs :=
  ⟨h.fA.other h.fE L.dAE _ _, h.fB.other h.fE L.dBE _ _, h.fC.other h.fE L.dCE _ _, h.fE.put i, h.fO.other h.fE (by have := L.oE; omega) _ _, h.r.put L.lE h.fE _ _, below2 h.l (by have := L.oE; have := L.hP; have := L.hN; omega) _ _, (heap2 (by have := L.oE; have := L.hP; omega) _ _).trans h.p, by have := h.s; simpa using this⟩

/-- Four integers are written into their boxes. -/
theorem four_put {w0 w : World} {N B pA pB pC pE pO P2 : Nat} {row : Option Obj} {xA xB xC xE yA yB yC yE : Int} {sA sB sC sE : Bool} {aA aB aC aE : Option Addr} {nA nB nC nE cA cB cC cE : Nat} {zA zB zC zE : List Int} {v : Value} {xs : List Int}
    (h : Five w0 w N B pA pB pC pE pO P2 row xA xB xC xE v xs) (L : Lie N B pA pB pC pE pO P2)
    (iA : IntAt w sA aA nA cA zA yA) (iB : IntAt w sB aB nB cB zB yB) (iC : IntAt w sC aC nC cC zC yC) (iE : IntAt w sE aE nE cE zE yE) :
    Five w0 ((((((((w.setCell ⟨pA, 0, none⟩ (.bool sA)).setCell ⟨pA, 1, none⟩ (.slice aA nA cA)).setCell ⟨pB, 0, none⟩ (.bool sB)).setCell ⟨pB, 1, none⟩ (.slice aB nB cB)).setCell ⟨pC, 0, none⟩ (.bool sC)).setCell ⟨pC, 1, none⟩ (.slice aC nC cC)).setCell ⟨pE, 0, none⟩ (.bool sE)).setCell ⟨pE, 1, none⟩ (.slice aE nE cE)) N B pA pB pC pE pO P2 row yA yB yC yE v xs := by
  have h1 := h.putA L iA
  have iB1 := h.fA.it iB (.bool sA) (.slice aA nA cA)
  have iC1 := h.fA.it iC (.bool sA) (.slice aA nA cA)
  have iE1 := h.fA.it iE (.bool sA) (.slice aA nA cA)
  have h2 := h1.putB L iB1
  have iC2 := h1.fB.it iC1 (.bool sB) (.slice aB nB cB)
  have iE2 := h1.fB.it iE1 (.bool sB) (.slice aB nB cB)
  have h3 := h2.putC L iC2
  have iE3 := h2.fC.it iE2 (.bool sC) (.slice aC nC cC)
  exact h3.putE L iE3

/-- append of an integer, at the list of a plain region's operations. -/
theorem wpList_append_rowed {ops : Array Oper} {rest : List Oper} {o : Oper} {a : Act} {Q : Exit → Act → World → Prop} {w : World} {B : Nat} (hgd : o.guard = none) (sl x : Operand)
    (ho : o.op = .call { callee := .builtin .append, args := #[sl, x], argTypes := #[78, 78] })
    (v : Value) (xs : List Int) (y : Int) (hs : a.eval sl = v) (W : World) (hown : Rowed W B v xs) (hWw : Below W.heap.size W w)
    (ad : Addr) (c : Nat) (s : Bool) (ao : Option Addr) (k kc : Nat) (z : List Int) (hi : IntAt w s ao k kc z y) (hx : a.eval x = .slice (some ad) 1 c) (hnews : ∀ j u, [Value.bool s, .slice ao k kc][j]? = some u → w.cell? (ad.add j) = some u)
    (hn : xs.length ≤ 1000) (hbase : B ≤ w.heap.size)
    (h : ∀ g cap w', Rowed w' B (.slice (some ⟨g, 0, none⟩) (xs.length + 1) cap) (xs ++ [y]) → w.grownBy w' v.ownBlock → (v.ownBlock = some g ∨ g = w.heap.size) → g < w'.heap.size → Limbs w w' → wpList Tryz.prog ops Q rest (a.put o.dst (.slice (some ⟨g, 0, none⟩) (xs.length + 1) cap)) w') : wpList Tryz.prog ops Q (o :: rest) a w := by
  refine wpList_plain hgd fun K hK => ?_
  obtain ⟨i0, hi0, hz0, hz1, hz2⟩ := info_parts info_Int
  obtain ⟨cs, h1, h2, h3⟩ := hown.below hWw
  obtain ⟨g, cap, w', hr, r2, r3, r4, r5, r6, r7⟩ := run_append_int (P := Tryz.prog) w 78 o.type B 31 i0 32 Tryz.underlying78 hi0 hz0 hz1 hz2 v xs.length cs h1 h2 ad c s ao k kc hnews (by unfold maxLen; omega) (by omega) hbase w.heap.size rfl
  unfold Oper.wp execOp
  simp only [ho, resolve, invoke, builtin, Sem.run_bind, Sem.run_pure, Result.andThen_ok, List.map_toArray, List.map_cons, List.map_nil, hs, hx, hr]
  refine hK _ _ (h g cap w' ⟨cs ++ [.bool s, .slice ao k kc], ?_, ?_, ?_⟩ r3 r4 r5 r7)
  · rw [List.length_append]; exact r2
  · intro g' hg'
    simp only [Value.ownBlock, Option.some.injEq] at hg'
    subst hg'
    rw [List.length_append]; exact r6
  · exact Els.snoc (hi.limbs r7) (h3.limbs r7)

end Go.Proofs.YtdfepdhflnnjpaaGreat
