/- Small lemmas on boxes of numbers. -/
import Derived.Test.YtkifebmlojdjnaaDoorMade
namespace Go.Proofs.YtkifebmlojdjnaaDoor
open Go.RowKit
set_option autoImplicit false
set_option linter.unusedVariables false

/-- An integer in the box at block p. -/
structure BV where
  p : Nat
  neg : Bool
  ao : Option Addr
  n : Nat
  cap : Nat
  zs : List Int
  x : Int

/-- A box, and the integer in it. -/
structure BAt (w : World) (v : BV) : Prop where
  c0 : w.cell? ⟨v.p, 0, none⟩ = some (.bool v.neg)
  c1 : w.cell? ⟨v.p, 1, none⟩ = some (.slice v.ao v.n v.cap)
  it : IntAt w v.neg v.ao v.n v.cap v.zs v.x
  small : v.n ≤ 2000000
  lt : v.p < w.heap.size

theorem BAt.below {w w' : World} {v : BV} (h : BAt w v) (hb : Below w.heap.size w w') : BAt w' v :=
  ⟨(hb.cell (p := ⟨v.p, 0, none⟩) h.lt).trans h.c0, (hb.cell (p := ⟨v.p, 1, none⟩) h.lt).trans h.c1, h.it.below hb, h.small, Nat.lt_of_lt_of_le h.lt hb.size⟩

def Vars (w : World) (l : List BV) : Prop := ∀ v ∈ l, BAt w v

theorem Vars.below {w w' : World} {l : List BV} (h : Vars w l) (hb : Below w.heap.size w w') : Vars w' l := fun v hv => (h v hv).below hb

theorem Vars.push {w : World} {l : List BV} {v : BV} (h : Vars w l) (hv : BAt w v) : Vars w (v :: l) := by
  intro u hu
  rcases List.mem_cons.1 hu with rfl | hu
  · exact hv
  · exact h u hu

theorem BAt.new {w : World} {neg : Bool} {ao : Option Addr} {n cap : Nat} {zs : List Int} {x : Int} {t : TypeId} (h : IntAt w neg ao n cap zs x) (hn : n ≤ 2000000) :
    BAt (w.alloc (.cells #[.bool neg, .slice ao n cap] t)) ⟨w.heap.size, neg, ao, n, cap, zs, x⟩ := by
  obtain ⟨a, b, _, _⟩ := blk2 (heap_alloc_new w (.cells #[.bool neg, .slice ao n cap] t))
  exact ⟨a, b, h.below ((Below.refl _ _).alloc (Nat.le_refl _) _), hn, by simp⟩

theorem neg_iff2 {w : World} {neg : Bool} {ao : Option Addr} {n cap : Nat} {zs : List Int} {x : Int} (h : IntAt w neg ao n cap zs x) : neg = decide (x < 0) := by
  have h0 := val_nonneg h.lim
  have hv := h.val
  cases neg with
  | false => rw [hv]; simp [sgn]; omega
  | true =>
    have h1 := val_pos_of_top h.lim h.top (h.sign rfl)
    have h2 := pow_pos (zs.length - 1)
    rw [hv]; simp [sgn]; omega

theorem nums_one {w : World} {b : Nat} {x : Num} {t : TypeId} (h : w.heap[b]? = some (.cells #[.bool x.neg, .slice x.ao x.n x.cap] t (0, 0))) : Nums w b [x] := by
  intro i u hu
  match i, hu with
  | 0, hu =>
    simp at hu; subst hu
    exact ⟨cell_of_row _ b 0 _ t (0, 0) h, cell_of_row _ b 1 _ t (0, 0) h⟩

theorem short_one (w : World) (b : Nat) (x : Num) (most : Nat) (h : w.heap[b]? = some (.cells #[.bool x.neg, .slice x.ao x.n x.cap] 24 (0, 0))) :
    Calls Tryd.prog 4 #[.int .i64 most, .slice (some ⟨b, 0, none⟩) 1 1] w (RetV w (.bool (decide (x.n ≤ most)))) := by
  have := short_any w b 1 [x] most (nums_one h) (Array.getElem?_eq_some_iff.1 h).1 (by simp) (by omega)
  simpa using this

theorem same_yes {w : World} {nx ny : Bool} {ao bo : Option Addr} {n m capa capb : Nat} {xs ys : List Int} {x y : Int} (hx : IntAt w nx ao n capa xs x) (hy : IntAt w ny bo m capb ys y) (h : x = y) :
    Calls Tryd.prog 13 #[.agg #[.bool nx, .slice ao n capa], .agg #[.bool ny, .slice bo m capb]] w (RetV w (.bool true)) := by
  have := same_int w nx ny ao bo n m capa capb xs ys x y hx hy
  rwa [decide_eq_true h] at this
end Go.Proofs.YtkifebmlojdjnaaDoor
