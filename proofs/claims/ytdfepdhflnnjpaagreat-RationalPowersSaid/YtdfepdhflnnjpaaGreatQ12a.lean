/- Contract of three elements. -/
import Derived.Test.YtdfepdhflnnjpaaGreatQ10
namespace Go.Proofs.YtdfepdhflnnjpaaGreat
open Go.RowKit
set_option autoImplicit false
set_option linter.unusedVariables false

/-- A block with an integer. -/
structure IBox (w : World) (p : Nat) (neg : Bool) (ao : Option Addr) (n cap : Nat) (zs : List Int) (x : Int) : Prop where
  row : w.heap[p]? = some (.cells #[.bool neg, .slice ao n cap] 31 (0, 0))
  it : IntAt w neg ao n cap zs x
theorem IBox.below {w w' : World} {p : Nat} {neg : Bool} {ao : Option Addr} {n cap : Nat} {zs : List Int} {x : Int} (h : IBox w p neg ao n cap zs x) (hb : Below w.heap.size w w') : IBox w' p neg ao n cap zs x :=
  ⟨(hb.block _ (Array.getElem?_eq_some_iff.1 h.row).1).trans h.row, h.it.below hb⟩
theorem IBox.put {w : World} {p : Nat} {neg a : Bool} {ao b : Option Addr} {n cap c d : Nat} {zs : List Int} {x : Int} (h : IntAt w neg ao n cap zs x) (hr : w.heap[p]? = some (.cells #[.bool a, .slice b c d] 31 (0, 0))) :
    IBox ((w.setCell ⟨p, 0, none⟩ (.bool neg)).setCell ⟨p, 1, none⟩ (.slice ao n cap)) p neg ao n cap zs x :=
  ⟨row_stored hr, h.stored hr _ _⟩
theorem IBox.other {w : World} {p q : Nat} {neg a : Bool} {ao b : Option Addr} {n cap c d : Nat} {zs : List Int} {x : Int} (h : IBox w p neg ao n cap zs x) (hr : w.heap[q]? = some (.cells #[.bool a, .slice b c d] 31 (0, 0))) (hpq : p ≠ q) (u v : Value) :
    IBox ((w.setCell ⟨q, 0, none⟩ u).setCell ⟨q, 1, none⟩ v) p neg ao n cap zs x :=
  ⟨by rw [Below.heap_setCell _ _ _ _ hpq, Below.heap_setCell _ _ _ _ hpq]; exact h.row, h.it.stored hr u v⟩

/-- Three integers in a row. -/
structure Row3 (w : World) (b : Nat) (s0 : Bool) (a0 : Option Addr) (m0 k0 : Nat) (z0 : List Int) (x0 : Int) (s1 : Bool) (a1 : Option Addr) (m1 k1 : Nat) (z1 : List Int) (x1 : Int) (s2 : Bool) (a2 : Option Addr) (m2 k2 : Nat) (z2 : List Int) (x2 : Int) : Prop where
  c0 : w.cell? ⟨b, 0, none⟩ = some (.bool s0)
  c1 : w.cell? ⟨b, 1, none⟩ = some (.slice a0 m0 k0)
  c2 : w.cell? ⟨b, 2, none⟩ = some (.bool s1)
  c3 : w.cell? ⟨b, 3, none⟩ = some (.slice a1 m1 k1)
  c4 : w.cell? ⟨b, 4, none⟩ = some (.bool s2)
  c5 : w.cell? ⟨b, 5, none⟩ = some (.slice a2 m2 k2)
  i0 : IntAt w s0 a0 m0 k0 z0 x0
  i1 : IntAt w s1 a1 m1 k1 z1 x1
  i2 : IntAt w s2 a2 m2 k2 z2 x2
  lt : b < w.heap.size
theorem Row3.below {w w' : World} {b : Nat} {s0 : Bool} {a0 : Option Addr} {m0 k0 : Nat} {z0 : List Int} {x0 : Int} {s1 : Bool} {a1 : Option Addr} {m1 k1 : Nat} {z1 : List Int} {x1 : Int} {s2 : Bool} {a2 : Option Addr} {m2 k2 : Nat} {z2 : List Int} {x2 : Int}
    (h : Row3 w b s0 a0 m0 k0 z0 x0 s1 a1 m1 k1 z1 x1 s2 a2 m2 k2 z2 x2) (hb : Below w.heap.size w w') : Row3 w' b s0 a0 m0 k0 z0 x0 s1 a1 m1 k1 z1 x1 s2 a2 m2 k2 z2 x2 :=
  ⟨(hb.cell (p := ⟨b, 0, none⟩) h.lt).trans h.c0, (hb.cell (p := ⟨b, 1, none⟩) h.lt).trans h.c1, (hb.cell (p := ⟨b, 2, none⟩) h.lt).trans h.c2, (hb.cell (p := ⟨b, 3, none⟩) h.lt).trans h.c3, (hb.cell (p := ⟨b, 4, none⟩) h.lt).trans h.c4, (hb.cell (p := ⟨b, 5, none⟩) h.lt).trans h.c5, h.i0.below hb, h.i1.below hb, h.i2.below hb, Nat.lt_of_lt_of_le h.lt hb.size⟩


end Go.Proofs.YtdfepdhflnnjpaaGreat
