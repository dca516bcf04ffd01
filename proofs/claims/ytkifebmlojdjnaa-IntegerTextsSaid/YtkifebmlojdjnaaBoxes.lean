/- Small lemmas on boxes of numbers. -/
import Derived.Test.YtkifebmlojdjnaaMade
namespace Go.Proofs.Ytkifebmlojdjnaa
open Go.RowKit
set_option autoImplicit false
set_option linter.unusedVariables false

/-- An integer in the box at block p. -/
structure BV where
  p : Nat
  neg : Bool
  ao : Option Addr
  n : Nat
  cap : Nat
  zs : List Int
  x : Int

/-- A box, and the integer in it. -/
structure BAt (w : World) (v : BV) : Prop where
  c0 : w.cell? ⟨v.p, 0, none⟩ = some (.bool v.neg)
  c1 : w.cell? ⟨v.p, 1, none⟩ = some (.slice v.ao v.n v.cap)
  it : IntAt w v.neg v.ao v.n v.cap v.zs v.x
  small : v.n ≤ 100000
  lt : v.p < w.heap.size

theorem BAt.below {w w' : World} {v : BV} (h : BAt w v) (hb : Below w.heap.size w w') : BAt w' v :=
  ⟨(hb.cell (p := ⟨v.p, 0, none⟩) h.lt).trans h.c0, (hb.cell (p := ⟨v.p, 1, none⟩) h.lt).trans h.c1, h.it.below hb, h.small, Nat.lt_of_lt_of_le h.lt hb.size⟩

def Vars (w : World) (l : List BV) : Prop := ∀ v ∈ l, BAt w v

theorem Vars.below {w w' : World} {l : List BV} (h : Vars w l) (hb : Below w.heap.size w w') : Vars w' l := fun v hv => (h v hv).below hb
end Go.Proofs.Ytkifebmlojdjnaa
