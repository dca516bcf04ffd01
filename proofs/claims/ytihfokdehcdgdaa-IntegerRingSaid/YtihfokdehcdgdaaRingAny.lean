/- IntegerRing: long numbers and short ones. -/
import Derived.Test.YtihfokdehcdgdaaRing4
namespace Go.Proofs.Ytihfokdehcdgdaa
open Go.RowKit
set_option autoImplicit false
set_option linter.unusedVariables false

theorem ring_any (w : World) (nx ny nz : Bool) (ax ay az : Option Addr) (n1 c1 n2 c2 n3 c3 : Nat) (zx zy zz : List Int) (hx : Sl w ax n1 c1 zx) (lx : Lim zx) (hy : Sl w ay n2 c2 zy) (ly : Lim zy) (hz : Sl w az n3 c3 zz) (lz : Lim zz) :
    Calls Try.prog 10 #[.agg #[.bool nx, .slice ax n1 c1], .agg #[.bool ny, .slice ay n2 c2], .agg #[.bool nz, .slice az n3 c3]] w (RetV w (.bool true)) := by
  by_cases h : n1 ≤ 8 ∧ n2 ≤ 8 ∧ n3 ≤ 8
  · exact ring_short w nx ny nz ax ay az n1 c1 n2 c2 n3 c3 zx zy zz hx lx hy ly hz lz h
  · exact ring_long w nx ny nz ax ay az n1 c1 n2 c2 n3 c3 h

end Go.Proofs.Ytihfokdehcdgdaa
