/- Bit1, Bit2, Boo5, Boo6 in one text. -/
import Derived.Test.YtkifebmlojdjnaaBooA
import Derived.Test.YtkifebmlojdjnaaOf
import Derived.Test.YtkifebmlojdjnaaAwakes
import Derived.Test.YtkifebmlojdjnaaBitsA
namespace Go.Proofs.Ytkifebmlojdjnaa
open Go.RowKit
set_option autoImplicit false
set_option linter.unusedVariables false

theorem neg_iff {w : World} {neg : Bool} {ao : Option Addr} {n cap : Nat} {zs : List Int} {x : Int} (h : RefAt w neg ao n cap zs x) : neg = decide (x < 0) := by
  have h0 := dval_nonneg (r := 65536) (by omega) h.lim
  cases neg with
  | false => rw [h.val]; simp [sgn]; omega
  | true =>
    have h1 := dval_pos_of_top (r := 65536) (by omega) h.lim h.top (h.sign rfl)
    have h2 := rpow_pos (r := 65536) (by omega) (zs.length - 1)
    rw [h.val]; simp [sgn]; omega
end Go.Proofs.Ytkifebmlojdjnaa
