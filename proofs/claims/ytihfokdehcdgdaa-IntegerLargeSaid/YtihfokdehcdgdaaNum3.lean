/- Int64 of the reference. -/
import Derived.Test.YtihfokdehcdgdaaNum2
namespace Go.Proofs.Ytihfokdehcdgdaa
open Go.RowKit
set_option autoImplicit false
set_option linter.unusedVariables false

theorem cmp_r_eq {c : Int} (w : World) (nx ny : Bool) (ao bo : Option Addr) (n m capa capb : Nat) (xs ys : List Int) (x y : Int) (hx : RefAt w nx ao n capa xs x) (hy : RefAt w ny bo m capb ys y) (hn : n ≤ 4294967296) (hm : m ≤ 4294967296) (h : cmpI x y = c) :
    Calls Try.prog 33 #[.agg #[.bool nx, .slice ao n capa], .agg #[.bool ny, .slice bo m capb]] w (RetV w (.int .i64 c)) := by
  rw [← h]
  exact rcmp_any w nx ny ao bo n m capa capb xs ys x y hx hy hn hm

set_option maxRecDepth 100000 in
theorem rint64_low (w : World) (nx : Bool) (ao : Option Addr) (n cap : Nat) (xs : List Int) (x : Int) (hx : RefAt w nx ao n cap xs x) (hn : n ≤ 4294967296) (hlow : x < -9223372036854775808) :
    Calls Try.prog 20 #[.agg #[.bool nx, .slice ao n cap]] w (RetV w (.tuple #[.int .i64 0, .bool false])) := by
  have HX := Lib.hid hx
  have hc : cmpI x (-9223372036854775808) = -1 := cmpI_lt hlow
  have HC := Lib.hid hc
  clear hx hc hlow
  go_enter Try.func20, Try.ntmps20
  go_wp2_with fail
  go_region_with (first | (go_at_call 18; refine (rnew_any _ (-9223372036854775808) (by omega) (by omega)).mono ?_; rintro e w1 ⟨n1, a1, k1, cc1, z1, rfl, hint1, hk1, hb1⟩; have hb2 : Below w.heap.size w w1 := Below.trans (by go_grown) (hb1.mono (by go_size)); have x0 : w1.cell? ⟨w.heap.size, 0, none⟩ = some (.bool nx) := (by rw [hb1.cell (by go_size)]; go_keep); have x1 : w1.cell? ⟨w.heap.size, 1, none⟩ = some (.slice ao n cap) := (by rw [hb1.cell (by go_size)]; go_keep); have HI1 := Lib.hid hint1; clear hint1) | (go_at_call 33; refine (cmp_r_eq _ nx n1 ao a1 n k1 cap cc1 xs z1 x (-9223372036854775808) (HX.out.below hb2) HI1.out hn (by omega) HC.out).mono ?_; rintro e w2 ⟨rfl, hb3⟩))
  all_goals (go_wp2_with fail; go_ret2; exact ⟨rfl, hb2.trans (hb3.mono hb2.size)⟩)
end Go.Proofs.Ytihfokdehcdgdaa
