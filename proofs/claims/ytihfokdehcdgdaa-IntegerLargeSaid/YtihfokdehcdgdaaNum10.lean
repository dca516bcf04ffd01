/- The reference's Length. -/
import Derived.Test.YtihfokdehcdgdaaNum9
namespace Go.Proofs.Ytihfokdehcdgdaa
open Go.RowKit
set_option autoImplicit false
set_option linter.unusedVariables false

theorem rlength_any (w : World) (nx : Bool) (ao : Option Addr) (n cap : Nat) (xs : List Int) (x : Int) (hx : RefAt w nx ao n cap xs x) (hn : n ≤ 4294967296) :
    Calls Try.prog 27 #[.agg #[.bool nx, .slice ao n cap]] w (RetV w (.int .i64 (blen (cpl x).toNat : Int))) := by
  have h0 := dval_nonneg (r := 65536) (by omega) hx.lim
  have HX := Lib.hid hx
  cases nx with
  | false =>
    have hc : (cpl x).toNat = x.natAbs := by unfold cpl; rw [hx.val]; simp [sgn]; rw [if_neg (by omega)]; omega
    have HC := Lib.hid hc
    clear hx hc h0
    go_enter Try.func27, Try.ntmps27
    go_wp2_with fail
    refine (rwidth_any _ false ao n cap xs x (HX.out.below (by go_grown)) (by omega)).mono ?_
    rintro e w1 ⟨rfl, hb1⟩
    have hb2 : Below w.heap.size w w1 := Below.trans (by go_grown) (hb1.mono (by go_size))
    clear hb1
    go_wp2_with fail
    go_ret
    exact ⟨congrArg (fun x => Ending.returned (.int .i64 (blen x : Int))) HC.out.symm, hb2⟩
  | true =>
    have hne := hx.sign rfl
    have hpos := dval_pos_of_top (r := 65536) (by omega) hx.lim hx.top hne
    have hp := rpow_pos (r := 65536) (by omega) (xs.length - 1)
    have hc : (cpl x).toNat = (x + 1).natAbs := by
      have hneg : x < 0 := by rw [hx.val]; simp [sgn]; omega
      unfold cpl
      rw [if_pos hneg]
      omega
    have HC := Lib.hid hc
    clear hx hc h0 hne hpos hp
    go_enter Try.func27, Try.ntmps27
    go_wp2_with fail
    go_region_held3 (fun w' => w'.cell? ⟨w.heap.size, 0, none⟩ = some (.bool true) ∧ w'.cell? ⟨w.heap.size, 1, none⟩ = some (.slice ao n cap)) (((try dsimp only); (repeat' apply And.intro) <;> (first | (go_keep; done) | (go_split_ands; rw [hb1.cell (by first | (dsimp only; omega) | go_size)]; assumption) | (go_split_ands; rw [hb3.cell (by first | (dsimp only; omega) | go_size)]; assumption) | (go_split_ands; rw [hb5.cell (by first | (dsimp only; omega) | go_size)]; assumption))))
      (first | (go_at_call 79; refine (rwidth_any _ n3 a3 k3 cc3 z3 (x + 1) HI3.out (by omega)).mono ?_; rintro e w3 ⟨rfl, hb5⟩; have hb6 : Below w.heap.size w w3 := hb4.trans (hb5.mono hb4.size)) | (go_at_call 39; refine (radd_any _ true n1 ao a1 n k1 cap cc1 xs z1 x 1 (HX.out.below hb2) HI1.out hn (by omega)).mono ?_; rintro e w2 ⟨n3, a3, k3, cc3, z3, rfl, hint3, hk3, hb3⟩; have hz2 := hb3.size; have hb4 : Below w.heap.size w w2 := hb2.trans (hb3.mono hb2.size); have HI3 := Lib.hid hint3; clear hint3) | (go_at_call 18; refine (rnew_any _ 1 (by omega) (by omega)).mono ?_; rintro e w1 ⟨n1, a1, k1, cc1, z1, rfl, hint1, hk1, hb1⟩; have hb2 : Below w.heap.size w w1 := Below.trans (by go_grown) (hb1.mono (by go_size)); have hz1 : w.heap.size + 1 ≤ w1.heap.size := Nat.le_trans (by go_size) hb1.size; have HI1 := Lib.hid hint1; clear hint1))
    go_wp2_with fail
    go_ret
    exact ⟨congrArg (fun x => Ending.returned (.int .i64 (blen x : Int))) HC.out.symm, hb6⟩
end Go.Proofs.Ytihfokdehcdgdaa
