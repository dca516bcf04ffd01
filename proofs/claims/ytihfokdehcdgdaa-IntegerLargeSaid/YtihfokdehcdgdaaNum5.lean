/- The complement: the absolute value of what differs from the sign's bits. -/
import Derived.Test.YtihfokdehcdgdaaNum4
namespace Go.Proofs.Ytihfokdehcdgdaa
open Go.RowKit
set_option autoImplicit false
set_option linter.unusedVariables false

/-- x, and of a number below 0 -1 - x. -/
def cpl (x : Int) : Int := if x < 0 then -1 - x else x

theorem complement_any (w : World) (nx : Bool) (ao : Option Addr) (n cap : Nat) (xs : List Int) (x : Int) (hx : IntAt w nx ao n cap xs x) (hn : n ≤ 34359738368) :
    Calls Try.prog 78 #[.agg #[.bool nx, .slice ao n cap]] w (RetNat w (cpl x) n) := by
  have hv0 := val_nonneg hx.lim
  cases nx with
  | false =>
    have hc : cpl x = val xs := by unfold cpl; rw [hx.val]; simp [sgn]; omega
    have HC := Lib.hid hc
    have HK : Hid (∀ w1, Below w.heap.size w w1 → _) := Lib.hid (fun w1 hb => clone_any w1 ao n cap xs (hx.sl.below hb) hn)
    have HL := Lib.hid hx.lim
    have HT := Lib.hid hx.top
    clear hx hc hv0
    go_enter Try.func78, Try.ntmps78
    go_wp2_with fail
    refine (HK.out _ (by go_grown)).mono ?_
    rintro e w1 ⟨a1, c1, rfl, hown, hb1⟩
    have HO := Lib.hid hown
    have hb2 : Below w.heap.size w w1 := Below.trans (by go_grown) (hb1.mono (by go_size))
    clear hown hb1
    go_wp2_with fail
    go_ret
    exact ⟨a1, n, c1, xs, rfl, Own.mono HO.out (by go_size), HL.out, HT.out, HC.out.symm, Nat.le_refl _, hb2⟩
  | true =>
    have hne := hx.sign rfl
    have hpos := val_pos_of_top hx.lim hx.top hne
    have hp := pow_pos (xs.length - 1)
    have hlen := hx.sl.len
    have hn1 : 1 ≤ n := by
      rcases xs with _ | ⟨z, zs⟩
      · exact absurd rfl hne
      · simp at hlen; omega
    have hc : cpl x = val xs - 1 := by unfold cpl; rw [hx.val]; simp [sgn]; omega
    have HC := Lib.hid hc
    have HX := Lib.hid hx.sl
    have HL := Lib.hid hx.lim
    have hge : 1 ≤ val xs := by omega
    clear hx hne hpos hp hlen hc hv0
    go_enter Try.func78, Try.ntmps78
    go_wp2_with fail
    have hone : Sl ((w.alloc (.cells #[.bool true, .slice ao n cap] 28)).alloc (.cells #[.int .u32 1] 99)) (some ⟨w.heap.size + 1, 0, none⟩) 1 1 [1] := by
      refine ⟨rfl, Nat.le_refl _, by unfold maxLen; omega, fun h => by simp at h, .inr ⟨_, _, rfl, ?_⟩⟩
      intro i hi
      obtain rfl : i = 0 := by simp at hi; omega
      exact cell_of_row _ (w.heap.size + 1) 0 _ 99 (0, 0) (heap_alloc2 w _ _).1
    refine (difference_any _ _ _ n 1 cap 1 xs [1] (HX.out.below (by go_grown)) hone HL.out (by intro z hz; simp at hz; omega) hn hn1 (by simpa [val] using hge)).mono ?_
    rintro e w1 ⟨a1, k1, c1, z1, rfl, hown, hl1, ht1, hv1, hk1, hb1⟩
    have HO := Lib.hid hown
    have HV := Lib.hid hv1
    have hb2 : Below w.heap.size w w1 := Below.trans (by go_grown) (hb1.mono (by go_size))
    clear hown hb1 hv1 hone
    go_wp2_with fail
    go_ret
    exact ⟨a1, k1, c1, z1, rfl, Own.mono HO.out (by go_size), hl1, ht1, by rw [HV.out, HC.out]; simp [val], hk1, hb2⟩
end Go.Proofs.Ytihfokdehcdgdaa
