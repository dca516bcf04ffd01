/- Int64 of the program's integers. -/
import Derived.Test.YtihfokdehcdgdaaNum1
namespace Go.Proofs.Ytihfokdehcdgdaa
open Go.RowKit
set_option autoImplicit false
set_option linter.unusedVariables false

def i64ok (x : Int) : Bool := decide (-9223372036854775808 ≤ x ∧ x ≤ 9223372036854775807)
def i64of (x : Int) : Int := if i64ok x then x else 0

theorem val_two {zs : List Int} (h : zs.length ≤ 2) : zs.getD 1 0 * 4294967296 + zs.getD 0 0 = val zs := by
  match zs, h with
  | [], _ => rfl
  | [a], _ => simp [val]
  | [a, b], _ => simp [val]; omega

theorem int64_any (w : World) (nx : Bool) (ao : Option Addr) (n cap : Nat) (xs : List Int) (x : Int) (hx : IntAt w nx ao n cap xs x) :
    Calls Try.prog 19 #[.agg #[.bool nx, .slice ao n cap]] w (RetV w (.tuple #[.int .i64 (i64of x), .bool (i64ok x)])) := by
  have hlen := hx.sl.len
  have h0 := val_nonneg hx.lim
  by_cases hn : 2 < n
  · have hne : xs ≠ [] := by intro h; rw [h] at hlen; simp at hlen; omega
    have hpos := val_pos_of_top hx.lim hx.top hne
    have hp := pow_le (show 2 ≤ xs.length - 1 by omega)
    have hok : i64ok x = false := by
      unfold i64ok
      rw [hx.val]
      cases nx <;> simp [sgn] <;> omega
    unfold i64of
    rw [hok]
    have hn2 : (2 : Int) < n := by omega
    clear hx hlen h0 hne hpos hp hok
    go_enter Try.func19, Try.ntmps19
    go_wp2_with fail
    go_ret2
    exact ⟨rfl, by go_grown⟩
  · have hj := fun w1 (hb : Below w.heap.size w w1) => join_any w1 ao n cap xs (hx.sl.below hb) hx.lim
    rw [val_two (by omega)] at hj
    obtain ⟨s, hs⟩ : ∃ s, val xs = s := ⟨_, rfl⟩
    rw [hs] at hj h0
    have HJ := Lib.hid hj
    have hxv := hx.val
    rw [hs] at hxv
    have hn2 : ¬ (2 : Int) < n := by omega
    have hub := val_lt hx.lim
    have hpl := pow_le (show xs.length ≤ 2 by omega)
    have hub2 : s ≤ 18446744073709551615 := by omega
    clear hj hx hlen hs hub hpl
    cases nx
    · by_cases hr : s < 9223372036854775808
      · have hok : i64ok x = true := by unfold i64ok; rw [hxv]; simp [sgn]; omega
        have hv : i64of x = s := by unfold i64of; rw [hok, hxv]; simp [sgn]
        rw [hv, hok]
        have hw : IntKind.i64.wrap s = s := by rw [IntKind.wrap_i64]; omega
        clear hok hv hxv
        go_enter Try.func19, Try.ntmps19
        go_wp2_with fail
        refine (HJ.out _ (by go_grown)).mono ?_
        rintro e w1 ⟨rfl, q, rfl⟩
        go_wp2_with fail
        go_ret2
        exact ⟨rfl, below_drewN (by go_grown) q⟩
      · have hok : i64ok x = false := by unfold i64ok; rw [hxv]; simp [sgn]; omega
        unfold i64of
        rw [hok]
        clear hok hxv
        go_enter Try.func19, Try.ntmps19
        go_wp2_with fail
        refine (HJ.out _ (by go_grown)).mono ?_
        rintro e w1 ⟨rfl, q, rfl⟩
        go_wp2_with fail
        go_ret2
        exact ⟨rfl, below_drewN (by go_grown) q⟩
    · by_cases hr : s ≤ 9223372036854775808
      · have hok : i64ok x = true := by unfold i64ok; rw [hxv]; simp [sgn]; omega
        have hv : i64of x = -s := by unfold i64of; rw [hok, hxv]; simp [sgn]
        rw [hv, hok]
        have hw : IntKind.i64.wrap (IntKind.u64.wrap (-s)) = -s := by rw [IntKind.wrap_u64, IntKind.wrap_i64]; omega
        clear hok hv hxv
        go_enter Try.func19, Try.ntmps19
        go_wp2_with fail
        refine (HJ.out _ (by go_grown)).mono ?_
        rintro e w1 ⟨rfl, q, rfl⟩
        go_wp2_with fail
        go_ret2
        exact ⟨rfl, below_drewN (by go_grown) q⟩
      · have hok : i64ok x = false := by unfold i64ok; rw [hxv]; simp [sgn]; omega
        unfold i64of
        rw [hok]
        clear hok hxv
        go_enter Try.func19, Try.ntmps19
        go_wp2_with fail
        refine (HJ.out _ (by go_grown)).mono ?_
        rintro e w1 ⟨rfl, q, rfl⟩
        go_wp2_with fail
        go_ret2
        exact ⟨rfl, below_drewN (by go_grown) q⟩
end Go.Proofs.Ytihfokdehcdgdaa
