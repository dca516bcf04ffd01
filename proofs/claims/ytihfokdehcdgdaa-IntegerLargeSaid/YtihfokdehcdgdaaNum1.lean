/- Odd, join, Int64 of the program's integers. -/
import Derived.Test.YtihfokdehcdgdaaOf
import Derived.WalkSmall
namespace Go.Proofs.Ytihfokdehcdgdaa
open Go.RowKit
set_option autoImplicit false
set_option linter.unusedVariables false

theorem and_one_u32 (E : Int) (h0 : 0 ≤ E) (h1 : E ≤ 4294967295) : bits BinOp.and IntKind.u32 E 1 = E % 2 := by
  have h := u32_and_nat E.toNat 1 (by omega) (by omega)
  rw [Nat.and_one_is_mod, Int.toNat_of_nonneg h0] at h
  have h2 : ((E.toNat % 2 : Nat) : Int) = E % 2 := by omega
  exact h.trans h2

theorem odd_any (w : World) (nx : Bool) (ao : Option Addr) (n capa : Nat) (xs : List Int) (x : Int) (hx : IntAt w nx ao n capa xs x) :
    Calls Try.prog 24 #[.agg #[.bool nx, .slice ao n capa]] w (RetV w (.bool (decide (x % 2 = 1)))) := by
  have hlen := hx.sl.len
  by_cases hn : n = 0
  · have hxs : xs = [] := List.eq_nil_of_length_eq_zero (by omega)
    have hx0 : decide (x % 2 = 1) = false := by rw [hx.val, hxs]; cases nx <;> simp [sgn, val]
    rw [hx0]
    subst hn
    clear hlen hx hxs hx0
    go_enter Try.func24, Try.ntmps24
    go_wp2
    go_ret
    exact ⟨rfl, by go_grown⟩
  · obtain ⟨b, o, rfl, hc⟩ := hx.sl.cells.at (k := 0) (by omega)
    have hd := Lim_getD hx.lim 0
    have hv : val xs = xs.getD 0 0 + 2 * (2147483648 * val (xs.drop 1)) := by
      have := drop_getD (a := xs) (i := 0) (by omega)
      rw [List.drop_zero, Nat.zero_add] at this
      conv => lhs; rw [this]
      simp only [val]
      omega
    have hod := odd_val (neg := nx) hv hd.1
    rw [← hx.val] at hod
    obtain ⟨d, hdd⟩ : ∃ d, xs.getD 0 0 = d := ⟨_, rfl⟩
    rw [hdd] at hc hd hod
    simp only [Nat.add_zero] at hc
    rw [hod]
    have hcap := hx.sl.le
    have hmx : capa ≤ 9223372036854775807 := by have := hx.sl.most; unfold maxLen at this; omega
    obtain ⟨hd0, hd1⟩ := hd
    have hb := World.block_lt_of_cell? w _ hc
    have hn0 : (0 : Int) < n := by omega
    have hne := World.new_ne w _ hc
    have hand := and_one_u32 d hd0 hd1
    clear hx hlen hdd hod hv
    go_enter Try.func24, Try.ntmps24
    go_wp2
    go_ret
    exact ⟨rfl, by go_grown⟩

theorem join_any (w : World) (ao : Option Addr) (n cap : Nat) (zs : List Int) (h : Sl w ao n cap zs) (lz : Lim zs) :
    Calls Try.prog 73 #[.slice ao n cap] w (RetQ w (.int .u64 (zs.getD 1 0 * 4294967296 + zs.getD 0 0))) := by
  have l1 := Lim_getD lz 1
  have l0 := Lim_getD lz 0
  obtain ⟨a, ha⟩ : ∃ a, zs.getD 1 0 = a := ⟨_, rfl⟩
  obtain ⟨b, hb⟩ : ∃ b, zs.getD 0 0 = b := ⟨_, rfl⟩
  rw [ha] at l1
  rw [hb] at l0
  rw [ha, hb]
  have HA := Lib.hid ha
  have HB := Lib.hid hb
  have hor := or_low a b l1.1 l1.2 l0.1 l0.2
  have H1 : Hid (Calls Try.prog 111 #[.slice ao n cap, .int .i64 1] w fun e w' => e = .returned (.int .u32 a) ∧ w = w') := Lib.hid (by
    have := limb_any w ao n cap zs 1 h.len h.cells (by omega)
    rw [show Int.toNat 1 = 1 from rfl, ha] at this
    exact this)
  have H0 : Hid (Calls Try.prog 111 #[.slice ao n cap, .int .i64 0] w fun e w' => e = .returned (.int .u32 b) ∧ w = w') := Lib.hid (by
    have := limb_any w ao n cap zs 0 h.len h.cells (by omega)
    rw [show Int.toNat 0 = 0 from rfl, hb] at this
    exact this)
  obtain ⟨l10, l11⟩ := l1
  obtain ⟨l00, l01⟩ := l0
  clear ha hb h
  go_enter Try.func73, Try.ntmps73
  go_wp2_with fail
  refine H1.out.mono ?_
  rintro e w1 ⟨rfl, rfl⟩
  go_wp2_with fail
  refine H0.out.mono ?_
  rintro e w2 ⟨rfl, rfl⟩
  go_wp2_with fail
  go_ret
  exact ⟨rfl, 0, rfl⟩
end Go.Proofs.Ytihfokdehcdgdaa
