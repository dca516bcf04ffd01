/- Num1, Num2, Num3, Num4, Num5 in one text. -/
import Derived.Test.YtpakfknacmcohaaOf
import Derived.WalkSmall
namespace Go.Proofs.Ytpakfknacmcohaa
open Go.RowKit
set_option autoImplicit false
set_option linter.unusedVariables false

theorem and_one_u32 (E : Int) (h0 : 0 ≤ E) (h1 : E ≤ 4294967295) : bits BinOp.and IntKind.u32 E 1 = E % 2 := by
  have h := u32_and_nat E.toNat 1 (by omega) (by omega)
  rw [Nat.and_one_is_mod, Int.toNat_of_nonneg h0] at h
  have h2 : ((E.toNat % 2 : Nat) : Int) = E % 2 := by omega
  exact h.trans h2

theorem odd_any (w : World) (nx : Bool) (ao : Option Addr) (n capa : Nat) (xs : List Int) (x : Int) (hx : IntAt w nx ao n capa xs x) :
    Calls Try.prog 24 #[.agg #[.bool nx, .slice ao n capa]] w (RetV w (.bool (decide (x % 2 = 1)))) := by
  have hlen := hx.sl.len
  by_cases hn : n = 0
  · have hxs : xs = [] := List.eq_nil_of_length_eq_zero (by omega)
    have hx0 : decide (x % 2 = 1) = false := by rw [hx.val, hxs]; cases nx <;> simp [sgn, val]
    rw [hx0]
    subst hn
    clear hlen hx hxs hx0
    go_enter Try.func24, Try.ntmps24
    go_wp2
    go_ret
    exact ⟨rfl, by go_grown⟩
  · obtain ⟨b, o, rfl, hc⟩ := hx.sl.cells.at (k := 0) (by omega)
    have hd := Lim_getD hx.lim 0
    have hv : val xs = xs.getD 0 0 + 2 * (2147483648 * val (xs.drop 1)) := by
      have := drop_getD (a := xs) (i := 0) (by omega)
      rw [List.drop_zero, Nat.zero_add] at this
      conv => lhs; rw [this]
      simp only [val]
      omega
    have hod := odd_val (neg := nx) hv hd.1
    rw [← hx.val] at hod
    obtain ⟨d, hdd⟩ : ∃ d, xs.getD 0 0 = d := ⟨_, rfl⟩
    rw [hdd] at hc hd hod
    simp only [Nat.add_zero] at hc
    rw [hod]
    have hcap := hx.sl.le
    have hmx : capa ≤ 9223372036854775807 := by have := hx.sl.most; unfold maxLen at this; omega
    obtain ⟨hd0, hd1⟩ := hd
    have hb := World.block_lt_of_cell? w _ hc
    have hn0 : (0 : Int) < n := by omega
    have hne := World.new_ne w _ hc
    have hand := and_one_u32 d hd0 hd1
    clear hx hlen hdd hod hv
    go_enter Try.func24, Try.ntmps24
    go_wp2
    go_ret
    exact ⟨rfl, by go_grown⟩

theorem join_any (w : World) (ao : Option Addr) (n cap : Nat) (zs : List Int) (h : Sl w ao n cap zs) (lz : Lim zs) :
    Calls Try.prog 73 #[.slice ao n cap] w (RetQ w (.int .u64 (zs.getD 1 0 * 4294967296 + zs.getD 0 0))) := by
  have l1 := Lim_getD lz 1
  have l0 := Lim_getD lz 0
  obtain ⟨a, ha⟩ : ∃ a, zs.getD 1 0 = a := ⟨_, rfl⟩
  obtain ⟨b, hb⟩ : ∃ b, zs.getD 0 0 = b := ⟨_, rfl⟩
  rw [ha] at l1
  rw [hb] at l0
  rw [ha, hb]
  have HA := Lib.hid ha
  have HB := Lib.hid hb
  have hor := or_low a b l1.1 l1.2 l0.1 l0.2
  have H1 : Hid (Calls Try.prog 111 #[.slice ao n cap, .int .i64 1] w fun e w' => e = .returned (.int .u32 a) ∧ w = w') := Lib.hid (by
    have := limb_any w ao n cap zs 1 h.len h.cells (by omega)
    rw [show Int.toNat 1 = 1 from rfl, ha] at this
    exact this)
  have H0 : Hid (Calls Try.prog 111 #[.slice ao n cap, .int .i64 0] w fun e w' => e = .returned (.int .u32 b) ∧ w = w') := Lib.hid (by
    have := limb_any w ao n cap zs 0 h.len h.cells (by omega)
    rw [show Int.toNat 0 = 0 from rfl, hb] at this
    exact this)
  obtain ⟨l10, l11⟩ := l1
  obtain ⟨l00, l01⟩ := l0
  clear ha hb h
  go_enter Try.func73, Try.ntmps73
  go_wp2_with fail
  refine H1.out.mono ?_
  rintro e w1 ⟨rfl, rfl⟩
  go_wp2_with fail
  refine H0.out.mono ?_
  rintro e w2 ⟨rfl, rfl⟩
  go_wp2_with fail
  go_ret
  exact ⟨rfl, 0, rfl⟩

def i64ok (x : Int) : Bool := decide (-9223372036854775808 ≤ x ∧ x ≤ 9223372036854775807)
def i64of (x : Int) : Int := if i64ok x then x else 0

theorem val_two {zs : List Int} (h : zs.length ≤ 2) : zs.getD 1 0 * 4294967296 + zs.getD 0 0 = val zs := by
  match zs, h with
  | [], _ => rfl
  | [a], _ => simp [val]
  | [a, b], _ => simp [val]; omega

theorem int64_any (w : World) (nx : Bool) (ao : Option Addr) (n cap : Nat) (xs : List Int) (x : Int) (hx : IntAt w nx ao n cap xs x) :
    Calls Try.prog 19 #[.agg #[.bool nx, .slice ao n cap]] w (RetV w (.tuple #[.int .i64 (i64of x), .bool (i64ok x)])) := by
  have hlen := hx.sl.len
  have h0 := val_nonneg hx.lim
  by_cases hn : 2 < n
  · have hne : xs ≠ [] := by intro h; rw [h] at hlen; simp at hlen; omega
    have hpos := val_pos_of_top hx.lim hx.top hne
    have hp := pow_le (show 2 ≤ xs.length - 1 by omega)
    have hok : i64ok x = false := by
      unfold i64ok
      rw [hx.val]
      cases nx <;> simp [sgn] <;> omega
    unfold i64of
    rw [hok]
    have hn2 : (2 : Int) < n := by omega
    clear hx hlen h0 hne hpos hp hok
    go_enter Try.func19, Try.ntmps19
    go_wp2_with fail
    go_ret2
    exact ⟨rfl, by go_grown⟩
  · have hj := fun w1 (hb : Below w.heap.size w w1) => join_any w1 ao n cap xs (hx.sl.below hb) hx.lim
    rw [val_two (by omega)] at hj
    obtain ⟨s, hs⟩ : ∃ s, val xs = s := ⟨_, rfl⟩
    rw [hs] at hj h0
    have HJ := Lib.hid hj
    have hxv := hx.val
    rw [hs] at hxv
    have hn2 : ¬ (2 : Int) < n := by omega
    have hub := val_lt hx.lim
    have hpl := pow_le (show xs.length ≤ 2 by omega)
    have hub2 : s ≤ 18446744073709551615 := by omega
    clear hj hx hlen hs hub hpl
    cases nx
    · by_cases hr : s < 9223372036854775808
      · have hok : i64ok x = true := by unfold i64ok; rw [hxv]; simp [sgn]; omega
        have hv : i64of x = s := by unfold i64of; rw [hok, hxv]; simp [sgn]
        rw [hv, hok]
        have hw : IntKind.i64.wrap s = s := by rw [IntKind.wrap_i64]; omega
        clear hok hv hxv
        go_enter Try.func19, Try.ntmps19
        go_wp2_with fail
        refine (HJ.out _ (by go_grown)).mono ?_
        rintro e w1 ⟨rfl, q, rfl⟩
        go_wp2_with fail
        go_ret2
        exact ⟨rfl, below_drewN (by go_grown) q⟩
      · have hok : i64ok x = false := by unfold i64ok; rw [hxv]; simp [sgn]; omega
        unfold i64of
        rw [hok]
        clear hok hxv
        go_enter Try.func19, Try.ntmps19
        go_wp2_with fail
        refine (HJ.out _ (by go_grown)).mono ?_
        rintro e w1 ⟨rfl, q, rfl⟩
        go_wp2_with fail
        go_ret2
        exact ⟨rfl, below_drewN (by go_grown) q⟩
    · by_cases hr : s ≤ 9223372036854775808
      · have hok : i64ok x = true := by unfold i64ok; rw [hxv]; simp [sgn]; omega
        have hv : i64of x = -s := by unfold i64of; rw [hok, hxv]; simp [sgn]
        rw [hv, hok]
        have hw : IntKind.i64.wrap (IntKind.u64.wrap (-s)) = -s := by rw [IntKind.wrap_u64, IntKind.wrap_i64]; omega
        clear hok hv hxv
        go_enter Try.func19, Try.ntmps19
        go_wp2_with fail
        refine (HJ.out _ (by go_grown)).mono ?_
        rintro e w1 ⟨rfl, q, rfl⟩
        go_wp2_with fail
        go_ret2
        exact ⟨rfl, below_drewN (by go_grown) q⟩
      · have hok : i64ok x = false := by unfold i64ok; rw [hxv]; simp [sgn]; omega
        unfold i64of
        rw [hok]
        clear hok hxv
        go_enter Try.func19, Try.ntmps19
        go_wp2_with fail
        refine (HJ.out _ (by go_grown)).mono ?_
        rintro e w1 ⟨rfl, q, rfl⟩
        go_wp2_with fail
        go_ret2
        exact ⟨rfl, below_drewN (by go_grown) q⟩

theorem cmp_r_eq {c : Int} (w : World) (nx ny : Bool) (ao bo : Option Addr) (n m capa capb : Nat) (xs ys : List Int) (x y : Int) (hx : RefAt w nx ao n capa xs x) (hy : RefAt w ny bo m capb ys y) (hn : n ≤ 4294967296) (hm : m ≤ 4294967296) (h : cmpI x y = c) :
    Calls Try.prog 33 #[.agg #[.bool nx, .slice ao n capa], .agg #[.bool ny, .slice bo m capb]] w (RetV w (.int .i64 c)) := by
  rw [← h]
  exact rcmp_any w nx ny ao bo n m capa capb xs ys x y hx hy hn hm

set_option maxRecDepth 100000 in
theorem rint64_low (w : World) (nx : Bool) (ao : Option Addr) (n cap : Nat) (xs : List Int) (x : Int) (hx : RefAt w nx ao n cap xs x) (hn : n ≤ 4294967296) (hlow : x < -9223372036854775808) :
    Calls Try.prog 20 #[.agg #[.bool nx, .slice ao n cap]] w (RetV w (.tuple #[.int .i64 0, .bool false])) := by
  have HX := Lib.hid hx
  have hc : cmpI x (-9223372036854775808) = -1 := cmpI_lt hlow
  have HC := Lib.hid hc
  clear hx hc hlow
  go_enter Try.func20, Try.ntmps20
  go_wp2_with fail
  go_region_with (first | (go_at_call 18; refine (rnew_any _ (-9223372036854775808) (by omega) (by omega)).mono ?_; rintro e w1 ⟨n1, a1, k1, cc1, z1, rfl, hint1, hk1, hb1⟩; have hb2 : Below w.heap.size w w1 := Below.trans (by go_grown) (hb1.mono (by go_size)); have x0 : w1.cell? ⟨w.heap.size, 0, none⟩ = some (.bool nx) := (by rw [hb1.cell (by go_size)]; go_keep); have x1 : w1.cell? ⟨w.heap.size, 1, none⟩ = some (.slice ao n cap) := (by rw [hb1.cell (by go_size)]; go_keep); have HI1 := Lib.hid hint1; clear hint1) | (go_at_call 33; refine (cmp_r_eq _ nx n1 ao a1 n k1 cap cc1 xs z1 x (-9223372036854775808) (HX.out.below hb2) HI1.out hn (by omega) HC.out).mono ?_; rintro e w2 ⟨rfl, hb3⟩))
  all_goals (go_wp2_with fail; go_ret2; exact ⟨rfl, hb2.trans (hb3.mono hb2.size)⟩)

theorem dval_drop_step (r : Int) {ds : List Int} {j : Nat} (h : j < ds.length) : dval r (ds.drop j) = ds.getD j 0 + r * dval r (ds.drop (j + 1)) := by
  rw [drop_getD h]; rfl

set_option maxRecDepth 100000 in
theorem rint64_high (w : World) (nx : Bool) (ao : Option Addr) (n cap : Nat) (xs : List Int) (x : Int) (hx : RefAt w nx ao n cap xs x) (hn : n ≤ 4294967296) (hlow : 9223372036854775807 < x) :
    Calls Try.prog 20 #[.agg #[.bool nx, .slice ao n cap]] w (RetV w (.tuple #[.int .i64 0, .bool false])) := by
  have HX := Lib.hid hx
  have HC : Hid (cmpI x (-9223372036854775808) = 1) := Lib.hid (cmpI_gt (by omega))
  have HD : Hid (cmpI x 9223372036854775807 = 1) := Lib.hid (cmpI_gt (by omega))
  clear hx hlow
  go_enter Try.func20, Try.ntmps20
  go_wp2_with fail
  go_region_held3 (fun w' => w'.cell? ⟨w.heap.size, 0, none⟩ = some (.bool nx) ∧ w'.cell? ⟨w.heap.size, 1, none⟩ = some (.slice ao n cap)) (((try dsimp only); (repeat' apply And.intro) <;> (first | (go_keep; done) | (go_split_ands; rw [hb1.cell (by first | (dsimp only; omega) | go_size)]; assumption) | (go_split_ands; rw [hb3.cell (by first | (dsimp only; omega) | go_size)]; assumption) | (go_split_ands; rw [hb5.cell (by first | (dsimp only; omega) | go_size)]; assumption) | (go_split_ands; rw [hb7.cell (by first | (dsimp only; omega) | go_size)]; assumption))))
    (first | (go_at_call 33; refine (cmp_r_eq _ nx n3 ao a3 n k3 cap cc3 xs z3 x 9223372036854775807 (HX.out.below hb6) HI3.out hn (by omega) HD.out).mono ?_; rintro e w4 ⟨rfl, hb7⟩; have hb8 : Below w.heap.size w w4 := hb6.trans (hb7.mono hb6.size)) | (go_at_call 18; have T4 := hb4; clear T4; refine (rnew_any _ 9223372036854775807 (by omega) (by omega)).mono ?_; rintro e w3 ⟨n3, a3, k3, cc3, z3, rfl, hint3, hk3, hb5⟩; have hb6 : Below w.heap.size w w3 := hb4.trans (hb5.mono hb4.size); have hz3 := hb5.size; have HI3 := Lib.hid hint3; clear hint3) | (go_at_call 33; refine (cmp_r_eq _ nx n1 ao a1 n k1 cap cc1 xs z1 x (-9223372036854775808) (HX.out.below hb2) HI1.out hn (by omega) HC.out).mono ?_; rintro e w2 ⟨rfl, hb3⟩; have hz2 := hb3.size; have hb4 : Below w.heap.size w w2 := hb2.trans (hb3.mono hb2.size)) | (go_at_call 18; refine (rnew_any _ (-9223372036854775808) (by omega) (by omega)).mono ?_; rintro e w1 ⟨n1, a1, k1, cc1, z1, rfl, hint1, hk1, hb1⟩; have hb2 : Below w.heap.size w w1 := Below.trans (by go_grown) (hb1.mono (by go_size)); have hz1 : w.heap.size + 1 ≤ w1.heap.size := Nat.le_trans (by go_size) hb1.size; have HI1 := Lib.hid hint1; clear hint1))
  go_wp2_with fail
  go_ret2
  exact ⟨rfl, hb8⟩

theorem dval_drop_le {ds : List Int} (h : Dig 65536 ds) (j : Nat) : dval 65536 (ds.drop j) ≤ dval 65536 ds := by
  rw [dval_split 65536 ds j]
  have h1 := dval_nonneg (r := 65536) (by omega) (Dig_take h j)
  have h2 := dval_nonneg (r := 65536) (by omega) (Dig_drop h j)
  have h3 := rpow_pos (r := 65536) (by omega) (ds.take j).length
  have h4 : 1 * dval 65536 (ds.drop j) ≤ 65536 ^ (ds.take j).length * dval 65536 (ds.drop j) := Int.mul_le_mul_of_nonneg_right (by omega) h2
  omega

set_option maxRecDepth 100000 in
theorem rint64_ok (w : World) (nx : Bool) (ao : Option Addr) (n cap : Nat) (xs : List Int) (x : Int) (hx : RefAt w nx ao n cap xs x) (hn : n ≤ 4294967296) (hlow : -9223372036854775808 ≤ x) (hhigh : x ≤ 9223372036854775807) :
    Calls Try.prog 20 #[.agg #[.bool nx, .slice ao n cap]] w (RetV w (.tuple #[.int .i64 x, .bool true])) := by
  have HX := Lib.hid hx
  obtain ⟨c1, hc1⟩ : ∃ c, cmpI x (-9223372036854775808) = c := ⟨_, rfl⟩
  obtain ⟨c2, hc2⟩ : ∃ c, cmpI x 9223372036854775807 = c := ⟨_, rfl⟩
  have hd1 : decide (c1 < 0) = false := by rw [← hc1]; unfold cmpI; rw [if_neg (by omega)]; split <;> rfl
  have hd2 : decide (0 < c2) = false := by rw [← hc2]; unfold cmpI; split; rfl; rw [if_neg (by omega)]; rfl
  have HC := Lib.hid hc1
  have HD := Lib.hid hc2
  have HL : Hid (xs.length = n) := hx.sl.len
  have HDG := Lib.hid hx.lim
  have hd0 := dval_nonneg (r := 65536) (by omega) hx.lim
  have HV := Lib.hid hx.val
  have hbig : dval 65536 xs ≤ 9223372036854775808 := by have := hx.val; cases nx <;> simp [sgn] at this <;> omega
  have HBG := Lib.hid hbig
  have hcap : n ≤ cap ∧ cap ≤ 9223372036854775807 := ⟨hx.sl.le, by have := hx.sl.most; unfold maxLen at this; omega⟩
  have HX9 : Hid (x ≤ 9223372036854775807) := Lib.hid hhigh
  clear hx hc1 hc2 hlow hhigh hbig hd0
  go_enter Try.func20, Try.ntmps20
  go_wp2_with fail
  go_region_held3 (fun w' => w'.cell? ⟨w.heap.size, 0, none⟩ = some (.bool nx) ∧ w'.cell? ⟨w.heap.size, 1, none⟩ = some (.slice ao n cap)) (((try dsimp only); (repeat' apply And.intro) <;> (first | (go_keep; done) | (go_split_ands; rw [hb1.cell (by first | (dsimp only; omega) | go_size)]; assumption) | (go_split_ands; rw [hb3.cell (by first | (dsimp only; omega) | go_size)]; assumption) | (go_split_ands; rw [hb5.cell (by first | (dsimp only; omega) | go_size)]; assumption) | (go_split_ands; rw [hb7.cell (by first | (dsimp only; omega) | go_size)]; assumption))))
    (first | (go_at_call 33; refine (cmp_r_eq _ nx n3 ao a3 n k3 cap cc3 xs z3 x 9223372036854775807 (HX.out.below hb6) HI3.out hn (by omega) HD.out).mono ?_; rintro e w4 ⟨rfl, hb7⟩; have hb8 : Below w.heap.size w w4 := hb6.trans (hb7.mono hb6.size)) | (go_at_call 18; have T4 := hb4; clear T4; refine (rnew_any _ 9223372036854775807 (by omega) (by omega)).mono ?_; rintro e w3 ⟨n3, a3, k3, cc3, z3, rfl, hint3, hk3, hb5⟩; have hb6 : Below w.heap.size w w3 := hb4.trans (hb5.mono hb4.size); have hz3 := hb5.size; have HI3 := Lib.hid hint3; clear hint3) | (go_at_call 33; refine (cmp_r_eq _ nx n1 ao a1 n k1 cap cc1 xs z1 x (-9223372036854775808) (HX.out.below hb2) HI1.out hn (by omega) HC.out).mono ?_; rintro e w2 ⟨rfl, hb3⟩; have hz2 := hb3.size; have hb4 : Below w.heap.size w w2 := hb2.trans (hb3.mono hb2.size)) | (go_at_call 18; refine (rnew_any _ (-9223372036854775808) (by omega) (by omega)).mono ?_; rintro e w1 ⟨n1, a1, k1, cc1, z1, rfl, hint1, hk1, hb1⟩; have hb2 : Below w.heap.size w w1 := Below.trans (by go_grown) (hb1.mono (by go_size)); have hz1 : w.heap.size + 1 ≤ w1.heap.size := Nat.le_trans (by go_size) hb1.size; have HI1 := Lib.hid hint1; clear hint1))
  have HW4 := Lib.hid hb8
  have q0 : w4.cell? ⟨w.heap.size, 0, none⟩ = some (.bool nx) := by go_split_ands; assumption
  have q1 : w4.cell? ⟨w.heap.size, 1, none⟩ = some (.slice ao n cap) := by go_split_ands; assumption
  have hlw : w.heap.size < w4.heap.size := World.block_lt_of_cell? w4 _ q0
  clear hb1 hb2 hb3 hb4 hb5 hb6 hb7 hb8 HC HD hd1 hd2
  go_wp2_with fail
  go_loopw [4, 5] (fun u i wr => ∃ (p s : Int), -1 ≤ p ∧ p < n ∧ i = .int .i64 p ∧ u = .int .u64 s ∧ s = dval 65536 (xs.drop (p + 1).toNat) ∧ wr = w4) (fun _ i _ => (intOf i + 1).toNat)
  case atStart => exact ⟨(n : Int) - 1, 0, by omega, by omega, rfl, rfl, by rw [List.drop_of_length_le (by have := HL.out; omega)]; rfl, rfl⟩
  case round =>
    obtain ⟨p, s, hp0, hp1, rfl, rfl, hs, rfl⟩ := hrel
    have HS := Lib.hid hs
    have hs0 : 0 ≤ s := by rw [hs]; exact dval_nonneg (by omega) (Dig_drop HDG.out _)
    have hs1 : s ≤ 9223372036854775808 := by rw [hs]; exact Int.le_trans (dval_drop_le HDG.out _) HBG.out
    clear hs
    by_cases hp : p < 0
    · obtain rfl : p = -1 := by omega
      have hss : s = dval 65536 xs := by have := HS.out; simpa using this
      cases nx
      · have hv : x = s := by rw [HV.out, hss]; simp [sgn]
        have hsm : s ≤ 9223372036854775807 := by have := HX9.out; omega
        have hw : IntKind.i64.wrap s = s := by rw [IntKind.wrap_i64]; omega
        have HVV := Lib.hid hv
        clear hv hss
        go_wp2_with fail
        go_ret2
        exact ⟨by rw [HVV.out]; rfl, HW4.out⟩
      · have hv : x = -s := by rw [HV.out, hss]; simp [sgn]
        have hw : IntKind.i64.wrap (IntKind.u64.wrap (-s)) = -s := by rw [IntKind.wrap_u64, IntKind.wrap_i64]; omega
        have HVV := Lib.hid hv
        clear hv hss
        go_wp2_with fail
        go_ret2
        exact ⟨by rw [HVV.out]; rfl, HW4.out⟩
    · obtain ⟨j, rfl⟩ := Int.eq_ofNat_of_zero_le (show 0 ≤ p by omega)
      have hj : j < n := by omega
      obtain ⟨b, o, rfl, hc⟩ := (HX.out.sl.below HW4.out).cells.at (k := j) (by rw [HL.out]; exact hj)
      have hdj := Dig_getD (by omega : (0 : Int) < 65536) HDG.out j
      have hst := dval_drop_step 65536 (ds := xs) (j := j) (by rw [HL.out]; exact hj)
      have hsb := Int.le_trans (dval_drop_le HDG.out j) HBG.out
      rw [hst] at hsb
      have hse : s = dval 65536 (xs.drop (j + 1)) := by have := HS.out; rwa [show ((j : Int) + 1).toNat = j + 1 by omega] at this
      rw [← hse] at hst hsb
      obtain ⟨d, hd⟩ : ∃ d, xs.getD j 0 = d := ⟨_, rfl⟩
      rw [hd] at hc hdj hst hsb
      obtain ⟨hdj0, hdj1⟩ := hdj
      have hw1 : IntKind.u64.wrap (s * 65536) = s * 65536 := by rw [IntKind.wrap_u64]; omega
      have hw2 : IntKind.u64.wrap d = d := by rw [IntKind.wrap_u64]; omega
      have hw3 : IntKind.u64.wrap (s * 65536 + d) = s * 65536 + d := by rw [IntKind.wrap_u64]; omega
      have HST := Lib.hid hst
      have hj0 : (0 : Int) ≤ j := by omega
      have hji : (j : Int) < n := by omega
      clear hst hse hd
      go_wp2_with fail
      go_roundw
      case rel =>
        refine ⟨(j : Int) - 1, s * 65536 + d, by omega, by omega, rfl, rfl, ?_, by first | rfl | trivial⟩
        rw [show ((j : Int) - 1 + 1).toNat = j by omega, HST.out]
        omega
      case measure => simp [intOf]

theorem rint64_any (w : World) (nx : Bool) (ao : Option Addr) (n cap : Nat) (xs : List Int) (x : Int) (hx : RefAt w nx ao n cap xs x) (hn : n ≤ 4294967296) :
    Calls Try.prog 20 #[.agg #[.bool nx, .slice ao n cap]] w (RetV w (.tuple #[.int .i64 (i64of x), .bool (i64ok x)])) := by
  unfold i64of i64ok
  by_cases h1 : x < -9223372036854775808
  · rw [decide_eq_false (by omega)]
    exact rint64_low w nx ao n cap xs x hx hn h1
  · by_cases h2 : 9223372036854775807 < x
    · rw [decide_eq_false (by omega)]
      exact rint64_high w nx ao n cap xs x hx hn h2
    · rw [decide_eq_true (by omega)]
      exact rint64_ok w nx ao n cap xs x hx hn (by omega) (by omega)

/-- x, and of a number below 0 -1 - x. -/
def cpl (x : Int) : Int := if x < 0 then -1 - x else x

theorem complement_any (w : World) (nx : Bool) (ao : Option Addr) (n cap : Nat) (xs : List Int) (x : Int) (hx : IntAt w nx ao n cap xs x) (hn : n ≤ 34359738368) :
    Calls Try.prog 78 #[.agg #[.bool nx, .slice ao n cap]] w (RetNat w (cpl x) n) := by
  have hv0 := val_nonneg hx.lim
  cases nx with
  | false =>
    have hc : cpl x = val xs := by unfold cpl; rw [hx.val]; simp [sgn]; omega
    have HC := Lib.hid hc
    have HK : Hid (∀ w1, Below w.heap.size w w1 → _) := Lib.hid (fun w1 hb => clone_any w1 ao n cap xs (hx.sl.below hb) hn)
    have HL := Lib.hid hx.lim
    have HT := Lib.hid hx.top
    clear hx hc hv0
    go_enter Try.func78, Try.ntmps78
    go_wp2_with fail
    refine (HK.out _ (by go_grown)).mono ?_
    rintro e w1 ⟨a1, c1, rfl, hown, hb1⟩
    have HO := Lib.hid hown
    have hb2 : Below w.heap.size w w1 := Below.trans (by go_grown) (hb1.mono (by go_size))
    clear hown hb1
    go_wp2_with fail
    go_ret
    exact ⟨a1, n, c1, xs, rfl, Own.mono HO.out (by go_size), HL.out, HT.out, HC.out.symm, Nat.le_refl _, hb2⟩
  | true =>
    have hne := hx.sign rfl
    have hpos := val_pos_of_top hx.lim hx.top hne
    have hp := pow_pos (xs.length - 1)
    have hlen := hx.sl.len
    have hn1 : 1 ≤ n := by
      rcases xs with _ | ⟨z, zs⟩
      · exact absurd rfl hne
      · simp at hlen; omega
    have hc : cpl x = val xs - 1 := by unfold cpl; rw [hx.val]; simp [sgn]; omega
    have HC := Lib.hid hc
    have HX := Lib.hid hx.sl
    have HL := Lib.hid hx.lim
    have hge : 1 ≤ val xs := by omega
    clear hx hne hpos hp hlen hc hv0
    go_enter Try.func78, Try.ntmps78
    go_wp2_with fail
    have hone : Sl ((w.alloc (.cells #[.bool true, .slice ao n cap] 28)).alloc (.cells #[.int .u32 1] 99)) (some ⟨w.heap.size + 1, 0, none⟩) 1 1 [1] := by
      refine ⟨rfl, Nat.le_refl _, by unfold maxLen; omega, fun h => by simp at h, .inr ⟨_, _, rfl, ?_⟩⟩
      intro i hi
      obtain rfl : i = 0 := by simp at hi; omega
      exact cell_of_row _ (w.heap.size + 1) 0 _ 99 (0, 0) (heap_alloc2 w _ _).1
    refine (difference_any _ _ _ n 1 cap 1 xs [1] (HX.out.below (by go_grown)) hone HL.out (by intro z hz; simp at hz; omega) hn hn1 (by simpa [val] using hge)).mono ?_
    rintro e w1 ⟨a1, k1, c1, z1, rfl, hown, hl1, ht1, hv1, hk1, hb1⟩
    have HO := Lib.hid hown
    have HV := Lib.hid hv1
    have hb2 : Below w.heap.size w w1 := Below.trans (by go_grown) (hb1.mono (by go_size))
    clear hown hb1 hv1 hone
    go_wp2_with fail
    go_ret
    exact ⟨a1, k1, c1, z1, rfl, Own.mono HO.out (by go_size), hl1, ht1, by rw [HV.out, HC.out]; simp [val], hk1, hb2⟩
end Go.Proofs.Ytpakfknacmcohaa
