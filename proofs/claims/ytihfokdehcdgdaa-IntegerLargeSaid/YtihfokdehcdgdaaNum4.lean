/- Int64 of the reference, where the number is not too low. -/
import Derived.Test.YtihfokdehcdgdaaNum3
namespace Go.Proofs.Ytihfokdehcdgdaa
open Go.RowKit
set_option autoImplicit false
set_option linter.unusedVariables false

theorem dval_drop_step (r : Int) {ds : List Int} {j : Nat} (h : j < ds.length) : dval r (ds.drop j) = ds.getD j 0 + r * dval r (ds.drop (j + 1)) := by
  rw [drop_getD h]; rfl

set_option maxRecDepth 100000 in
theorem rint64_high (w : World) (nx : Bool) (ao : Option Addr) (n cap : Nat) (xs : List Int) (x : Int) (hx : RefAt w nx ao n cap xs x) (hn : n ≤ 4294967296) (hlow : 9223372036854775807 < x) :
    Calls Try.prog 20 #[.agg #[.bool nx, .slice ao n cap]] w (RetV w (.tuple #[.int .i64 0, .bool false])) := by
  have HX := Lib.hid hx
  have HC : Hid (cmpI x (-9223372036854775808) = 1) := Lib.hid (cmpI_gt (by omega))
  have HD : Hid (cmpI x 9223372036854775807 = 1) := Lib.hid (cmpI_gt (by omega))
  clear hx hlow
  go_enter Try.func20, Try.ntmps20
  go_wp2_with fail
  go_region_held3 (fun w' => w'.cell? ⟨w.heap.size, 0, none⟩ = some (.bool nx) ∧ w'.cell? ⟨w.heap.size, 1, none⟩ = some (.slice ao n cap)) (((try dsimp only); (repeat' apply And.intro) <;> (first | (go_keep; done) | (go_split_ands; rw [hb1.cell (by first | (dsimp only; omega) | go_size)]; assumption) | (go_split_ands; rw [hb3.cell (by first | (dsimp only; omega) | go_size)]; assumption) | (go_split_ands; rw [hb5.cell (by first | (dsimp only; omega) | go_size)]; assumption) | (go_split_ands; rw [hb7.cell (by first | (dsimp only; omega) | go_size)]; assumption))))
    (first | (go_at_call 33; refine (cmp_r_eq _ nx n3 ao a3 n k3 cap cc3 xs z3 x 9223372036854775807 (HX.out.below hb6) HI3.out hn (by omega) HD.out).mono ?_; rintro e w4 ⟨rfl, hb7⟩; have hb8 : Below w.heap.size w w4 := hb6.trans (hb7.mono hb6.size)) | (go_at_call 18; have T4 := hb4; clear T4; refine (rnew_any _ 9223372036854775807 (by omega) (by omega)).mono ?_; rintro e w3 ⟨n3, a3, k3, cc3, z3, rfl, hint3, hk3, hb5⟩; have hb6 : Below w.heap.size w w3 := hb4.trans (hb5.mono hb4.size); have hz3 := hb5.size; have HI3 := Lib.hid hint3; clear hint3) | (go_at_call 33; refine (cmp_r_eq _ nx n1 ao a1 n k1 cap cc1 xs z1 x (-9223372036854775808) (HX.out.below hb2) HI1.out hn (by omega) HC.out).mono ?_; rintro e w2 ⟨rfl, hb3⟩; have hz2 := hb3.size; have hb4 : Below w.heap.size w w2 := hb2.trans (hb3.mono hb2.size)) | (go_at_call 18; refine (rnew_any _ (-9223372036854775808) (by omega) (by omega)).mono ?_; rintro e w1 ⟨n1, a1, k1, cc1, z1, rfl, hint1, hk1, hb1⟩; have hb2 : Below w.heap.size w w1 := Below.trans (by go_grown) (hb1.mono (by go_size)); have hz1 : w.heap.size + 1 ≤ w1.heap.size := Nat.le_trans (by go_size) hb1.size; have HI1 := Lib.hid hint1; clear hint1))
  go_wp2_with fail
  go_ret2
  exact ⟨rfl, hb8⟩

theorem dval_drop_le {ds : List Int} (h : Dig 65536 ds) (j : Nat) : dval 65536 (ds.drop j) ≤ dval 65536 ds := by
  rw [dval_split 65536 ds j]
  have h1 := dval_nonneg (r := 65536) (by omega) (Dig_take h j)
  have h2 := dval_nonneg (r := 65536) (by omega) (Dig_drop h j)
  have h3 := rpow_pos (r := 65536) (by omega) (ds.take j).length
  have h4 : 1 * dval 65536 (ds.drop j) ≤ 65536 ^ (ds.take j).length * dval 65536 (ds.drop j) := Int.mul_le_mul_of_nonneg_right (by omega) h2
  omega

set_option maxRecDepth 100000 in
theorem rint64_ok (w : World) (nx : Bool) (ao : Option Addr) (n cap : Nat) (xs : List Int) (x : Int) (hx : RefAt w nx ao n cap xs x) (hn : n ≤ 4294967296) (hlow : -9223372036854775808 ≤ x) (hhigh : x ≤ 9223372036854775807) :
    Calls Try.prog 20 #[.agg #[.bool nx, .slice ao n cap]] w (RetV w (.tuple #[.int .i64 x, .bool true])) := by
  have HX := Lib.hid hx
  obtain ⟨c1, hc1⟩ : ∃ c, cmpI x (-9223372036854775808) = c := ⟨_, rfl⟩
  obtain ⟨c2, hc2⟩ : ∃ c, cmpI x 9223372036854775807 = c := ⟨_, rfl⟩
  have hd1 : decide (c1 < 0) = false := by rw [← hc1]; unfold cmpI; rw [if_neg (by omega)]; split <;> rfl
  have hd2 : decide (0 < c2) = false := by rw [← hc2]; unfold cmpI; split; rfl; rw [if_neg (by omega)]; rfl
  have HC := Lib.hid hc1
  have HD := Lib.hid hc2
  have HL : Hid (xs.length = n) := hx.sl.len
  have HDG := Lib.hid hx.lim
  have hd0 := dval_nonneg (r := 65536) (by omega) hx.lim
  have HV := Lib.hid hx.val
  have hbig : dval 65536 xs ≤ 9223372036854775808 := by have := hx.val; cases nx <;> simp [sgn] at this <;> omega
  have HBG := Lib.hid hbig
  have hcap : n ≤ cap ∧ cap ≤ 9223372036854775807 := ⟨hx.sl.le, by have := hx.sl.most; unfold maxLen at this; omega⟩
  have HX9 : Hid (x ≤ 9223372036854775807) := Lib.hid hhigh
  clear hx hc1 hc2 hlow hhigh hbig hd0
  go_enter Try.func20, Try.ntmps20
  go_wp2_with fail
  go_region_held3 (fun w' => w'.cell? ⟨w.heap.size, 0, none⟩ = some (.bool nx) ∧ w'.cell? ⟨w.heap.size, 1, none⟩ = some (.slice ao n cap)) (((try dsimp only); (repeat' apply And.intro) <;> (first | (go_keep; done) | (go_split_ands; rw [hb1.cell (by first | (dsimp only; omega) | go_size)]; assumption) | (go_split_ands; rw [hb3.cell (by first | (dsimp only; omega) | go_size)]; assumption) | (go_split_ands; rw [hb5.cell (by first | (dsimp only; omega) | go_size)]; assumption) | (go_split_ands; rw [hb7.cell (by first | (dsimp only; omega) | go_size)]; assumption))))
    (first | (go_at_call 33; refine (cmp_r_eq _ nx n3 ao a3 n k3 cap cc3 xs z3 x 9223372036854775807 (HX.out.below hb6) HI3.out hn (by omega) HD.out).mono ?_; rintro e w4 ⟨rfl, hb7⟩; have hb8 : Below w.heap.size w w4 := hb6.trans (hb7.mono hb6.size)) | (go_at_call 18; have T4 := hb4; clear T4; refine (rnew_any _ 9223372036854775807 (by omega) (by omega)).mono ?_; rintro e w3 ⟨n3, a3, k3, cc3, z3, rfl, hint3, hk3, hb5⟩; have hb6 : Below w.heap.size w w3 := hb4.trans (hb5.mono hb4.size); have hz3 := hb5.size; have HI3 := Lib.hid hint3; clear hint3) | (go_at_call 33; refine (cmp_r_eq _ nx n1 ao a1 n k1 cap cc1 xs z1 x (-9223372036854775808) (HX.out.below hb2) HI1.out hn (by omega) HC.out).mono ?_; rintro e w2 ⟨rfl, hb3⟩; have hz2 := hb3.size; have hb4 : Below w.heap.size w w2 := hb2.trans (hb3.mono hb2.size)) | (go_at_call 18; refine (rnew_any _ (-9223372036854775808) (by omega) (by omega)).mono ?_; rintro e w1 ⟨n1, a1, k1, cc1, z1, rfl, hint1, hk1, hb1⟩; have hb2 : Below w.heap.size w w1 := Below.trans (by go_grown) (hb1.mono (by go_size)); have hz1 : w.heap.size + 1 ≤ w1.heap.size := Nat.le_trans (by go_size) hb1.size; have HI1 := Lib.hid hint1; clear hint1))
  have HW4 := Lib.hid hb8
  have q0 : w4.cell? ⟨w.heap.size, 0, none⟩ = some (.bool nx) := by go_split_ands; assumption
  have q1 : w4.cell? ⟨w.heap.size, 1, none⟩ = some (.slice ao n cap) := by go_split_ands; assumption
  have hlw : w.heap.size < w4.heap.size := World.block_lt_of_cell? w4 _ q0
  clear hb1 hb2 hb3 hb4 hb5 hb6 hb7 hb8 HC HD hd1 hd2
  go_wp2_with fail
  go_loopw [4, 5] (fun u i wr => ∃ (p s : Int), -1 ≤ p ∧ p < n ∧ i = .int .i64 p ∧ u = .int .u64 s ∧ s = dval 65536 (xs.drop (p + 1).toNat) ∧ wr = w4) (fun _ i _ => (intOf i + 1).toNat)
  case atStart => exact ⟨(n : Int) - 1, 0, by omega, by omega, rfl, rfl, by rw [List.drop_of_length_le (by have := HL.out; omega)]; rfl, rfl⟩
  case round =>
    obtain ⟨p, s, hp0, hp1, rfl, rfl, hs, rfl⟩ := hrel
    have HS := Lib.hid hs
    have hs0 : 0 ≤ s := by rw [hs]; exact dval_nonneg (by omega) (Dig_drop HDG.out _)
    have hs1 : s ≤ 9223372036854775808 := by rw [hs]; exact Int.le_trans (dval_drop_le HDG.out _) HBG.out
    clear hs
    by_cases hp : p < 0
    · obtain rfl : p = -1 := by omega
      have hss : s = dval 65536 xs := by have := HS.out; simpa using this
      cases nx
      · have hv : x = s := by rw [HV.out, hss]; simp [sgn]
        have hsm : s ≤ 9223372036854775807 := by have := HX9.out; omega
        have hw : IntKind.i64.wrap s = s := by rw [IntKind.wrap_i64]; omega
        have HVV := Lib.hid hv
        clear hv hss
        go_wp2_with fail
        go_ret2
        exact ⟨by rw [HVV.out]; rfl, HW4.out⟩
      · have hv : x = -s := by rw [HV.out, hss]; simp [sgn]
        have hw : IntKind.i64.wrap (IntKind.u64.wrap (-s)) = -s := by rw [IntKind.wrap_u64, IntKind.wrap_i64]; omega
        have HVV := Lib.hid hv
        clear hv hss
        go_wp2_with fail
        go_ret2
        exact ⟨by rw [HVV.out]; rfl, HW4.out⟩
    · obtain ⟨j, rfl⟩ := Int.eq_ofNat_of_zero_le (show 0 ≤ p by omega)
      have hj : j < n := by omega
      obtain ⟨b, o, rfl, hc⟩ := (HX.out.sl.below HW4.out).cells.at (k := j) (by rw [HL.out]; exact hj)
      have hdj := Dig_getD (by omega : (0 : Int) < 65536) HDG.out j
      have hst := dval_drop_step 65536 (ds := xs) (j := j) (by rw [HL.out]; exact hj)
      have hsb := Int.le_trans (dval_drop_le HDG.out j) HBG.out
      rw [hst] at hsb
      have hse : s = dval 65536 (xs.drop (j + 1)) := by have := HS.out; rwa [show ((j : Int) + 1).toNat = j + 1 by omega] at this
      rw [← hse] at hst hsb
      obtain ⟨d, hd⟩ : ∃ d, xs.getD j 0 = d := ⟨_, rfl⟩
      rw [hd] at hc hdj hst hsb
      obtain ⟨hdj0, hdj1⟩ := hdj
      have hw1 : IntKind.u64.wrap (s * 65536) = s * 65536 := by rw [IntKind.wrap_u64]; omega
      have hw2 : IntKind.u64.wrap d = d := by rw [IntKind.wrap_u64]; omega
      have hw3 : IntKind.u64.wrap (s * 65536 + d) = s * 65536 + d := by rw [IntKind.wrap_u64]; omega
      have HST := Lib.hid hst
      have hj0 : (0 : Int) ≤ j := by omega
      have hji : (j : Int) < n := by omega
      clear hst hse hd
      go_wp2_with fail
      go_roundw
      case rel =>
        refine ⟨(j : Int) - 1, s * 65536 + d, by omega, by omega, rfl, rfl, ?_, by first | rfl | trivial⟩
        rw [show ((j : Int) - 1 + 1).toNat = j by omega, HST.out]
        omega
      case measure => simp [intOf]

theorem rint64_any (w : World) (nx : Bool) (ao : Option Addr) (n cap : Nat) (xs : List Int) (x : Int) (hx : RefAt w nx ao n cap xs x) (hn : n ≤ 4294967296) :
    Calls Try.prog 20 #[.agg #[.bool nx, .slice ao n cap]] w (RetV w (.tuple #[.int .i64 (i64of x), .bool (i64ok x)])) := by
  unfold i64of i64ok
  by_cases h1 : x < -9223372036854775808
  · rw [decide_eq_false (by omega)]
    exact rint64_low w nx ao n cap xs x hx hn h1
  · by_cases h2 : 9223372036854775807 < x
    · rw [decide_eq_false (by omega)]
      exact rint64_high w nx ao n cap xs x hx hn h2
    · rw [decide_eq_true (by omega)]
      exact rint64_ok w nx ao n cap xs x hx hn (by omega) (by omega)
end Go.Proofs.Ytihfokdehcdgdaa
