/- IntegerLarge: the walk. -/
import Derived.Test.YtihfokdehcdgdaaShift2
import Derived.Test.YtihfokdehcdgdaaAwake2
namespace Go.Proofs.Ytihfokdehcdgdaa
open Go.RowKit
set_option autoImplicit false
set_option linter.unusedVariables false

theorem blen_two_pow (k : Nat) : blen (2 ^ k) = k + 1 := by
  have h1 : blen (2 ^ k) ≤ k + 1 := blen_le_iff.2 (Nat.pow_lt_pow_right (by omega) (by omega))
  have h2 : ¬ blen (2 ^ k) ≤ k := fun h => by have := blen_le_iff.1 h; omega
  omega

theorem blen_two_pow_pred (k : Nat) : blen (2 ^ k - 1) = k := by
  have hp : 1 ≤ 2 ^ k := Nat.one_le_two_pow
  have h1 : blen (2 ^ k - 1) ≤ k := blen_le_iff.2 (by omega)
  rcases k with _ | k
  · omega
  · have h3 : 2 ^ (k + 1) = 2 ^ k * 2 := Nat.pow_succ ..
    have h4 : 1 ≤ 2 ^ k := Nat.one_le_two_pow
    have h2 : ¬ blen (2 ^ (k + 1) - 1) ≤ k := fun h => by have := blen_le_iff.1 h; omega
    omega

theorem cpl_pos (v : Nat) : (cpl (v : Int)).toNat = v := by unfold cpl; rw [if_neg (by omega)]; omega
theorem cpl_neg (v : Nat) (h : 1 ≤ v) : (cpl (-(v : Int))).toNat = v - 1 := by unfold cpl; rw [if_pos (by omega)]; omega

theorem large_len (neg : Bool) (k m : Nat) : blen (cpl (sgn neg (2 ^ k) ^ m)).toNat = k * m + (if neg && decide (m % 2 = 1) then 0 else 1) := by
  rw [sgn_pow, ← Int.pow_mul]
  have e : ((2 : Int) ^ (k * m)) = ((2 ^ (k * m) : Nat) : Int) := by simp
  rw [e]
  have hp : 1 ≤ 2 ^ (k * m) := Nat.one_le_two_pow
  generalize hb : (neg && decide (m % 2 = 1)) = b
  cases b with
  | false =>
    have h1 : sgn false ((2 ^ (k * m) : Nat) : Int) = ((2 ^ (k * m) : Nat) : Int) := rfl
    rw [h1, cpl_pos, blen_two_pow]
    rfl
  | true =>
    have h1 : sgn true ((2 ^ (k * m) : Nat) : Int) = - ((2 ^ (k * m) : Nat) : Int) := rfl
    rw [h1, cpl_neg _ hp, blen_two_pow_pred]
    rfl

set_option maxRecDepth 100000 in
theorem large_walk (w : World) (b n : Int) (neg : Bool) (k m : Nat) (hb0 : 0 ≤ b) (hb1 : b ≤ 65535) (hn0 : 0 ≤ n) (hn1 : n ≤ 65535) (hk : 1 + b % 200 = (k : Int)) (hm : n % 2000 = (m : Int)) :
    Calls Try.prog 6 #[.int .u16 b, .int .u16 n, .bool neg] w (RetV w (.bool true)) := by
  have hk1 : 1 ≤ k := by omega
  have hk2 : k ≤ 200 := by omega
  have hm2 : m ≤ 1999 := by omega
  have hlen := large_len neg k m
  have hone : blen (cpl 1).toNat = 1 := by decide
  obtain ⟨X, hX⟩ : ∃ X : Int, (1 : Int) * 2 ^ k = X := ⟨_, rfl⟩
  have hX1 : X = 2 ^ k := by rw [← hX]; omega
  have HX1 := Lib.hid hX1
  obtain ⟨t, ht⟩ : ∃ t : Nat, k * m = t := ⟨_, rfl⟩
  have htI : (k : Int) * (m : Int) = (t : Int) := by rw [← ht, Int.natCast_mul]
  have htb : t ≤ 399800 := by rw [← ht]; exact Nat.mul_le_mul hk2 hm2
  rw [ht, ← hX1] at hlen
  have HLEN := Lib.hid hlen
  have HX := Lib.hid hX
  have HONE := Lib.hid hone
  clear hlen hX hX1 ht hone
  go_enter Try.func6, Try.ntmps6
  go_wp2_with fail
  refine (new_int _ 1 (by omega) (by omega)).mono ?_
  rintro e w1 ⟨s1, a1, m1, c1, z1, rfl, hi1, hm1, hb1'⟩
  have HI1 := Lib.hid hi1
  have HB1 := Lib.hid hb1'
  clear hi1 hb1'
  go_wp2_with fail
  refine (shift_up _ s1 a1 m1 c1 z1 1 k HI1.out (by omega) hk1 (by omega) (.inr (by rw [HONE.out]; omega))).mono ?_
  rintro e w2 ⟨s2, a2, m2, c2, z2, rfl, hi2, hm2', hb2'⟩
  rw [HX.out] at hi2
  have HI2 := Lib.hid hi2
  have HB2 := Lib.hid (HB1.out.trans (hb2'.mono HB1.out.size))
  clear hi2 hb2' HB1 HI1
  --TAIL
  cases neg
  · obtain ⟨l, hl⟩ : ∃ l, t + 1 = l := ⟨_, rfl⟩
    have htl : (t : Int) + 1 = (l : Int) := by omega
    obtain ⟨Y, hY⟩ : ∃ Y, Y = X := ⟨_, rfl⟩
    have HLY : Hid (blen (cpl (Y ^ m)).toNat = l) := Lib.hid (by
      have h1 := HLEN.out
      have h2 : sgn false X = X := rfl
      rw [h2] at h1
      rw [hY, h1, ← hl]; rfl)
    obtain ⟨s3, hs3⟩ : ∃ s3, s3 = s2 := ⟨_, rfl⟩
    obtain ⟨a3, ha3⟩ : ∃ a3, a3 = a2 := ⟨_, rfl⟩
    obtain ⟨m3, hm3⟩ : ∃ a3, a3 = m2 := ⟨_, rfl⟩
    obtain ⟨c3, hc3⟩ : ∃ a3, a3 = c2 := ⟨_, rfl⟩
    obtain ⟨z3, hz3⟩ : ∃ a3, a3 = z2 := ⟨_, rfl⟩
    rw [← hs3, ← ha3, ← hm3, ← hc3] at HI2 ⊢
    rw [← hz3, ← hY] at HI2
    have hm3b : m3 ≤ 1048576 := by omega
    clear hl hs3 ha3 hm3 hc3 hz3 hY
    go_wp2_with fail
    have HIY := Lib.hid (HI2.out.below (show Below w2.heap.size w2 (w2.alloc (.cells #[.bool s3, .slice a3 m3 c3] 28)) by go_grown))
    have HBY := Lib.hid (HB2.out.trans ((show Below w2.heap.size w2 (w2.alloc (.cells #[.bool s3, .slice a3 m3 c3] 28)) by go_grown).mono HB2.out.size))
    have HPW := Lib.hid (power_any _ s3 a3 m3 c3 z3 Y m HIY.out (by omega) (by omega))
    refine HPW.out.mono ?_
    clear HPW
    rintro e w4 (⟨hle, s5, a5, m5, c5, z5, rfl, hi5, hm5, hb5⟩ | ⟨hgt, rfl, hb5⟩)
    · rw [HLY.out] at hle
      have hli : (l : Int) ≤ 65536 := by omega
      have hln : ¬ (65536 : Int) < (l : Int) := by omega
      have HI5 := Lib.hid hi5
      have HB5 := Lib.hid (HBY.out.trans (hb5.mono HBY.out.size))
      have HLN : Hid (∀ w', Below w4.heap.size w4 w' → Calls Try.prog 26 #[.agg #[.bool s5, .slice a5 m5 c5]] w' (RetV w' (.int .i64 (l : Int)))) := Lib.hid (fun w' hb => by
        rw [← HLY.out]; exact length_any w' s5 a5 m5 c5 z5 (Y ^ m) (HI5.out.below hb) (by omega))
      clear hi5 hb5 hle
      go_wp2_with fail
      refine (HLN.out _ (by go_grown)).mono ?_
      rintro e w6 ⟨rfl, hb6⟩
      have HB6 := Lib.hid (HB5.out.trans ((Below.trans (by go_grown) (hb6.mono (by go_size)) : Below w4.heap.size w4 w6).mono HB5.out.size))
      clear hb6
      go_wp2_with fail
      refine (awake_any _).mono ?_
      rintro e w7 ⟨rfl, hb7⟩
      go_wp2_with fail
      go_ret
      exact ⟨rfl, HB6.out.trans (hb7.mono HB6.out.size)⟩
    · rw [HLY.out] at hgt
      have hli : ¬ (l : Int) ≤ 65536 := by omega
      have hln : (65536 : Int) < (l : Int) := by omega
      have HB5 := Lib.hid (HBY.out.trans (hb5.mono HBY.out.size))
      clear hb5 hgt
      go_wp2_with fail
      refine (awake_any _).mono ?_
      rintro e w7 ⟨rfl, hb7⟩
      have HB7 := Lib.hid (HB5.out.trans ((Below.trans (by go_grown) (hb7.mono (by go_size)) : Below w4.heap.size w4 w7).mono HB5.out.size))
      clear hb7
      go_wp2_with fail
      go_ret
      exact ⟨rfl, HB7.out⟩
  · skip
    go_wp2_with fail
    refine (neg_int _ s2 a2 m2 c2 z2 X (HI2.out.below (by go_grown)) (by omega)).mono ?_
    rintro e w3 ⟨s3, a3, m3, c3, z3, rfl, hi3, hm3, hb3⟩
    have hm3b : m3 ≤ 1048576 := by omega
    have hr3 : w3.heap[w2.heap.size]? = some (.cells #[.bool s2, .slice a2 m2 c2] 28 (0, 0)) := (hb3.block _ (by go_size)).trans (heap_alloc_new w2 _)
    obtain ⟨x0, x1, g0, g1⟩ := blk2 hr3
    have HI3 := Lib.hid (hi3.stored hr3 (.bool s3) (.slice a3 m3 c3))
    have hb23 : Below w2.heap.size w2 w3 := Below.trans (by go_grown) (hb3.mono (by go_size))
    have HB3 := Lib.hid (((HB2.out.trans (hb23.mono HB2.out.size)).setCell (p := ⟨w2.heap.size, 0, none⟩) HB2.out.size (.bool s3)).setCell (p := ⟨w2.heap.size, 1, none⟩) HB2.out.size (.slice a3 m3 c3))
    have y0 : ((w3.setCell ⟨w2.heap.size, 0, none⟩ (.bool s3)).setCell ⟨w2.heap.size, 1, none⟩ (.slice a3 m3 c3)).cell? ⟨w2.heap.size, 0, none⟩ = some (.bool s3) := by rw [World.cell?_setCell_other _ _ _ _ (by simp)]; exact World.cell?_setCell_same _ _ _ x0
    have y1 : ((w3.setCell ⟨w2.heap.size, 0, none⟩ (.bool s3)).setCell ⟨w2.heap.size, 1, none⟩ (.slice a3 m3 c3)).cell? ⟨w2.heap.size, 1, none⟩ = some (.slice a3 m3 c3) := World.cell?_setCell_same _ _ _ ((World.cell?_setCell_other _ _ _ _ (by simp)).trans x1)
    obtain ⟨Y, hY⟩ : ∃ Y, Y = -X := ⟨_, rfl⟩
    rw [← hY] at HI3
    have HYE := Lib.hid hY
    clear hi3 hb3 hr3 hb23 hY
    rcases Nat.mod_two_eq_zero_or_one m with hp | hp
    · have hpi : (m : Int) % 2 = 0 := by omega
      obtain ⟨l, hl⟩ : ∃ l, t + 1 = l := ⟨_, rfl⟩
      have htl : (t : Int) + 1 = (l : Int) := by omega
      have HLY : Hid (blen (cpl (Y ^ m)).toNat = l) := Lib.hid (by
        have h1 := HLEN.out
        have h2 : sgn true X = -X := rfl
        rw [h2, hp] at h1
        rw [HYE.out, h1, ← hl]; rfl)
      clear hl hp
      go_wp2_with fail
      have HIY := HI3
      have HBY := HB3
      have HPW := Lib.hid (power_any _ s3 a3 m3 c3 z3 Y m HIY.out (by omega) (by omega))
      refine HPW.out.mono ?_
      clear HPW
      rintro e w4 (⟨hle, s5, a5, m5, c5, z5, rfl, hi5, hm5, hb5⟩ | ⟨hgt, rfl, hb5⟩)
      · rw [HLY.out] at hle
        have hli : (l : Int) ≤ 65536 := by omega
        have hln : ¬ (65536 : Int) < (l : Int) := by omega
        have HI5 := Lib.hid hi5
        have HB5 := Lib.hid (HBY.out.trans (hb5.mono HBY.out.size))
        have HLN : Hid (∀ w', Below w4.heap.size w4 w' → Calls Try.prog 26 #[.agg #[.bool s5, .slice a5 m5 c5]] w' (RetV w' (.int .i64 (l : Int)))) := Lib.hid (fun w' hb => by
          rw [← HLY.out]; exact length_any w' s5 a5 m5 c5 z5 (Y ^ m) (HI5.out.below hb) (by omega))
        clear hi5 hb5 hle
        go_wp2_with fail
        refine (HLN.out _ (by go_grown)).mono ?_
        rintro e w6 ⟨rfl, hb6⟩
        have HB6 := Lib.hid (HB5.out.trans ((Below.trans (by go_grown) (hb6.mono (by go_size)) : Below w4.heap.size w4 w6).mono HB5.out.size))
        clear hb6
        go_wp2_with fail
        refine (awake_any _).mono ?_
        rintro e w7 ⟨rfl, hb7⟩
        go_wp2_with fail
        go_ret
        exact ⟨rfl, HB6.out.trans (hb7.mono HB6.out.size)⟩
      · rw [HLY.out] at hgt
        have hli : ¬ (l : Int) ≤ 65536 := by omega
        have hln : (65536 : Int) < (l : Int) := by omega
        have HB5 := Lib.hid (HBY.out.trans (hb5.mono HBY.out.size))
        clear hb5 hgt
        go_wp2_with fail
        refine (awake_any _).mono ?_
        rintro e w7 ⟨rfl, hb7⟩
        have HB7 := Lib.hid (HB5.out.trans ((Below.trans (by go_grown) (hb7.mono (by go_size)) : Below w4.heap.size w4 w7).mono HB5.out.size))
        clear hb7
        go_wp2_with fail
        go_ret
        exact ⟨rfl, HB7.out⟩
    · have hpi : (m : Int) % 2 = 1 := by omega
      obtain ⟨l, hl⟩ : ∃ l, t + 0 = l := ⟨_, rfl⟩
      have htl : (t : Int) + 1 - 1 = (l : Int) := by omega
      have htl2 : (t : Int) = (l : Int) := by omega
      have HLY : Hid (blen (cpl (Y ^ m)).toNat = l) := Lib.hid (by
        have h1 := HLEN.out
        have h2 : sgn true X = -X := rfl
        rw [h2, hp] at h1
        rw [HYE.out, h1, ← hl]; rfl)
      clear hl hp
      go_wp2_with fail
      have HIY := HI3
      have HBY := HB3
      have HPW := Lib.hid (power_any _ s3 a3 m3 c3 z3 Y m HIY.out (by omega) (by omega))
      refine HPW.out.mono ?_
      clear HPW
      rintro e w4 (⟨hle, s5, a5, m5, c5, z5, rfl, hi5, hm5, hb5⟩ | ⟨hgt, rfl, hb5⟩)
      · rw [HLY.out] at hle
        have hli : (l : Int) ≤ 65536 := by omega
        have hln : ¬ (65536 : Int) < (l : Int) := by omega
        have HI5 := Lib.hid hi5
        have HB5 := Lib.hid (HBY.out.trans (hb5.mono HBY.out.size))
        have HLN : Hid (∀ w', Below w4.heap.size w4 w' → Calls Try.prog 26 #[.agg #[.bool s5, .slice a5 m5 c5]] w' (RetV w' (.int .i64 (l : Int)))) := Lib.hid (fun w' hb => by
          rw [← HLY.out]; exact length_any w' s5 a5 m5 c5 z5 (Y ^ m) (HI5.out.below hb) (by omega))
        clear hi5 hb5 hle
        go_wp2_with fail
        refine (HLN.out _ (by go_grown)).mono ?_
        rintro e w6 ⟨rfl, hb6⟩
        have HB6 := Lib.hid (HB5.out.trans ((Below.trans (by go_grown) (hb6.mono (by go_size)) : Below w4.heap.size w4 w6).mono HB5.out.size))
        clear hb6
        go_wp2_with fail
        refine (awake_any _).mono ?_
        rintro e w7 ⟨rfl, hb7⟩
        go_wp2_with fail
        go_ret
        exact ⟨rfl, HB6.out.trans (hb7.mono HB6.out.size)⟩
      · rw [HLY.out] at hgt
        have hli : ¬ (l : Int) ≤ 65536 := by omega
        have hln : (65536 : Int) < (l : Int) := by omega
        have HB5 := Lib.hid (HBY.out.trans (hb5.mono HBY.out.size))
        clear hb5 hgt
        go_wp2_with fail
        refine (awake_any _).mono ?_
        rintro e w7 ⟨rfl, hb7⟩
        have HB7 := Lib.hid (HB5.out.trans ((Below.trans (by go_grown) (hb7.mono (by go_size)) : Below w4.heap.size w4 w7).mono HB5.out.size))
        clear hb7
        go_wp2_with fail
        go_ret
        exact ⟨rfl, HB7.out⟩
end Go.Proofs.Ytihfokdehcdgdaa
