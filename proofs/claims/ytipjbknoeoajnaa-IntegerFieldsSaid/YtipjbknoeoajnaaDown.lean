/- Shift of the program's integers, downwards. -/
import Derived.Test.YtipjbknoeoajnaaField
namespace Go.Proofs.Ytipjbknoeoajnaa
open Go.RowKit
set_option autoImplicit false
set_option linter.unusedVariables false

theorem cpl_nonneg (x : Int) : 0 ≤ cpl x := by unfold cpl; split <;> omega
theorem cpl_down (x : Int) (s : Nat) : x / 2 ^ s = if x < 0 then -(cpl x / 2 ^ s + 1) else cpl x / 2 ^ s := by
  unfold cpl
  by_cases h : x < 0
  · rw [if_pos h, if_pos h]
    obtain ⟨c, hc⟩ : ∃ c : Nat, -1 - x = c := ⟨(-1 - x).toNat, by omega⟩
    obtain rfl : x = -1 - (c : Int) := by omega
    rw [compl_div, hc]
    simp
    omega
  · rw [if_neg h, if_neg h]

/-- A shift by more than all bits leaves what one by all bits leaves. -/
theorem down_far (x : Int) (s L : Nat) (hL : blen (cpl x).toNat = L) (h : L ≤ s) : cpl x / 2 ^ s = cpl x / 2 ^ L := by
  have h0 := cpl_nonneg x
  have h1 := blen_lt (cpl x).toNat
  rw [hL] at h1
  have h2 : cpl x < 2 ^ L := by
    have : (((cpl x).toNat : Nat) : Int) < ((2 ^ L : Nat) : Int) := by exact_mod_cast h1
    simp at this
    omega
  have h3 := two_le h
  rw [Int.ediv_eq_zero_of_lt h0 h2, Int.ediv_eq_zero_of_lt h0 (by omega)]

set_option maxRecDepth 100000 in
set_option maxHeartbeats 1000000 in
theorem shift_down (w : World) (nx : Bool) (ao : Option Addr) (n cap : Nat) (xs : List Int) (x : Int) (s : Nat) (hx : IntAt w nx ao n cap xs x) (hn : n ≤ 1048576) (hs : s ≤ 9223372036854775808) :
    Calls Try.prog 50 #[.agg #[.bool nx, .slice ao n cap], .int .i64 (-(s : Int))] w (RetIE w (x / 2 ^ s) (n + 2)) := by
  have HX := Lib.hid hx
  obtain ⟨L, hL⟩ : ∃ L, blen (cpl x).toNat = L := ⟨_, rfl⟩
  have hLb : L ≤ 33554432 := by
    have h0 := val_nonneg hx.lim
    have h1 := hx.abs
    have h2 := len_of_blen hx.lim hx.top
    rw [hx.sl.len] at h2
    have h3 := blen_lt (val xs).toNat
    have h4 : blen (cpl x).toNat ≤ blen (val xs).toNat := by
      rw [blen_le_iff]
      unfold cpl
      split <;> omega
    omega
  obtain ⟨D, hD⟩ : ∃ D, cpl x / 2 ^ s = D := ⟨_, rfl⟩
  have HL : Hid (∀ w', Below w.heap.size w w' → Calls Try.prog 26 #[.agg #[.bool nx, .slice ao n cap]] w' (RetV w' (.int .i64 (L : Int)))) := Lib.hid (fun w' hb => by
    rw [← hL]; exact length_any w' nx ao n cap xs x (hx.below hb) (by omega))
  have HC : Hid (∀ w', Below w.heap.size w w' → Calls Try.prog 78 #[.agg #[.bool nx, .slice ao n cap]] w' (RetNat w' (cpl x) n)) := Lib.hid (fun w' hb => complement_any w' nx ao n cap xs x (hx.below hb) (by omega))
  obtain ⟨d, hd, hdL, hdv⟩ : ∃ d : Nat, ((s : Int) ≤ L ∧ d = s ∨ ¬ (s : Int) ≤ L ∧ d = L) ∧ d ≤ L ∧ cpl x / 2 ^ d = D := by
    by_cases h : s ≤ L
    · exact ⟨s, .inl ⟨by omega, rfl⟩, h, hD⟩
    · exact ⟨L, .inr ⟨by omega, rfl⟩, Nat.le_refl _, by rw [← hD, down_far x s L hL (by omega)]⟩
  have HV : Hid (x / 2 ^ s = if x < 0 then -(D + 1) else D) := Lib.hid (by rw [cpl_down, hD])
  have HDV := Lib.hid hdv
  have HNX : Hid (nx = decide (x < 0)) := Lib.hid (neg_iff' hx)
  have hs0 : ¬ (0 : Int) < -(s : Int) := by omega
  clear hx hL hD hdv
  obtain ⟨S, hS⟩ : ∃ S : Int, -(s : Int) = S := ⟨_, rfl⟩
  rw [hS] at hs0 ⊢
  have hS1 : -9223372036854775808 ≤ S := by omega
  have hdd : (S < -(L : Int) ∧ L = d) ∨ (¬ S < -(L : Int) ∧ S = -(d : Int)) := by omega
  clear hS hd
  rcases hdd with ⟨h1, rfl⟩ | ⟨h1, rfl⟩
  all_goals
    go_enter Try.func50, Try.ntmps50
    go_wp2_with fail
    refine (HL.out _ (by go_grown)).mono ?_
    rintro e w1 ⟨rfl, hb1⟩
    have hr1 := (hb1.block w.heap.size (by go_size)).trans (heap_alloc2 w _ _).2
    have hr2 := (hb1.block (w.heap.size + 1) (by go_size)).trans (heap_alloc2 w _ _).1
    have hz1 : w.heap.size + 1 + 1 ≤ w1.heap.size := Nat.le_trans (by go_size) hb1.size
    have hb2 : Below w.heap.size w w1 := Below.trans (by go_grown) (hb1.mono (by go_size))
    obtain ⟨x0, x1, -, -⟩ := blk2 hr1
    clear hb1
    go_wp2_with fail
    refine (HC.out w1 hb2).mono ?_
    rintro e w2 ⟨a2, m2, c2, z2, rfl, o2, l2, t2, e2, g2, u2⟩
    have S2 := Lib.hid o2.sl
    have E2 := Lib.hid e2
    have X2 : Below w1.heap.size w1 w2 := u2
    clear o2 e2 u2
    go_wp2_with fail
    refine (down_any w2 a2 m2 c2 z2 _ S2.out l2 (by omega) (by omega)).mono ?_
    rintro e w3 ⟨a3, m3, c3, z3, rfl, o3, l3, t3, e3, g3, u3⟩
    have S3 := Lib.hid o3.sl
    have E3 : Hid (val z3 = D) := Lib.hid (by rw [e3, E2.out, HDV.out])
    have X3 : Below w1.heap.size w1 w3 := X2.trans (u3.mono X2.size)
    clear o3 e3 u3
    go_wp2_with fail
    refine (wrap_int w3 false a3 m3 c3 z3 S3.out l3 (x := D) (by rw [E3.out]; rfl)).mono ?_
    rintro e w4 ⟨n4, a4, m4, c4, z4, rfl, i4, g4, u4⟩
    have X4 : Below w1.heap.size w1 w4 := X3.trans (u4.mono X3.size)
    have hb4 : Below w.heap.size w w4 := hb2.trans (X4.mono hb2.size)
    have hz4 := X4.size
    have k1 := (X4.block _ (by omega)).trans hr1
    have k2 := (X4.block _ (by omega)).trans hr2
    have I4 := Lib.hid i4
    have K2 := Lib.hid k2
    clear i4 u4 hr1 hr2 x0 x1 X2 X3 X4
    have hD0 : 0 ≤ D := by rw [← HDV.out]; exact Int.ediv_nonneg (cpl_nonneg x) (Int.le_of_lt (Int.pow_pos (by omega)))
    have V4 : Hid (val z4 = D) := Lib.hid (by have h1 := neg_iff' I4.out; have h2 := I4.out.val; rw [decide_eq_false (by omega)] at h1; rw [h1] at h2; exact h2.symm)
    go_upto_region 7 with (fail)
    obtain ⟨w5, hw5⟩ : ∃ w5, w5 = w4.alloc (.cells #[.bool n4, .slice a4 m4 c4] 28) := ⟨_, rfl⟩
    have b45 : Below w4.heap.size w4 w5 := by rw [hw5]; go_grown
    have k3 : w5.heap[w4.heap.size]? = some (.cells #[.bool n4, .slice a4 m4 c4] 28 (0, 0)) := by rw [hw5]; exact heap_alloc_new _ _
    have hz5 : w4.heap.size + 1 ≤ w5.heap.size := by rw [hw5]; go_size
    rw [← hw5]
    clear hw5
    obtain ⟨pt, hpt⟩ : ∃ p, p = w4.heap.size := ⟨_, rfl⟩
    rw [← hpt] at hz5 k3 ⊢
    obtain ⟨y0, y1, -, -⟩ := blk2 ((b45.block _ (by omega)).trans k1)
    have k4 := (b45.block _ (by omega)).trans k2
    have K4 := Lib.hid k4
    obtain ⟨t0, t1, q0, q1⟩ := blk2 k3
    have K3 := Lib.hid k3
    have hb5 : Below w.heap.size w w5 := hb4.trans (b45.mono hb4.size)
    have I5 := Lib.hid (I4.out.below b45)
    have hpt1 : w.heap.size + 1 < pt := by omega
    have hz4' : w.heap.size + 1 + 1 ≤ w4.heap.size := by omega
    clear k1 k2 k3 b45 K2 I4 hpt
    cases nx
    · have hx0 : ¬ x < 0 := by have := HNX.out; simpa using this.symm
      have HV2 : Hid (x / 2 ^ s = D) := Lib.hid (by rw [HV.out, if_neg hx0])
      obtain ⟨v0, v1, f0, f1⟩ := blk2 k4
      clear hx0 k4
      go_wp2_with fail
      have HI := Lib.hid (I5.out.stored K4.out (.bool n4) (.slice a4 m4 c4))
      refine bodyPost_ret (v := .tuple #[.agg #[.bool n4, .slice a4 m4 c4], .int .i64 0]) (by simp [results, Try.results50, go_sem, v0, v1]) rfl ?_
      exact ⟨_, _, _, _, _, rfl, by rw [HV2.out]; exact HI.out, by omega, (hb5.setCell (p := ⟨w.heap.size + 1, 0, none⟩) (by dsimp only; omega) _).setCell (p := ⟨w.heap.size + 1, 1, none⟩) (by dsimp only; omega) _⟩
    · have hx0 : x < 0 := by have := HNX.out; simpa using this.symm
      have HV2 : Hid (x / 2 ^ s = -(D + 1)) := Lib.hid (by rw [HV.out, if_pos hx0])
      clear hx0 k4
      go_wp2_with fail
      refine (sum_any _ _ _ m4 1 c4 1 z4 [1] (I5.out.sl.below (by go_grown)) (one_row (heap_alloc_new w5 _)) I5.out.lim lim_one (by omega) (by omega)).mono ?_
      rintro e w6 ⟨a6, m6, c6, z6, rfl, o6, l6, t6, e6, g6, u6⟩
      have b56 : Below w5.heap.size w5 w6 := Below.trans (by go_grown) (u6.mono (by go_size))
      have S6 := Lib.hid o6.sl
      have E6 : Hid (val z6 = D + 1) := Lib.hid (by rw [e6, V4.out]; simp [val])
      clear o6 e6 u6
      have k5 := (b56.block _ (by omega)).trans K3.out
      obtain ⟨t0', t1', q0', q1'⟩ := blk2 k5
      clear t0 t1 q0 q1
      go_wp2_with fail
      refine (wrap_int w6 true a6 m6 c6 z6 S6.out l6 (x := -(D + 1)) (by rw [E6.out]; rfl)).mono ?_
      rintro e w7 ⟨n7, a7, m7, c7, z7, rfl, i7, g7, u7⟩
      have b57 : Below w5.heap.size w5 w7 := b56.trans (u7.mono b56.size)
      have hz7 := b57.size
      have k7 := (b57.block pt (by omega)).trans K3.out
      have k8 := (b57.block (w.heap.size + 1) (by omega)).trans K4.out
      have hb7 : Below w.heap.size w w7 := hb5.trans (b57.mono hb5.size)
      obtain ⟨t0, t1, q0, q1⟩ := blk2 k7
      obtain ⟨v0, v1, f0, f1⟩ := blk2 k8
      have I7 := Lib.hid i7
      have K7 := Lib.hid k7
      have K8 := Lib.hid k8
      have hne : pt ≠ w.heap.size + 1 := by omega
      clear i7 u7 k7 k8 k5 t0' t1' q0' q1' y0 y1
      go_wp2_with fail
      have i8 := I7.out.stored K7.out (.bool n7) (.slice a7 m7 c7)
      have k9 : ((w7.setCell ⟨pt, 0, none⟩ (.bool n7)).setCell ⟨pt, 1, none⟩ (.slice a7 m7 c7)).heap[w.heap.size + 1]? = some (.cells #[.bool false, .slice none 0 0] 28 (0, 0)) := by
        rw [Below.heap_setCell _ _ _ _ (by dsimp only; omega), Below.heap_setCell _ _ _ _ (by dsimp only; omega)]
        exact K8.out
      have HI := Lib.hid (i8.stored k9 (.bool n7) (.slice a7 m7 c7))
      obtain ⟨v2, v3, -, -⟩ := blk2 k9
      refine bodyPost_ret (v := .tuple #[.agg #[.bool n7, .slice a7 m7 c7], .int .i64 0]) (by simp [results, Try.results50, go_sem, v2, v3]) rfl ?_
      exact ⟨_, _, _, _, _, rfl, by rw [HV2.out]; exact HI.out, by omega, (((hb7.setCell (p := ⟨pt, 0, none⟩) (by dsimp only; omega) _).setCell (p := ⟨pt, 1, none⟩) (by dsimp only; omega) _).setCell (p := ⟨w.heap.size + 1, 0, none⟩) (by dsimp only; omega) _).setCell (p := ⟨w.heap.size + 1, 1, none⟩) (by dsimp only; omega) _⟩
end Go.Proofs.Ytipjbknoeoajnaa
