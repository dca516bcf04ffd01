/- Shift of the program's integers, upwards. -/
import Derived.Test.YtpakfknacmcohaaPows
namespace Go.Proofs.Ytpakfknacmcohaa
open Go.RowKit
set_option autoImplicit false
set_option linter.unusedVariables false

theorem sgn_two (nx : Bool) (v : Int) (k : Nat) : sgn nx v * 2 ^ k = sgn nx (v * 2 ^ k) := by
  cases nx <;> simp [sgn, Int.neg_mul]

set_option maxRecDepth 100000 in
theorem shift_large (w : World) (nx : Bool) (ao : Option Addr) (n cap : Nat) (xs : List Int) (x : Int) (k : Nat) (hx : IntAt w nx ao n cap xs x) (hn : n ≤ 1048576) (hk0 : 1 ≤ k) (hk : k ≤ 9223372036854775807) (hx0 : x ≠ 0) (hfar : 65536 < k + blen (cpl x).toNat) :
    Calls Try.prog 50 #[.agg #[.bool nx, .slice ao n cap], .int .i64 (k : Int)] w (RetZero w 14) := by
  obtain ⟨L, hL⟩ : ∃ L, blen (cpl x).toNat = L := ⟨_, rfl⟩
  rw [hL] at hfar
  have hLb : L ≤ 33554432 := by
    have h0 := val_nonneg hx.lim
    have h1 := hx.abs
    have h2 := len_of_blen hx.lim hx.top
    rw [hx.sl.len] at h2
    have h3 := blen_lt (val xs).toNat
    have h4 : blen (cpl x).toNat ≤ blen (val xs).toNat := by
      rw [blen_le_iff]
      unfold cpl
      split <;> omega
    omega
  obtain ⟨c, hc⟩ : ∃ c, cmpI x 0 = c := ⟨_, rfl⟩
  have hcn : c ≠ 0 := by rw [← hc]; unfold cmpI; split <;> (try split) <;> omega
  have hcb : (c != 0) = true := by simpa using hcn
  have HS : Hid (∀ w', Below w.heap.size w w' → Calls Try.prog 22 #[.agg #[.bool nx, .slice ao n cap]] w' (RetV w' (.int .i64 c))) := Lib.hid (fun w' hb => by
    rw [← hc]; exact sign_int w' nx ao n cap xs x (hx.below hb))
  have HL : Hid (∀ w', Below w.heap.size w w' → Calls Try.prog 26 #[.agg #[.bool nx, .slice ao n cap]] w' (RetV w' (.int .i64 (L : Int)))) := Lib.hid (fun w' hb => by
    rw [← hL]; exact length_any w' nx ao n cap xs x (hx.below hb) (by omega))
  have hki : (0 : Int) < k := by omega
  have hf : 65536 - (L : Int) < (k : Int) := by omega
  clear hx hL hc hx0 hcn
  go_enter Try.func50, Try.ntmps50
  go_wp2_with fail
  refine (HS.out _ (by go_grown)).mono ?_
  rintro e w1 ⟨rfl, hb1⟩
  have hr1 := (hb1.block w.heap.size (by go_size)).trans (heap_alloc2 w _ _).2
  have hr2 := (hb1.block (w.heap.size + 1) (by go_size)).trans (heap_alloc2 w _ _).1
  have hz1 : w.heap.size + 1 + 1 ≤ w1.heap.size := Nat.le_trans (by go_size) hb1.size
  have hb2 : Below w.heap.size w w1 := Below.trans (by go_grown) (hb1.mono (by go_size))
  obtain ⟨x0, x1, -, -⟩ := blk2 hr1
  clear hr1 hb1
  go_wp2_with fail
  refine (HL.out _ hb2).mono ?_
  rintro e w2 ⟨rfl, hb3⟩
  have hr3 := (hb3.block (w.heap.size + 1) (by omega)).trans hr2
  have hb4 : Below w.heap.size w w2 := hb2.trans (hb3.mono hb2.size)
  obtain ⟨c0, c1, f0, f1⟩ := blk2 hr3
  clear hr2 hb3 hb2 hr3 x0 x1
  go_wp2_with fail
  refine bodyPost_ret (v := .tuple #[.agg #[.bool false, .slice none 0 0], .int .i64 14]) (by simp [results, Try.results50, go_sem, c0, c1]) rfl ?_
  exact ⟨rfl, (hb4.setCell (p := ⟨w.heap.size + 1, 0, none⟩) (by dsimp only; omega) _).setCell (p := ⟨w.heap.size + 1, 1, none⟩) (by dsimp only; omega) _⟩

set_option maxRecDepth 100000 in
theorem shift_up (w : World) (nx : Bool) (ao : Option Addr) (n cap : Nat) (xs : List Int) (x : Int) (k : Nat) (hx : IntAt w nx ao n cap xs x) (hn : n ≤ 1048576) (hk0 : 1 ≤ k) (hk : k ≤ 9223372036854775807) (hnear : x = 0 ∨ k + blen (cpl x).toNat ≤ 65536) :
    Calls Try.prog 50 #[.agg #[.bool nx, .slice ao n cap], .int .i64 (k : Int)] w (RetIE w (x * 2 ^ k) (n + 2050)) := by
  have HX := Lib.hid hx
  have hlim := hx.lim
  obtain ⟨L, hL⟩ : ∃ L, blen (cpl x).toNat = L := ⟨_, rfl⟩
  obtain ⟨c, hc⟩ : ∃ c, cmpI x 0 = c := ⟨_, rfl⟩
  have HS : Hid (∀ w', Below w.heap.size w w' → Calls Try.prog 22 #[.agg #[.bool nx, .slice ao n cap]] w' (RetV w' (.int .i64 c))) := Lib.hid (fun w' hb => by
    rw [← hc]; exact sign_int w' nx ao n cap xs x (hx.below hb))
  have HL : Hid (∀ w', Below w.heap.size w w' → Calls Try.prog 26 #[.agg #[.bool nx, .slice ao n cap]] w' (RetV w' (.int .i64 (L : Int)))) := Lib.hid (fun w' hb => by
    rw [← hL]; exact length_any w' nx ao n cap xs x (hx.below hb) (by omega))
  have HU : Hid (∀ w', Below w.heap.size w w' → Calls Try.prog 98 #[.slice ao n cap, .int .i64 (k : Int)] w' (RetNat w' (val xs * 2 ^ k) (n + 2049))) := Lib.hid (fun w' hb => by
    by_cases hn0 : n = 0
    · have hl := hx.sl.len
      have hz : xs = [] := List.eq_nil_of_length_eq_zero (by omega)
      rw [hz]
      subst hn0
      refine (shiftUp_nil w' ao cap k).mono ?_
      rintro e w2 ⟨a2, m2, c2, z2, he, ho, h1, h2, h3, h4, h5⟩
      exact ⟨a2, m2, c2, z2, he, ho, h1, h2, by rw [h3]; simp [Go.Proofs.Ytpakfknacmcohaa.val], by omega, h5⟩
    · have hk2 : k ≤ 65536 := by
        rcases hnear with h | h
        · exfalso
          have h1 := hx.val
          have hl := hx.sl.len
          have hne : xs ≠ [] := by intro hh; rw [hh] at hl; simp at hl; omega
          have h2 := val_pos_of_top hx.lim hx.top hne
          have h3 := pow_pos (xs.length - 1)
          rw [h] at h1
          cases nx <;> simp [sgn] at h1 <;> omega
        · omega
      have := shiftUp_any w' ao n cap xs (k / 32) (k % 32) (hx.sl.below hb) hx.lim (by omega) (by omega) (by omega) (by omega)
      rw [show 32 * (k / 32) + k % 32 = k by omega] at this
      refine this.mono ?_
      rintro e w2 ⟨a2, m2, c2, z2, he, ho, h1, h2, h3, h4, h5⟩
      exact ⟨a2, m2, c2, z2, he, ho, h1, h2, h3, by omega, h5⟩)
  have hv : x * 2 ^ k = sgn nx (val xs * 2 ^ k) := by rw [hx.val, sgn_two]
  have HV := Lib.hid hv
  have hki : (0 : Int) < k := by omega
  by_cases hx0 : x = 0
  · have hc0 : c = 0 := by rw [← hc, hx0]; rfl
    subst hc0
    clear hx hL hc hx0 hv hnear
    go_enter Try.func50, Try.ntmps50
    go_wp2_with fail
    refine (HS.out _ (by go_grown)).mono ?_
    rintro e w1 ⟨rfl, hb1⟩
    have hr1 := (hb1.block w.heap.size (by go_size)).trans (heap_alloc2 w _ _).2
    have hr2 := (hb1.block (w.heap.size + 1) (by go_size)).trans (heap_alloc2 w _ _).1
    have hz1 : w.heap.size + 1 + 1 ≤ w1.heap.size := Nat.le_trans (by go_size) hb1.size
    have hb2 : Below w.heap.size w w1 := Below.trans (by go_grown) (hb1.mono (by go_size))
    obtain ⟨x0, x1, -, -⟩ := blk2 hr1
    clear hr1 hb1
    go_wp2_with fail
    have HKP : Hid (∀ w', Below w1.heap.size w1 w' → (w'.cell? ⟨w.heap.size, 0, none⟩ = some (.bool nx) ∧ w'.cell? ⟨w.heap.size, 1, none⟩ = some (.slice ao n cap))) := Lib.hid (fun w' hb => ⟨(hb.cell (p := ⟨w.heap.size, 0, none⟩) (by dsimp only; omega)).trans x0, (hb.cell (p := ⟨w.heap.size, 1, none⟩) (by dsimp only; omega)).trans x1⟩)
    go_region_held3 (fun w' => w'.cell? ⟨w.heap.size, 0, none⟩ = some (.bool nx) ∧ w'.cell? ⟨w.heap.size, 1, none⟩ = some (.slice ao n cap)) ((first | exact HKP.out _ X2 | exact HKP.out _ X1 | exact HKP.out _ (Below.refl _ _).drew | (go_split_ands; refine ⟨?_, ?_⟩ <;> (rw [World.cell?_setCell_far _ _ _ _ (by dsimp only; omega), World.cell?_setCell_far _ _ _ _ (by dsimp only; omega)]; assumption))))
      (first | (go_at_call 98; refine (HU.out _ (hb2.trans ((Below.refl _ _).drew.mono hb2.size))).mono ?_; rintro e v1 ⟨a2, m2, c2, z2, rfl, hown, hl2, ht2, hv2, hm2, u1⟩; have X1 : Below w1.heap.size w1 v1 := (Below.refl _ _).drew.trans u1; have HS2 := Lib.hid hown.sl; have HV2 := Lib.hid hv2; clear hown hv2) | (go_at_call 70; refine (wrap_int _ nx a2 m2 c2 z2 HS2.out hl2 rfl).mono ?_; rintro e v2 ⟨neg', ao', n', cap', zs', rfl, hint, hn', u2⟩; have X2 : Below w1.heap.size w1 v2 := X1.trans (u2.mono X1.size); have hr4 := (X2.block _ (by omega)).trans hr2; obtain ⟨c0, c1, f0, f1⟩ := blk2 hr4; have HI := Lib.hid (hint.stored hr4 (.bool neg') (.slice ao' n' cap')); clear hint hr4))
    have hb4 : Below w.heap.size w v2 := hb2.trans (X2.mono hb2.size)
    have hz4 := X2.size
    go_wp2_with fail
    refine bodyPost_ret (v := .tuple #[.agg #[.bool neg', .slice ao' n' cap'], .int .i64 0]) (by simp [results, Try.results50, go_sem, c0, c1]) rfl ?_
    exact ⟨_, _, _, _, _, rfl, by rw [HV.out, ← HV2.out]; exact HI.out, by omega, (hb4.setCell (p := ⟨w.heap.size + 1, 0, none⟩) (by dsimp only; omega) _).setCell (p := ⟨w.heap.size + 1, 1, none⟩) (by dsimp only; omega) _⟩
  · have hcn : c ≠ 0 := by rw [← hc]; unfold cmpI; split <;> (try split) <;> omega
    have hcb : (c != 0) = true := by simpa using hcn
    have hf : ¬ 65536 - (L : Int) < (k : Int) := by rcases hnear with h | h; exact absurd h hx0; omega
    have hLb : L ≤ 65536 := by rcases hnear with h | h; exact absurd h hx0; omega
    clear hx hL hc hx0 hv hnear hcn
    go_enter Try.func50, Try.ntmps50
    go_wp2_with fail
    refine (HS.out _ (by go_grown)).mono ?_
    rintro e w0 ⟨rfl, hb0⟩
    have hr0 := (hb0.block w.heap.size (by go_size)).trans (heap_alloc2 w _ _).2
    have hq0 := (hb0.block (w.heap.size + 1) (by go_size)).trans (heap_alloc2 w _ _).1
    have hz0 : w.heap.size + 1 + 1 ≤ w0.heap.size := Nat.le_trans (by go_size) hb0.size
    have hb9 : Below w.heap.size w w0 := Below.trans (by go_grown) (hb0.mono (by go_size))
    obtain ⟨y0, y1, -, -⟩ := blk2 hr0
    clear hb0
    go_wp2_with fail
    refine (HL.out _ hb9).mono ?_
    rintro e w1 ⟨rfl, hb1⟩
    have hr1 := (hb1.block w.heap.size (by omega)).trans hr0
    have hr2 := (hb1.block (w.heap.size + 1) (by omega)).trans hq0
    have hz1 : w.heap.size + 1 + 1 ≤ w1.heap.size := Nat.le_trans hz0 hb1.size
    have hb2 : Below w.heap.size w w1 := hb9.trans (hb1.mono hb9.size)
    obtain ⟨x0, x1, -, -⟩ := blk2 hr1
    clear hr1 hb1 y0 y1 hr0 hq0 hb9
    go_wp2_with fail
    have HKP : Hid (∀ w', Below w1.heap.size w1 w' → (w'.cell? ⟨w.heap.size, 0, none⟩ = some (.bool nx) ∧ w'.cell? ⟨w.heap.size, 1, none⟩ = some (.slice ao n cap))) := Lib.hid (fun w' hb => ⟨(hb.cell (p := ⟨w.heap.size, 0, none⟩) (by dsimp only; omega)).trans x0, (hb.cell (p := ⟨w.heap.size, 1, none⟩) (by dsimp only; omega)).trans x1⟩)
    go_region_held3 (fun w' => w'.cell? ⟨w.heap.size, 0, none⟩ = some (.bool nx) ∧ w'.cell? ⟨w.heap.size, 1, none⟩ = some (.slice ao n cap)) ((first | exact HKP.out _ X2 | exact HKP.out _ X1 | exact HKP.out _ (Below.refl _ _).drew | (go_split_ands; refine ⟨?_, ?_⟩ <;> (rw [World.cell?_setCell_far _ _ _ _ (by dsimp only; omega), World.cell?_setCell_far _ _ _ _ (by dsimp only; omega)]; assumption))))
      (first | (go_at_call 98; refine (HU.out _ (hb2.trans ((Below.refl _ _).drew.mono hb2.size))).mono ?_; rintro e v1 ⟨a2, m2, c2, z2, rfl, hown, hl2, ht2, hv2, hm2, u1⟩; have X1 : Below w1.heap.size w1 v1 := (Below.refl _ _).drew.trans u1; have HS2 := Lib.hid hown.sl; have HV2 := Lib.hid hv2; clear hown hv2) | (go_at_call 70; refine (wrap_int _ nx a2 m2 c2 z2 HS2.out hl2 rfl).mono ?_; rintro e v2 ⟨neg', ao', n', cap', zs', rfl, hint, hn', u2⟩; have X2 : Below w1.heap.size w1 v2 := X1.trans (u2.mono X1.size); have hr4 := (X2.block _ (by omega)).trans hr2; obtain ⟨c0, c1, f0, f1⟩ := blk2 hr4; have HI := Lib.hid (hint.stored hr4 (.bool neg') (.slice ao' n' cap')); clear hint hr4))
    have hb4 : Below w.heap.size w v2 := hb2.trans (X2.mono hb2.size)
    have hz4 := X2.size
    go_wp2_with fail
    refine bodyPost_ret (v := .tuple #[.agg #[.bool neg', .slice ao' n' cap'], .int .i64 0]) (by simp [results, Try.results50, go_sem, c0, c1]) rfl ?_
    exact ⟨_, _, _, _, _, rfl, by rw [HV.out, ← HV2.out]; exact HI.out, by omega, (hb4.setCell (p := ⟨w.heap.size + 1, 0, none⟩) (by dsimp only; omega) _).setCell (p := ⟨w.heap.size + 1, 1, none⟩) (by dsimp only; omega) _⟩
end Go.Proofs.Ytpakfknacmcohaa
