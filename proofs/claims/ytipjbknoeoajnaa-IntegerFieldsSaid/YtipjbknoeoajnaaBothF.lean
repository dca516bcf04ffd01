/- Both Shifts, both Fields, both Deposits answer the same. -/
import Derived.Test.YtipjbknoeoajnaaRDep
import Derived.Test.YtipjbknoeoajnaaLBits
namespace Go.Proofs.Ytipjbknoeoajnaa
open Go.RowKit
set_option autoImplicit false
set_option linter.unusedVariables false

theorem shift_all {x : Int} {s : Nat} (h : blen x.natAbs < s) : x / 2 ^ s = if x < 0 then -1 else 0 := by
  have h1 := blen_lt x.natAbs
  have h2 : 2 ^ blen x.natAbs ≤ 2 ^ s := Nat.pow_le_pow_right (by omega) (by omega)
  obtain ⟨P, hP⟩ : ∃ P : Nat, 2 ^ s = P := ⟨_, rfl⟩
  have hPi : (2 : Int) ^ s = (P : Int) := by rw [← hP]; simp
  rw [hP] at h2
  rw [hPi]
  by_cases hx : x < 0
  · rw [if_pos hx]
    have e : x = (x + P) + P * (-1) := by omega
    rw [e, Int.add_mul_ediv_left _ _ (by omega), Int.ediv_eq_zero_of_lt (by omega) (by omega)]
    rfl
  · rw [if_neg hx, Int.ediv_eq_zero_of_lt (by omega) (by omega)]

theorem toBoth {w : World} {x y : Int} {L M : Nat} (hxy : x = y) (hL : L ≤ M) {e : Ending} {w' : World} (h : RetIE w x L e w') : RetBoth w y 0 M e w' := by
  obtain ⟨a, b, c, d, f, h1, h2, h3, h4⟩ := h
  exact ⟨a, b, c, d, f, h1, hxy ▸ h2, by omega, h4⟩
theorem toBothR {w : World} {x y : Int} {L M : Nat} (hxy : x = y) (hL : L ≤ M) {e : Ending} {w' : World} (h : RetRE w x L e w') : RetBothR w y 0 M e w' := by
  obtain ⟨a, b, c, d, f, h1, h2, h3, h4⟩ := h
  exact ⟨a, b, c, d, f, h1, hxy ▸ h2, by omega, h4⟩
theorem zBoth {w : World} {c : Int} {M : Nat} {e : Ending} {w' : World} (h : RetZero w c e w') : RetBoth w 0 c M e w' := by
  obtain ⟨h1, h2⟩ := h
  exact ⟨_, _, _, _, _, h1, int_zero' _, by omega, h2⟩
theorem zBothR {w : World} {c : Int} {M : Nat} {e : Ending} {w' : World} (h : RetZeroR w c e w') : RetBothR w 0 c M e w' := by
  obtain ⟨h1, h2⟩ := h
  exact ⟨_, _, _, _, _, h1, ref_zero _, by omega, h2⟩

theorem both_shift (n : Int) (nx ux : Bool) (ao uo : Option Addr) (n1 n' capa capc : Nat) (xs us : List Int) (x : Int) (w1 : World) (hx : IntAt w1 nx ao n1 capa xs x) (hu : RefAt w1 ux uo n' capc us x)
    (h1 : n1 ≤ 1000) (h2 : n' ≤ 1000) (hn : n ≤ 300 ∨ 65536 < n) (hlo : -9223372036854775808 ≤ n) (hhi : n ≤ 9223372036854775807) :
    ∃ p c : Int, (∀ w2, Below w1.heap.size w1 w2 → Calls Try.prog 50 #[.agg #[.bool nx, .slice ao n1 capa], .int .i64 n] w2 (RetBoth w2 p c 1048577)) ∧
      ∀ w2, Below w1.heap.size w1 w2 → Calls Try.prog 55 #[.agg #[.bool ux, .slice uo n' capc], .int .i64 n] w2 (RetBothR w2 p c 33554432) := by
  by_cases hneg : n < 0
  · obtain ⟨s, rfl⟩ : ∃ s : Nat, n = -(s : Int) := ⟨n.natAbs, by omega⟩
    refine ⟨x / 2 ^ s, 0, fun w2 hb => (shift_down w2 nx ao n1 capa xs x s (hx.below hb) (by omega) (by omega)).mono fun _ _ h => toBoth rfl (by omega) h, fun w2 hb => ?_⟩
    by_cases h0 : x = 0
    · exact (rshift_zero w2 ux uo n' capc us x _ (hu.below hb) h0).mono fun _ _ h => toBothR (by rw [h0]; simp) (by omega) h
    · by_cases hf : blen x.natAbs < s
      · exact (rshift_far w2 ux uo n' capc us x _ (hu.below hb) h0 h2 (by omega) (by omega)).mono fun _ _ h => toBothR (shift_all hf).symm (by omega) h
      · exact (rshift_down w2 ux uo n' capc us x s (hu.below hb) h0 h2 (by omega) (by omega)).mono fun _ _ h => toBothR rfl (by omega) h
  · obtain ⟨k, rfl⟩ := Int.eq_ofNat_of_zero_le (show 0 ≤ n by omega)
    by_cases h0 : x = 0
    · refine ⟨0, 0, fun w2 hb => ?_, fun w2 hb => (rshift_zero w2 ux uo n' capc us x _ (hu.below hb) h0).mono fun _ _ h => toBothR rfl (by omega) h⟩
      by_cases hk0 : k = 0
      · subst hk0
        have := shift_down w2 nx ao n1 capa xs x 0 (hx.below hb) (by omega) (by omega)
        simp at this ⊢
        exact this.mono fun _ _ h => toBoth h0 (by omega) h
      · exact (shift_up w2 nx ao n1 capa xs x k (hx.below hb) (by omega) (by omega) (by omega) (.inl h0)).mono fun _ _ h => toBoth (by rw [h0]; simp) (by omega) h
    · rcases hn with hn | hn
      · exact ⟨x * 2 ^ k, 0, fun w2 hb => (shift_nonneg w2 nx ao n1 capa xs x k (hx.below hb) (by omega) (by omega)).mono fun _ _ h => toBoth rfl (by omega) h, fun w2 hb => (rshift_up w2 ux uo n' capc us x k (hu.below hb) h0 (by omega) (by omega)).mono fun _ _ h => toBothR rfl (by omega) h⟩
      · exact ⟨0, 14, fun w2 hb => (shift_large w2 nx ao n1 capa xs x k (hx.below hb) (by omega) (by omega) (by omega) h0 (by omega)).mono fun _ _ h => zBoth h, fun w2 hb => (rshift_large w2 ux uo n' capc us x k (hu.below hb) h0 (by omega)).mono fun _ _ h => zBothR h⟩

theorem both_field (size at' : Int) (nx ux : Bool) (ao uo : Option Addr) (n1 n' capa capc : Nat) (xs us : List Int) (x : Int) (w1 : World) (hx : IntAt w1 nx ao n1 capa xs x) (hu : RefAt w1 ux uo n' capc us x)
    (h1 : n1 ≤ 1000) (h2 : n' ≤ 1000) (hs : size ≤ 300 ∨ 65536 < size) (ha : at' ≤ 300 ∨ 65536 < at') :
    ∃ p c : Int, (∀ w2, Below w1.heap.size w1 w2 → Calls Try.prog 56 #[.agg #[.bool nx, .slice ao n1 capa], .int .i64 size, .int .i64 at'] w2 (RetBoth w2 p c 1048577)) ∧
      ∀ w2, Below w1.heap.size w1 w2 → Calls Try.prog 57 #[.agg #[.bool ux, .slice uo n' capc], .int .i64 size, .int .i64 at'] w2 (RetBothR w2 p c 33554432) := by
  by_cases hbad : (size < 0 ∨ 65536 < size) ∨ (at' < 0 ∨ 65536 < at')
  · exact ⟨0, 1, fun w2 _ => (field_no w2 nx ao n1 capa size at' hbad).mono fun _ _ h => zBoth h, fun w2 _ => (rfield_no w2 ux uo n' capc size at' hbad).mono fun _ _ h => zBothR h⟩
  · obtain ⟨k, rfl⟩ := Int.eq_ofNat_of_zero_le (show 0 ≤ size by omega)
    obtain ⟨a, rfl⟩ := Int.eq_ofNat_of_zero_le (show 0 ≤ at' by omega)
    exact ⟨x / 2 ^ a % 2 ^ k, 0, fun w2 hb => (field_yes w2 nx ao n1 capa xs x k a (hx.below hb) (by omega) (by omega)).mono fun _ _ h => toBoth rfl (by omega) h,
      fun w2 hb => (rfield_yes w2 ux uo n' capc us x k a (hu.below hb) (by omega) (by omega) (by omega)).mono fun _ _ h => toBothR rfl (by omega) h⟩

theorem dep_exists (x p : Int) (k a : Nat) : ∃ P : Int, ∀ i, bitZ P i = depB x p k a i := by
  obtain ⟨K, h1, h2⟩ : ∃ K, a + k ≤ K ∧ blen (cpl x).toNat ≤ K := ⟨max (a + k) (blen (cpl x).toNat), Nat.le_max_left _ _, Nat.le_max_right _ _⟩
  exact ⟨_, rdep_bits (nx := decide (x < 0)) (bs := (List.range K).map (depB x p k a)) rfl h1 h2 (fun t ht => range_getD _ _ _ ht)⟩

theorem both_dep (size at' : Int) (nx ux ny uy : Bool) (ao uo bo vo : Option Addr) (n1 n' m1 m' capa capc capb capd : Nat) (xs us ys vs : List Int) (x y : Int) (w1 : World) (hx : IntAt w1 nx ao n1 capa xs x) (hu : RefAt w1 ux uo n' capc us x) (hy : IntAt w1 ny bo m1 capb ys y) (hv : RefAt w1 uy vo m' capd vs y)
    (h1 : n1 ≤ 1000) (h2 : n' ≤ 1000) (h3 : m1 ≤ 1000) (h4 : m' ≤ 1000) (hs : size ≤ 300 ∨ 65536 < size) (ha : at' ≤ 300 ∨ 65536 < at') :
    ∃ p c : Int, (∀ w2, Below w1.heap.size w1 w2 → Calls Try.prog 58 #[.agg #[.bool nx, .slice ao n1 capa], .agg #[.bool ny, .slice bo m1 capb], .int .i64 size, .int .i64 at'] w2 (RetBoth w2 p c 1048577)) ∧
      ∀ w2, Below w1.heap.size w1 w2 → Calls Try.prog 59 #[.agg #[.bool ux, .slice uo n' capc], .agg #[.bool uy, .slice vo m' capd], .int .i64 size, .int .i64 at'] w2 (RetBothR w2 p c 33554432) := by
  by_cases hbad : (size < 0 ∨ 65536 < size) ∨ (at' < 0 ∨ 65536 < at')
  · exact ⟨0, 1, fun w2 _ => (deposit_no w2 nx ny ao bo n1 m1 capa capb size at' hbad).mono fun _ _ h => zBoth h, fun w2 _ => (rdeposit_no w2 ux uy uo vo n' m' capc capd size at' hbad).mono fun _ _ h => zBothR h⟩
  · obtain ⟨k, rfl⟩ := Int.eq_ofNat_of_zero_le (show 0 ≤ size by omega)
    obtain ⟨a, rfl⟩ := Int.eq_ofNat_of_zero_le (show 0 ≤ at' by omega)
    obtain ⟨P, hP⟩ := dep_exists x y k a
    refine ⟨P, 0, fun w2 hb => (deposit_yes w2 nx ny ao bo n1 m1 capa capb xs ys x y k a (hx.below hb) (hy.below hb) (by omega) (by omega) (by omega)).mono ?_,
      fun w2 hb => (rdeposit_yes w2 ux uy uo vo n' m' capc capd us vs x y k a (hu.below hb) (hv.below hb) (by omega) (by omega) (by omega) (by omega)).mono ?_⟩
    · rintro e w' ⟨a1, a2, a3, a4, a5, D, h1, h2, h3, h4, h5⟩
      obtain rfl : D = P := eq_of_bits (fun i => by rw [h3, hP])
      exact ⟨a1, a2, a3, a4, a5, h1, h2, by omega, h5⟩
    · rintro e w' ⟨a1, a2, a3, a4, a5, D, h1, h2, h3, h4, h5⟩
      obtain rfl : D = P := eq_of_bits (fun i => by rw [h3, hP])
      exact ⟨a1, a2, a3, a4, a5, h1, h2, by omega, h5⟩
end Go.Proofs.Ytipjbknoeoajnaa
