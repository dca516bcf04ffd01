/- HeapWords: the walk. -/
import Derived.Test.YtfjljkjldfpdlaaHNew
namespace Go.Proofs.Ytfjljkjldfpdlaa
open Go.RowKit
set_option autoImplicit false
set_option linter.unusedVariables false

theorem fix_both (n : Int) : ∃ x e : Int, 0 ≤ x ∧ x ≤ 18446744073709551615 ∧ (∀ w, Calls Try.prog 7 #[.int .i64 n] w (Ret0 w (.tuple #[.int .u64 x, .int .i64 e]))) ∧ (∀ w, Calls Try.prog 8 #[.int .i64 n] w (Ret0 w (.tuple #[.int .u64 x, .int .i64 e]))) := by
  by_cases h : -1152921504606846976 ≤ n ∧ n ≤ 1152921504606846975
  · exact ⟨fixV n, 0, (fixV_bd n).1, (fixV_bd n).2, fun w => fix_ok w n h.1 h.2, fun w => rfix_ok w n h.1 h.2⟩
  · have h' : n < -1152921504606846976 ∨ 1152921504606846975 < n := by omega
    exact ⟨0, 3, by omega, by omega, fun w => fix_no w n h', fun w => rfix_no w n h'⟩

theorem char_both (c : Int) (b0 : -2147483648 ≤ c) (b1 : c ≤ 2147483647) : ∃ x e : Int, 0 ≤ x ∧ x ≤ 18446744073709551615 ∧ (∀ w, Calls Try.prog 9 #[.int .i32 c] w (Ret0 w (.tuple #[.int .u64 x, .int .i64 e]))) ∧ (∀ w, Calls Try.prog 10 #[.int .i32 c] w (Ret0 w (.tuple #[.int .u64 x, .int .i64 e]))) := by
  by_cases h : Rune c
  · have hb : 0 ≤ c ∧ c ≤ 1114111 := by unfold Rune at h; omega
    exact ⟨chV c, 0, by unfold chV; omega, by unfold chV; omega, fun w => char_yes w c h, fun w => rchar_yes w c h⟩
  · exact ⟨0, 3, by omega, by omega, fun w => char_no w c h, fun w => rchar_no w c b0 b1 h⟩

theorem parts_both (x : Int) (h0 : 0 ≤ x) (h1 : x ≤ 18446744073709551615) : ∃ (a : Int) (ok : Bool) (d : Int) (is : Bool) (r : Bool),
    ((∀ w, Calls Try.prog 11 #[.int .u64 x] w (Ret0 w (.tuple #[.int .i64 a, .bool ok]))) ∧ (∀ w, Calls Try.prog 12 #[.int .u64 x] w (Ret0 w (.tuple #[.int .i64 a, .bool ok]))) ∧
    (∀ w, Calls Try.prog 13 #[.int .u64 x] w (Ret0 w (.tuple #[.int .i32 d, .bool is]))) ∧ (∀ w, Calls Try.prog 14 #[.int .u64 x] w (Ret0 w (.tuple #[.int .i32 d, .bool is]))) ∧
    (∀ w, Calls Try.prog 15 #[.int .u64 x] w (Ret0 w (.bool r))) ∧ (∀ w, Calls Try.prog 16 #[.int .u64 x] w (Ret0 w (.bool r)))) ∧
    ((ok = true ∧ is = false ∧ r = false) ∨ (ok = false ∧ is = true ∧ r = false) ∨ (ok = false ∧ is = false)) := by
  have hr := fun w => isref_any w x h0 h1
  have hrr := fun w => risref_any w x h0 h1
  by_cases hz : x % 8 = 0
  · exact ⟨fixN x, true, 0, false, _, ⟨fun w => fixnum_yes w x h0 h1 hz, fun w => rfixnum_yes w x h0 h1 hz, fun w => character_tag w x h0 h1 (by omega), fun w => rcharacter_tag w x h0 h1 (by omega), hr, hrr⟩, .inl ⟨rfl, rfl, by simp; omega⟩⟩
  · by_cases ho : x % 8 = 1
    · by_cases hR : Rune (x / 8)
      · exact ⟨0, false, x / 8, true, _, ⟨fun w => fixnum_no w x h0 h1 hz, fun w => rfixnum_no w x h0 h1 hz, fun w => character_yes w x h0 h1 ho hR, fun w => rcharacter_yes w x h0 h1 ho hR, hr, hrr⟩, .inr (.inl ⟨rfl, rfl, by simp; omega⟩)⟩
      · exact ⟨0, false, 0, false, _, ⟨fun w => fixnum_no w x h0 h1 hz, fun w => rfixnum_no w x h0 h1 hz, fun w => character_no w x h0 h1 ho hR, fun w => rcharacter_no w x h0 h1 ho hR, hr, hrr⟩, .inr (.inr ⟨rfl, rfl⟩)⟩
    · exact ⟨0, false, 0, false, _, ⟨fun w => fixnum_no w x h0 h1 hz, fun w => rfixnum_no w x h0 h1 hz, fun w => character_tag w x h0 h1 ho, fun w => rcharacter_tag w x h0 h1 ho, hr, hrr⟩, .inr (.inr ⟨rfl, rfl⟩)⟩

set_option maxRecDepth 100000 in
set_option maxHeartbeats 2000000 in
theorem words_walk (w : World) (n c y : Int) (hc0 : -2147483648 ≤ c) (hc1 : c ≤ 2147483647) (hy0 : 0 ≤ y) (hy1 : y ≤ 18446744073709551615) :
    Calls Try.prog 3 #[.int .i64 n, .int .i32 c, .int .u64 y] w (RetV w (.bool true)) := by
  obtain ⟨x1, e1, -, -, F1, F2⟩ := fix_both n
  obtain ⟨x2, e2, hx0, hx1, C1, C2⟩ := char_both c hc0 hc1
  have HF1 := Lib.hid F1
  have HF2 := Lib.hid F2
  have HC1 := Lib.hid C1
  have HC2 := Lib.hid C2
  have HP : Hid (∀ x : Int, 0 ≤ x → x ≤ 18446744073709551615 → _) := Lib.hid parts_both
  clear F1 F2 C1 C2
  go_enter Try.func3, Try.ntmps3
  go_wp2_with fail
  refine (HF1.out _).mono ?_
  rintro e w1 ⟨rfl, rfl⟩
  go_wp2_with fail
  refine (HF2.out _).mono ?_
  rintro e w1 ⟨rfl, rfl⟩
  go_wp2_with fail
  refine (HC1.out _).mono ?_
  rintro e w1 ⟨rfl, rfl⟩
  go_wp2_with fail
  refine (HC2.out _).mono ?_
  rintro e w1 ⟨rfl, rfl⟩
  go_wp2_with fail
  go_loop [61] (fun i => ∃ k : Nat, k ≤ 2 ∧ i = .int .i64 k) (fun i => 2 - (intOf i).toNat)
  case atStart => exact ⟨0, Nat.zero_le _, rfl⟩
  case round =>
    obtain ⟨k, hk, rfl⟩ := hrel
    have hk3 : k = 0 ∨ k = 1 ∨ k = 2 := by omega
    rcases hk3 with rfl | rfl | rfl
    · clear hk
      obtain ⟨a, ok, d, is, r, ⟨P1, P2, P3, P4, P5, P6⟩, hcase⟩ := HP.out x2 (by omega) (by omega)
      have Q1 := Lib.hid P1
      have Q2 := Lib.hid P2
      have Q3 := Lib.hid P3
      have Q4 := Lib.hid P4
      have Q5 := Lib.hid P5
      have Q6 := Lib.hid P6
      clear P1 P2 P3 P4 P5 P6
      rcases hcase with ⟨rfl, rfl, rfl⟩ | ⟨rfl, rfl, rfl⟩ | ⟨rfl, rfl⟩
      · go_wp2_with (first | ((with_reducible refine (Q1.out _).mono ?_); rintro e w1 ⟨rfl, rfl⟩) | ((with_reducible refine (Q2.out _).mono ?_); rintro e w1 ⟨rfl, rfl⟩) | ((with_reducible refine (Q3.out _).mono ?_); rintro e w1 ⟨rfl, rfl⟩) | ((with_reducible refine (Q4.out _).mono ?_); rintro e w1 ⟨rfl, rfl⟩) | ((with_reducible refine (Q5.out _).mono ?_); rintro e w1 ⟨rfl, rfl⟩) | ((with_reducible refine (Q6.out _).mono ?_); rintro e w1 ⟨rfl, rfl⟩))
        go_round
        case rel => exact ⟨0 + 1, by omega, by go_num⟩
        case measure => simp [intOf]
      · go_wp2_with (first | ((with_reducible refine (Q1.out _).mono ?_); rintro e w1 ⟨rfl, rfl⟩) | ((with_reducible refine (Q2.out _).mono ?_); rintro e w1 ⟨rfl, rfl⟩) | ((with_reducible refine (Q3.out _).mono ?_); rintro e w1 ⟨rfl, rfl⟩) | ((with_reducible refine (Q4.out _).mono ?_); rintro e w1 ⟨rfl, rfl⟩) | ((with_reducible refine (Q5.out _).mono ?_); rintro e w1 ⟨rfl, rfl⟩) | ((with_reducible refine (Q6.out _).mono ?_); rintro e w1 ⟨rfl, rfl⟩))
        go_round
        case rel => exact ⟨0 + 1, by omega, by go_num⟩
        case measure => simp [intOf]
      · go_wp2_with (first | ((with_reducible refine (Q1.out _).mono ?_); rintro e w1 ⟨rfl, rfl⟩) | ((with_reducible refine (Q2.out _).mono ?_); rintro e w1 ⟨rfl, rfl⟩) | ((with_reducible refine (Q3.out _).mono ?_); rintro e w1 ⟨rfl, rfl⟩) | ((with_reducible refine (Q4.out _).mono ?_); rintro e w1 ⟨rfl, rfl⟩) | ((with_reducible refine (Q5.out _).mono ?_); rintro e w1 ⟨rfl, rfl⟩) | ((with_reducible refine (Q6.out _).mono ?_); rintro e w1 ⟨rfl, rfl⟩))
        go_round
        case rel => exact ⟨0 + 1, by omega, by go_num⟩
        case measure => simp [intOf]
    · clear hk
      obtain ⟨a, ok, d, is, r, ⟨P1, P2, P3, P4, P5, P6⟩, hcase⟩ := HP.out y (by omega) (by omega)
      have Q1 := Lib.hid P1
      have Q2 := Lib.hid P2
      have Q3 := Lib.hid P3
      have Q4 := Lib.hid P4
      have Q5 := Lib.hid P5
      have Q6 := Lib.hid P6
      clear P1 P2 P3 P4 P5 P6
      rcases hcase with ⟨rfl, rfl, rfl⟩ | ⟨rfl, rfl, rfl⟩ | ⟨rfl, rfl⟩
      · go_wp2_with (first | ((with_reducible refine (Q1.out _).mono ?_); rintro e w1 ⟨rfl, rfl⟩) | ((with_reducible refine (Q2.out _).mono ?_); rintro e w1 ⟨rfl, rfl⟩) | ((with_reducible refine (Q3.out _).mono ?_); rintro e w1 ⟨rfl, rfl⟩) | ((with_reducible refine (Q4.out _).mono ?_); rintro e w1 ⟨rfl, rfl⟩) | ((with_reducible refine (Q5.out _).mono ?_); rintro e w1 ⟨rfl, rfl⟩) | ((with_reducible refine (Q6.out _).mono ?_); rintro e w1 ⟨rfl, rfl⟩))
        go_round
        case rel => exact ⟨1 + 1, by omega, by go_num⟩
        case measure => simp [intOf]
      · go_wp2_with (first | ((with_reducible refine (Q1.out _).mono ?_); rintro e w1 ⟨rfl, rfl⟩) | ((with_reducible refine (Q2.out _).mono ?_); rintro e w1 ⟨rfl, rfl⟩) | ((with_reducible refine (Q3.out _).mono ?_); rintro e w1 ⟨rfl, rfl⟩) | ((with_reducible refine (Q4.out _).mono ?_); rintro e w1 ⟨rfl, rfl⟩) | ((with_reducible refine (Q5.out _).mono ?_); rintro e w1 ⟨rfl, rfl⟩) | ((with_reducible refine (Q6.out _).mono ?_); rintro e w1 ⟨rfl, rfl⟩))
        go_round
        case rel => exact ⟨1 + 1, by omega, by go_num⟩
        case measure => simp [intOf]
      · go_wp2_with (first | ((with_reducible refine (Q1.out _).mono ?_); rintro e w1 ⟨rfl, rfl⟩) | ((with_reducible refine (Q2.out _).mono ?_); rintro e w1 ⟨rfl, rfl⟩) | ((with_reducible refine (Q3.out _).mono ?_); rintro e w1 ⟨rfl, rfl⟩) | ((with_reducible refine (Q4.out _).mono ?_); rintro e w1 ⟨rfl, rfl⟩) | ((with_reducible refine (Q5.out _).mono ?_); rintro e w1 ⟨rfl, rfl⟩) | ((with_reducible refine (Q6.out _).mono ?_); rintro e w1 ⟨rfl, rfl⟩))
        go_round
        case rel => exact ⟨1 + 1, by omega, by go_num⟩
        case measure => simp [intOf]
    · clear hk
      go_wp2_with fail
      refine (awake_any _).mono ?_
      rintro e w2 ⟨rfl, hb2⟩
      go_wp2_with fail
      go_ret
      exact ⟨rfl, Below.trans (by go_grown) (hb2.mono (by go_size))⟩
end Go.Proofs.Ytfjljkjldfpdlaa
