/- Words of layer 15: Fix, Fixnum, Char, Character, IsRef of both sides. -/
import Derived.Test.YtfjljkjldfpdlaaRows
import Derived.RowKit
import Derived.Lib.Hide
import Derived.BigQuiet
import Derived.Deep.QuietTactic
import Derived.Laws.BitsAllLaws
import Derived.IntWalk
import Derived.WalkSmall
import Derived.WalkKit
import Derived.WalkSpells
import Derived.Outline
import Derived.Handy
namespace Go.Proofs.Ytfjljkjldfpdlaa
open Go.RowKit
set_option autoImplicit false
set_option linter.unusedVariables false

/-- The call returns v, and the world stays. -/
def Ret0 (w : World) (v : Value) (e : Ending) (w' : World) : Prop := e = .returned v ∧ w = w'

/-- The call returns v, and what was there stays. -/
def RetV (w : World) (v : Value) (e : Ending) (w' : World) : Prop := e = .returned v ∧ Below w.heap.size w w'

theorem and7 (x : Int) (h0 : 0 ≤ x) (h1 : x ≤ 18446744073709551615) : bits .and .u64 x 7 = x % 8 := by
  obtain ⟨n, rfl⟩ := Int.eq_ofNat_of_zero_le h0
  have h := u64_and_nat n 7 (by omega) (by omega)
  have e : ((7 : Nat) : Int) = 7 := rfl
  rw [e] at h
  rw [h, nat_mask3]
  omega

theorem tag_any (w : World) (x : Int) (h0 : 0 ≤ x) (h1 : x ≤ 18446744073709551615) : Calls Try.prog 38 #[.int .u64 x] w (Ret0 w (.int .u64 (x % 8))) := by
  have hA := and7 x h0 h1
  go_enter Try.func38, Try.ntmps38
  go_wp2_with fail
  go_ret
  exact ⟨rfl, rfl⟩

def fixV (n : Int) : Int := n * 8 % 18446744073709551616
theorem fixV_wrap (n : Int) : IntKind.u64.wrap (IntKind.u64.wrap n * 8) = fixV n := by
  simp only [IntKind.wrap, IntKind.bits, IntKind.signed, fixV]
  simp
  omega
theorem fixV_bd (n : Int) : 0 ≤ fixV n ∧ fixV n ≤ 18446744073709551615 := by unfold fixV; omega
theorem or0 (x : Int) (h0 : 0 ≤ x) (h1 : x ≤ 18446744073709551615) : bits .or .u64 x 0 = x := by
  have h := u64_or x 0 h0 (by omega) (by omega) (by omega)
  rw [h]; simp; omega

theorem fix_ok (w : World) (n : Int) (h0 : -1152921504606846976 ≤ n) (h1 : n ≤ 1152921504606846975) : Calls Try.prog 7 #[.int .i64 n] w (Ret0 w (.tuple #[.int .u64 (fixV n), .int .i64 0])) := by
  have hV := fixV_wrap n
  have hO := or0 (fixV n) (fixV_bd n).1 (fixV_bd n).2
  go_enter Try.func7, Try.ntmps7
  go_wp2_with fail
  go_ret2
  exact ⟨rfl, rfl⟩
theorem fix_no (w : World) (n : Int) (h : n < -1152921504606846976 ∨ 1152921504606846975 < n) : Calls Try.prog 7 #[.int .i64 n] w (Ret0 w (.tuple #[.int .u64 0, .int .i64 3])) := by
  rcases h with h | h
  · have h2 : ¬ 1152921504606846975 < n := by omega
    go_enter Try.func7, Try.ntmps7
    go_wp2_with fail
    go_ret2
    exact ⟨rfl, rfl⟩
  · go_enter Try.func7, Try.ntmps7
    go_wp2_with fail
    go_ret2
    exact ⟨rfl, rfl⟩

theorem rfix_ok (w : World) (n : Int) (h0 : -1152921504606846976 ≤ n) (h1 : n ≤ 1152921504606846975) : Calls Try.prog 8 #[.int .i64 n] w (Ret0 w (.tuple #[.int .u64 (fixV n), .int .i64 0])) := by
  have hV := fixV_wrap n
  go_enter Try.func8, Try.ntmps8
  go_wp2_with fail
  go_ret2
  exact ⟨rfl, rfl⟩
theorem rfix_no (w : World) (n : Int) (h : n < -1152921504606846976 ∨ 1152921504606846975 < n) : Calls Try.prog 8 #[.int .i64 n] w (Ret0 w (.tuple #[.int .u64 0, .int .i64 3])) := by
  rcases h with h | h
  · go_enter Try.func8, Try.ntmps8
    go_wp2_with fail
    go_ret2
    exact ⟨rfl, rfl⟩
  · have h2 : ¬ n < -1152921504606846976 := by omega
    go_enter Try.func8, Try.ntmps8
    go_wp2_with fail
    go_ret2
    exact ⟨rfl, rfl⟩

def Rune (c : Int) : Prop := (0 ≤ c ∧ c < 55296) ∨ (57343 < c ∧ c ≤ 1114111)
theorem valid_yes (w : World) (c : Int) (h : Rune c) : Calls Try.prog 36 #[.int .i32 c] w (Ret0 w (.bool true)) := by
  rcases h with ⟨h1, h2⟩ | ⟨h1, h2⟩
  · go_enter Try.func36, Try.ntmps36
    go_wp2_with fail
    go_ret
    exact ⟨rfl, rfl⟩
  · have h3 : ¬ c < 55296 := by omega
    go_enter Try.func36, Try.ntmps36
    go_wp2_with fail
    go_ret
    exact ⟨rfl, rfl⟩
theorem not_rune {c : Int} (h : ¬ Rune c) : c < 0 ∨ (55296 ≤ c ∧ c ≤ 57343) ∨ 1114111 < c := by unfold Rune at h; omega
theorem valid_no (w : World) (c : Int) (h : ¬ Rune c) : Calls Try.prog 36 #[.int .i32 c] w (Ret0 w (.bool false)) := by
  rcases not_rune h with h1 | ⟨h1, h2⟩ | h1 <;> clear h
  · have h3 : ¬ 57343 < c := by omega
    go_enter Try.func36, Try.ntmps36
    go_wp2_with fail
    go_ret
    exact ⟨rfl, rfl⟩
  · go_enter Try.func36, Try.ntmps36
    go_wp2_with fail
    go_ret
    exact ⟨rfl, rfl⟩
  · have h3 : ¬ c < 55296 := by omega
    go_enter Try.func36, Try.ntmps36
    go_wp2_with fail
    go_ret
    exact ⟨rfl, rfl⟩
theorem code_yes (w : World) (c : Int) (h : Rune c) : Calls Try.prog 37 #[.int .i64 c] w (Ret0 w (.bool true)) := by
  rcases h with ⟨h1, h2⟩ | ⟨h1, h2⟩
  · have hB : (decide (c < 55296) || decide (57343 < c)) = true := by simp; omega
    go_enter Try.func37, Try.ntmps37
    go_wp2_with fail
    go_ret
    exact ⟨rfl, rfl⟩
  · have h3 : ¬ c < 55296 := by omega
    have hB : (decide (c < 55296) || decide (57343 < c)) = true := by simp; omega
    go_enter Try.func37, Try.ntmps37
    go_wp2_with fail
    go_ret
    exact ⟨rfl, rfl⟩
theorem code_no (w : World) (c : Int) (h : ¬ Rune c) : Calls Try.prog 37 #[.int .i64 c] w (Ret0 w (.bool false)) := by
  rcases not_rune h with h1 | ⟨h1, h2⟩ | h1 <;> clear h
  · go_enter Try.func37, Try.ntmps37
    go_wp2_with fail
    go_ret
    exact ⟨rfl, rfl⟩
  · have hB : (decide (c < 55296) || decide (57343 < c)) = false := by simp; omega
    go_enter Try.func37, Try.ntmps37
    go_wp2_with fail
    go_ret
    exact ⟨rfl, rfl⟩
  · go_enter Try.func37, Try.ntmps37
    go_wp2_with fail
    go_ret
    exact ⟨rfl, rfl⟩

def chV (c : Int) : Int := c * 8 + 1
theorem chV_or (c : Int) (h : Rune c) : bits .or .u64 (IntKind.u64.wrap (IntKind.u64.wrap c * 8)) 1 = chV c := by
  have h1 : IntKind.u64.wrap (IntKind.u64.wrap c * 8) = c * 8 := by
    rw [fixV_wrap]; unfold fixV; unfold Rune at h; omega
  have hb : 0 ≤ c ∧ c ≤ 1114111 := by unfold Rune at h; omega
  rw [h1, u64_or _ _ (by omega) (by omega) (by omega) (by omega)]
  obtain ⟨n, rfl⟩ := Int.eq_ofNat_of_zero_le hb.1
  have e : ((n : Int) * 8).toNat = n * 8 := by omega
  rw [e, show (1 : Int).toNat = 1 from rfl, nat_join 3 (n * 8) 1 (by omega) (by omega)]
  unfold chV; omega

theorem char_yes (w : World) (c : Int) (h : Rune c) : Calls Try.prog 9 #[.int .i32 c] w (Ret0 w (.tuple #[.int .u64 (chV c), .int .i64 0])) := by
  have hV := chV_or c h
  go_enter Try.func9, Try.ntmps9
  go_wp2_with fail
  refine (valid_yes _ c h).mono ?_
  rintro e w1 ⟨rfl, rfl⟩
  go_wp2_with fail
  go_ret2
  exact ⟨rfl, rfl⟩
theorem char_no (w : World) (c : Int) (h : ¬ Rune c) : Calls Try.prog 9 #[.int .i32 c] w (Ret0 w (.tuple #[.int .u64 0, .int .i64 3])) := by
  go_enter Try.func9, Try.ntmps9
  go_wp2_with fail
  refine (valid_no _ c h).mono ?_
  rintro e w1 ⟨rfl, rfl⟩
  go_wp2_with fail
  go_ret2
  exact ⟨rfl, rfl⟩
theorem rchar_yes (w : World) (c : Int) (h : Rune c) : Calls Try.prog 10 #[.int .i32 c] w (Ret0 w (.tuple #[.int .u64 (chV c), .int .i64 0])) := by
  have hV := chV_or c h
  have hI : IntKind.i64.wrap c = c := IntWalk.i64_in _ (by unfold Rune at h; omega)
  go_enter Try.func10, Try.ntmps10
  go_wp2_with fail
  refine (code_yes _ c h).mono ?_
  rintro e w1 ⟨rfl, rfl⟩
  go_wp2_with fail
  go_ret2
  exact ⟨rfl, rfl⟩
theorem rchar_no (w : World) (c : Int) (b0 : -2147483648 ≤ c) (b1 : c ≤ 2147483647) (h : ¬ Rune c) : Calls Try.prog 10 #[.int .i32 c] w (Ret0 w (.tuple #[.int .u64 0, .int .i64 3])) := by
  have hI : IntKind.i64.wrap c = c := IntWalk.i64_in _ (by omega)
  go_enter Try.func10, Try.ntmps10
  go_wp2_with fail
  refine (code_no _ c h).mono ?_
  rintro e w1 ⟨rfl, rfl⟩
  go_wp2_with fail
  go_ret2
  exact ⟨rfl, rfl⟩

theorem div8 (x : Int) (h0 : 0 ≤ x) : x.fdiv 8 = x / 8 := by rw [Int.fdiv_eq_ediv_of_nonneg _ (by omega)]

/-- The value of a word as a number of a signed kind, shifted. -/
def fixN (x : Int) : Int := if x < 9223372036854775808 then x / 8 else (x - 18446744073709551616) / 8
theorem fixN_eq (x : Int) (h0 : 0 ≤ x) (h1 : x ≤ 18446744073709551615) : wrap64 x / 8 = fixN x := by
  unfold fixN wrap64
  split <;> omega
theorem fixnum_yes (w : World) (x : Int) (h0 : 0 ≤ x) (h1 : x ≤ 18446744073709551615) (h : x % 8 = 0) : Calls Try.prog 11 #[.int .u64 x] w (Ret0 w (.tuple #[.int .i64 (fixN x), .bool true])) := by
  have hF := fixN_eq x h0 h1
  go_enter Try.func11, Try.ntmps11
  go_wp2_with fail
  refine (tag_any _ x h0 h1).mono ?_
  rintro e w1 ⟨rfl, rfl⟩
  have h2 : ((x % 8) != 0) = false := by simp [h]
  go_wp2_with fail
  go_ret2
  exact ⟨rfl, rfl⟩
theorem fixnum_no (w : World) (x : Int) (h0 : 0 ≤ x) (h1 : x ≤ 18446744073709551615) (h : x % 8 ≠ 0) : Calls Try.prog 11 #[.int .u64 x] w (Ret0 w (.tuple #[.int .i64 0, .bool false])) := by
  go_enter Try.func11, Try.ntmps11
  go_wp2_with fail
  refine (tag_any _ x h0 h1).mono ?_
  rintro e w1 ⟨rfl, rfl⟩
  have h2 : ((x % 8) != 0) = true := by simp [h]
  go_wp2_with fail
  go_ret2
  exact ⟨rfl, rfl⟩
theorem rfixnum_yes (w : World) (x : Int) (h0 : 0 ≤ x) (h1 : x ≤ 18446744073709551615) (h : x % 8 = 0) : Calls Try.prog 12 #[.int .u64 x] w (Ret0 w (.tuple #[.int .i64 (fixN x), .bool true])) := by
  have hF := fixN_eq x h0 h1
  have hA := and7 x h0 h1
  have h2 : ((x % 8) != 0) = false := by simp [h]
  go_enter Try.func12, Try.ntmps12
  go_wp2_with fail
  go_ret2
  exact ⟨rfl, rfl⟩
theorem rfixnum_no (w : World) (x : Int) (h0 : 0 ≤ x) (h1 : x ≤ 18446744073709551615) (h : x % 8 ≠ 0) : Calls Try.prog 12 #[.int .u64 x] w (Ret0 w (.tuple #[.int .i64 0, .bool false])) := by
  have hA := and7 x h0 h1
  have h2 : ((x % 8) != 0) = true := by simp [h]
  go_enter Try.func12, Try.ntmps12
  go_wp2_with fail
  go_ret2
  exact ⟨rfl, rfl⟩

theorem i32_in (x : Int) (h : Rune x) : IntKind.i32.wrap x = x := by
  unfold Rune at h
  simp only [IntKind.wrap, IntKind.bits, IntKind.signed]
  simp
  omega
theorem character_yes (w : World) (x : Int) (h0 : 0 ≤ x) (h1 : x ≤ 18446744073709551615) (h : x % 8 = 1) (hr : Rune (x / 8)) : Calls Try.prog 13 #[.int .u64 x] w (Ret0 w (.tuple #[.int .i32 (x / 8), .bool true])) := by
  have hI := i32_in _ hr
  have hb : ¬ 1114111 < x / 8 := by unfold Rune at hr; omega
  have HV := Lib.hid (valid_yes w _ hr)
  clear hr
  go_enter Try.func13, Try.ntmps13
  go_wp2_with fail
  refine (tag_any _ x h0 h1).mono ?_
  rintro e w1 ⟨rfl, rfl⟩
  have h2 : ((x % 8) != 1) = false := by simp [h]
  go_wp2_with fail
  refine HV.out.mono ?_
  rintro e w1 ⟨rfl, rfl⟩
  go_wp2_with fail
  go_ret2
  exact ⟨rfl, rfl⟩
theorem character_tag (w : World) (x : Int) (h0 : 0 ≤ x) (h1 : x ≤ 18446744073709551615) (h : x % 8 ≠ 1) : Calls Try.prog 13 #[.int .u64 x] w (Ret0 w (.tuple #[.int .i32 0, .bool false])) := by
  go_enter Try.func13, Try.ntmps13
  go_wp2_with fail
  refine (tag_any _ x h0 h1).mono ?_
  rintro e w1 ⟨rfl, rfl⟩
  have h2 : ((x % 8) != 1) = true := by simp [h]
  go_wp2_with fail
  go_ret2
  exact ⟨rfl, rfl⟩
theorem character_no (w : World) (x : Int) (h0 : 0 ≤ x) (h1 : x ≤ 18446744073709551615) (h : x % 8 = 1) (hr : ¬ Rune (x / 8)) : Calls Try.prog 13 #[.int .u64 x] w (Ret0 w (.tuple #[.int .i32 0, .bool false])) := by
  have h2 : ((x % 8) != 1) = false := by simp [h]
  by_cases hb : 1114111 < x / 8
  · clear hr
    go_enter Try.func13, Try.ntmps13
    go_wp2_with fail
    refine (tag_any _ x h0 h1).mono ?_
    rintro e w1 ⟨rfl, rfl⟩
    go_wp2_with fail
    go_ret2
    exact ⟨rfl, rfl⟩
  · have hI : IntKind.i32.wrap (x / 8) = x / 8 := by
      simp only [IntKind.wrap, IntKind.bits, IntKind.signed]
      simp
      omega
    have HV := Lib.hid (valid_no w _ hr)
    clear hr
    go_enter Try.func13, Try.ntmps13
    go_wp2_with fail
    refine (tag_any _ x h0 h1).mono ?_
    rintro e w1 ⟨rfl, rfl⟩
    go_wp2_with fail
    refine HV.out.mono ?_
    rintro e w1 ⟨rfl, rfl⟩
    go_wp2_with fail
    go_ret2
    exact ⟨rfl, rfl⟩
theorem rcharacter_yes (w : World) (x : Int) (h0 : 0 ≤ x) (h1 : x ≤ 18446744073709551615) (h : x % 8 = 1) (hr : Rune (x / 8)) : Calls Try.prog 14 #[.int .u64 x] w (Ret0 w (.tuple #[.int .i32 (x / 8), .bool true])) := by
  have hI := i32_in _ hr
  have hA := and7 x h0 h1
  have h2 : ((x % 8) != 1) = false := by simp [h]
  have hb : ¬ 1114111 < x / 8 := by unfold Rune at hr; omega
  have hJ : wrap64 (x / 8) = x / 8 := by unfold wrap64; omega
  have HV := Lib.hid (code_yes w _ hr)
  clear hr
  go_enter Try.func14, Try.ntmps14
  go_wp2_with fail
  refine HV.out.mono ?_
  rintro e w1 ⟨rfl, rfl⟩
  go_wp2_with fail
  go_ret2
  exact ⟨rfl, rfl⟩
theorem rcharacter_tag (w : World) (x : Int) (h0 : 0 ≤ x) (h1 : x ≤ 18446744073709551615) (h : x % 8 ≠ 1) : Calls Try.prog 14 #[.int .u64 x] w (Ret0 w (.tuple #[.int .i32 0, .bool false])) := by
  have hA := and7 x h0 h1
  have h2 : ((x % 8) != 1) = true := by simp [h]
  go_enter Try.func14, Try.ntmps14
  go_wp2_with fail
  go_ret2
  exact ⟨rfl, rfl⟩
theorem rcharacter_no (w : World) (x : Int) (h0 : 0 ≤ x) (h1 : x ≤ 18446744073709551615) (h : x % 8 = 1) (hr : ¬ Rune (x / 8)) : Calls Try.prog 14 #[.int .u64 x] w (Ret0 w (.tuple #[.int .i32 0, .bool false])) := by
  have hA := and7 x h0 h1
  have h2 : ((x % 8) != 1) = false := by simp [h]
  by_cases hb : 1114111 < x / 8
  · clear hr
    go_enter Try.func14, Try.ntmps14
    go_wp2_with fail
    go_ret2
    exact ⟨rfl, rfl⟩
  · have hJ : wrap64 (x / 8) = x / 8 := by unfold wrap64; omega
    have HV := Lib.hid (code_no w _ hr)
    clear hr
    go_enter Try.func14, Try.ntmps14
    go_wp2_with fail
    refine HV.out.mono ?_
    rintro e w1 ⟨rfl, rfl⟩
    go_wp2_with fail
    go_ret2
    exact ⟨rfl, rfl⟩
theorem isref_any (w : World) (x : Int) (h0 : 0 ≤ x) (h1 : x ≤ 18446744073709551615) : Calls Try.prog 15 #[.int .u64 x] w (Ret0 w (.bool (x % 8 == 3))) := by
  go_enter Try.func15, Try.ntmps15
  go_wp2_with fail
  refine (tag_any _ x h0 h1).mono ?_
  rintro e w1 ⟨rfl, rfl⟩
  go_wp2_with fail
  go_ret
  exact ⟨rfl, rfl⟩
theorem risref_any (w : World) (x : Int) (h0 : 0 ≤ x) (h1 : x ≤ 18446744073709551615) : Calls Try.prog 16 #[.int .u64 x] w (Ret0 w (.bool (x % 8 == 3))) := by
  have hA := and7 x h0 h1
  go_enter Try.func16, Try.ntmps16
  go_wp2_with fail
  go_ret
  exact ⟨rfl, rfl⟩
end Go.Proofs.Ytfjljkjldfpdlaa
