/- Parse of the program, for texts of at most 200 bytes. -/
import Derived.Test.YtkifebmlojdjnaaParse2
import Derived.Test.YtkifebmlojdjnaaBothD
import Derived.Test.YtkifebmlojdjnaaBooC
import Derived.Test.YtkifebmlojdjnaaOf
namespace Go.Proofs.Ytkifebmlojdjnaa
open Go.RowKit
set_option autoImplicit false
set_option linter.unusedVariables false

theorem all_or (r : Int) (f : Nat → Int) : ∀ n, (∀ j, j < n → f j < r) ∨ ∃ M, M < n ∧ (∀ j, j < M → f j < r) ∧ r ≤ f M := by
  intro n
  induction n with
  | zero => exact .inl (fun j hj => absurd hj (by omega))
  | succ n ih =>
    rcases ih with h | ⟨M, h1, h2, h3⟩
    · by_cases h4 : f n < r
      · refine .inl (fun j hj => ?_)
        rcases Nat.lt_succ_iff_lt_or_eq.1 hj with h5 | rfl
        · exact h j h5
        · exact h4
      · exact .inr ⟨n, by omega, h, by omega⟩
    · exact .inr ⟨M, by omega, h2, h3⟩

/-- Does the text consist of digits, one or more? -/
def Good (r : Int) (s : ByteArray) : Prop := s.size ≠ 0 ∧ ∀ j, j < s.size → dv ((s.data.toList.getD j 0).toNat) < r

/-- What number answers. -/
def NumOut (w : World) (b : Bool) (v : Int) (L : Nat) (e : Ending) (w' : World) : Prop :=
  ∃ ao n cap zs, e = .returned (.tuple #[.slice ao n cap, .bool b]) ∧ Own w.heap.size w' ao n cap zs ∧ Lim zs ∧ (b = true → val zs = v) ∧ n ≤ L ∧ Below w.heap.size w w'

theorem number_any (w : World) (s : ByteArray) (r : Int) (h2 : 2 ≤ r) (h36 : r ≤ 36) (hs : s.size ≤ 1000000) :
    ∃ b : Bool, (b = true ↔ Good r s) ∧ Calls Try.prog 115 #[.string s, .int .i64 r] w (NumOut w b (pval r s.data.toList) 1000001) := by
  rcases all_or r (fun j => dv ((s.data.toList.getD j 0).toNat)) s.size with h | ⟨M, h1, h3, h4⟩
  · refine ⟨decide (s.size ≠ 0), ?_, (number_ok w s r h2 h36 hs h).mono ?_⟩
    · rw [decide_eq_true_iff]
      exact ⟨fun h5 => ⟨h5, h⟩, fun h5 => h5.1⟩
    · rintro e w' ⟨ao, n, cap, zs, rfl, h5, h6, h7, h8, h9⟩
      exact ⟨ao, n, cap, zs, rfl, h5, h6, fun _ => h7, by omega, h9⟩
  · refine ⟨false, ?_, (number_bad w s r M h2 h36 hs h1 h3 h4).mono ?_⟩
    · constructor
      · intro h5; cases h5
      · intro h5
        have := h5.2 M h1
        omega
    · rintro e w' ⟨rfl, hb⟩
      exact ⟨none, 0, 0, [], rfl, World.ownsRow_nil _ _ _ _, Lim_nil, fun h5 => absurd h5 (by decide), Nat.zero_le _, hb⟩

set_option maxRecDepth 100000 in
set_option maxHeartbeats 1000000 in
theorem parse_none (w : World) (s : ByteArray) (r : Int) (h2 : 2 ≤ r) (h36 : r ≤ 36) (hs : s.size = 0) (b : Bool) (v p c : Int)
    (hn : ∀ w', Calls Try.prog 115 #[.string s, .int .i64 r] w' (NumOut w' b v 1000001)) (hp : b = true → p = sgn false v ∧ c = 0) (hq : b = false → p = 0 ∧ c = 2) :
    Calls Try.prog 62 #[.string s, .int .i64 r] w (RetBoth w p c 1000001) := by
  have HN := Lib.hid hn
  have HP := Lib.hid hp
  have HQ := Lib.hid hq
  have hem0 : s.data.toList = [] := List.eq_nil_of_length_eq_zero (by rw [Array.length_toList]; exact hs)
  have hem1 : s.toList = [] := by rw [ByteArray.toList_eq]; exact hem0
  have hem2 : s.toList.isEmpty = true := by rw [hem1]; rfl
  have hsz0 : s.size ≤ 200 := by omega
  have hr1 : ¬ 36 < r := by omega
  have hr2 : ¬ r < 2 := by omega
  have hsz : ¬ (20000 : Int) < s.size := by omega
  clear hn hp hq
  go_enter Try.func62, Try.ntmps62
  go_wp2_with fail
  refine (HN.out _).mono ?_
  rintro e w1 ⟨ao, n, cap, zs, rfl, hown, hl, hv, hn, hb1⟩
  have hr2 := (hb1.block w.heap.size (by go_size)).trans (heap_alloc_new w _)
  have hz1 : w.heap.size + 1 ≤ w1.heap.size := Nat.le_trans (by go_size) hb1.size
  have hb2 : Below w.heap.size w w1 := Below.trans (by go_grown) (hb1.mono (by go_size))
  have HSL := Lib.hid hown.sl
  obtain ⟨c0, c1, f0, f1⟩ := blk2 hr2
  have HV := Lib.hid hv
  clear hown hv hb1
  cases b with
  | false =>
    obtain ⟨rfl, rfl⟩ := HQ.out rfl
    go_wp2_with fail
    refine bodyPost_ret (v := .tuple #[.agg #[.bool false, .slice none 0 0], .int .i64 2]) (by simp [results, Try.results62, go_sem, c0, c1]) rfl ?_
    exact ⟨_, _, _, _, _, rfl, int_zero' _, by omega, (hb2.setCell (p := ⟨w.heap.size, 0, none⟩) (by dsimp only; omega) _).setCell (p := ⟨w.heap.size, 1, none⟩) (by dsimp only; omega) _⟩
  | true =>
    obtain ⟨hp1, rfl⟩ := HP.out rfl
    have HPP := Lib.hid hp1
    have HVV := Lib.hid (HV.out rfl)
    clear hp1 HP HQ HN HV
    go_wp2_with fail
    refine (wrap_int _ false ao n cap zs HSL.out hl rfl).mono ?_
    rintro e w2 ⟨neg', ao', n', cap', zs', rfl, hint, hn', u2⟩
    have hr4 := (u2.block _ (by omega)).trans hr2
    have hz4 := u2.size
    have hb4 : Below w.heap.size w w2 := hb2.trans (u2.mono hb2.size)
    obtain ⟨d0, d1, g0, g1⟩ := blk2 hr4
    have HI := Lib.hid (hint.stored hr4 (.bool neg') (.slice ao' n' cap'))
    clear hint hr4 hr2 c0 c1 f0 f1 u2
    go_wp2_with fail
    refine bodyPost_ret (v := .tuple #[.agg #[.bool neg', .slice ao' n' cap'], .int .i64 0]) (by simp [results, Try.results62, go_sem, d0, d1]) rfl ?_
    exact ⟨_, _, _, _, _, rfl, by have h := HI.out; rw [HVV.out, ← HPP.out] at h; exact h, by omega, (hb4.setCell (p := ⟨w.heap.size, 0, none⟩) (by dsimp only; omega) _).setCell (p := ⟨w.heap.size, 1, none⟩) (by dsimp only; omega) _⟩

set_option maxRecDepth 100000 in
set_option maxHeartbeats 1000000 in
theorem parse_minus (w : World) (s : ByteArray) (r : Int) (h2 : 2 ≤ r) (h36 : r ≤ 36) (hs0 : 0 < s.size) (hs : s.size ≤ 200) (y : Nat) (hy : (s[0]'hs0).toNat = y) (h45 : y = 45) (b : Bool) (v p c : Int)
    (hn : ∀ w', Calls Try.prog 115 #[.string (s.extract 1 s.size), .int .i64 r] w' (NumOut w' b v 1000001)) (hp : b = true → p = sgn true v ∧ c = 0) (hq : b = false → p = 0 ∧ c = 2) :
    Calls Try.prog 62 #[.string s, .int .i64 r] w (RetBoth w p c 1000001) := by
  have HN := Lib.hid hn
  have HP := Lib.hid hp
  have HQ := Lib.hid hq
  subst h45
  have hem0 : ¬ s.toList = [] := by
    rw [ByteArray.toList_eq]
    intro h0
    have h1 : s.data.toList.length = s.size := by rw [Array.length_toList]; rfl
    rw [h0] at h1
    simp at h1
    omega
  have hem2 : s.toList.isEmpty = false := by simpa using hem0
  have hr1 : ¬ 36 < r := by omega
  have hr2 : ¬ r < 2 := by omega
  have hsz : ¬ (20000 : Int) < s.size := by omega
  clear hn hp hq
  go_enter Try.func62, Try.ntmps62
  go_wp2_with fail
  refine (HN.out _).mono ?_
  rintro e w1 ⟨ao, n, cap, zs, rfl, hown, hl, hv, hn, hb1⟩
  have hr2 := (hb1.block w.heap.size (by go_size)).trans (heap_alloc_new w _)
  have hz1 : w.heap.size + 1 ≤ w1.heap.size := Nat.le_trans (by go_size) hb1.size
  have hb2 : Below w.heap.size w w1 := Below.trans (by go_grown) (hb1.mono (by go_size))
  have HSL := Lib.hid hown.sl
  obtain ⟨c0, c1, f0, f1⟩ := blk2 hr2
  have HV := Lib.hid hv
  clear hown hv hb1
  cases b with
  | false =>
    obtain ⟨rfl, rfl⟩ := HQ.out rfl
    go_wp2_with fail
    refine bodyPost_ret (v := .tuple #[.agg #[.bool false, .slice none 0 0], .int .i64 2]) (by simp [results, Try.results62, go_sem, c0, c1]) rfl ?_
    exact ⟨_, _, _, _, _, rfl, int_zero' _, by omega, (hb2.setCell (p := ⟨w.heap.size, 0, none⟩) (by dsimp only; omega) _).setCell (p := ⟨w.heap.size, 1, none⟩) (by dsimp only; omega) _⟩
  | true =>
    obtain ⟨hp1, rfl⟩ := HP.out rfl
    have HPP := Lib.hid hp1
    have HVV := Lib.hid (HV.out rfl)
    clear hp1 HP HQ HN HV
    go_wp2_with fail
    refine (wrap_int _ true ao n cap zs HSL.out hl rfl).mono ?_
    rintro e w2 ⟨neg', ao', n', cap', zs', rfl, hint, hn', u2⟩
    have hr4 := (u2.block _ (by omega)).trans hr2
    have hz4 := u2.size
    have hb4 : Below w.heap.size w w2 := hb2.trans (u2.mono hb2.size)
    obtain ⟨d0, d1, g0, g1⟩ := blk2 hr4
    have HI := Lib.hid (hint.stored hr4 (.bool neg') (.slice ao' n' cap'))
    clear hint hr4 hr2 c0 c1 f0 f1 u2
    go_wp2_with fail
    refine bodyPost_ret (v := .tuple #[.agg #[.bool neg', .slice ao' n' cap'], .int .i64 0]) (by simp [results, Try.results62, go_sem, d0, d1]) rfl ?_
    exact ⟨_, _, _, _, _, rfl, by have h := HI.out; rw [HVV.out, ← HPP.out] at h; exact h, by omega, (hb4.setCell (p := ⟨w.heap.size, 0, none⟩) (by dsimp only; omega) _).setCell (p := ⟨w.heap.size, 1, none⟩) (by dsimp only; omega) _⟩

set_option maxRecDepth 100000 in
set_option maxHeartbeats 1000000 in
theorem parse_plus (w : World) (s : ByteArray) (r : Int) (h2 : 2 ≤ r) (h36 : r ≤ 36) (hs0 : 0 < s.size) (hs : s.size ≤ 200) (y : Nat) (hy : (s[0]'hs0).toNat = y) (h43 : y = 43) (b : Bool) (v p c : Int)
    (hn : ∀ w', Calls Try.prog 115 #[.string (s.extract 1 s.size), .int .i64 r] w' (NumOut w' b v 1000001)) (hp : b = true → p = sgn false v ∧ c = 0) (hq : b = false → p = 0 ∧ c = 2) :
    Calls Try.prog 62 #[.string s, .int .i64 r] w (RetBoth w p c 1000001) := by
  have HN := Lib.hid hn
  have HP := Lib.hid hp
  have HQ := Lib.hid hq
  subst h43
  have hem0 : ¬ s.toList = [] := by
    rw [ByteArray.toList_eq]
    intro h0
    have h1 : s.data.toList.length = s.size := by rw [Array.length_toList]; rfl
    rw [h0] at h1
    simp at h1
    omega
  have hem2 : s.toList.isEmpty = false := by simpa using hem0
  have hr1 : ¬ 36 < r := by omega
  have hr2 : ¬ r < 2 := by omega
  have hsz : ¬ (20000 : Int) < s.size := by omega
  clear hn hp hq
  go_enter Try.func62, Try.ntmps62
  go_wp2_with fail
  refine (HN.out _).mono ?_
  rintro e w1 ⟨ao, n, cap, zs, rfl, hown, hl, hv, hn, hb1⟩
  have hr2 := (hb1.block w.heap.size (by go_size)).trans (heap_alloc_new w _)
  have hz1 : w.heap.size + 1 ≤ w1.heap.size := Nat.le_trans (by go_size) hb1.size
  have hb2 : Below w.heap.size w w1 := Below.trans (by go_grown) (hb1.mono (by go_size))
  have HSL := Lib.hid hown.sl
  obtain ⟨c0, c1, f0, f1⟩ := blk2 hr2
  have HV := Lib.hid hv
  clear hown hv hb1
  cases b with
  | false =>
    obtain ⟨rfl, rfl⟩ := HQ.out rfl
    go_wp2_with fail
    refine bodyPost_ret (v := .tuple #[.agg #[.bool false, .slice none 0 0], .int .i64 2]) (by simp [results, Try.results62, go_sem, c0, c1]) rfl ?_
    exact ⟨_, _, _, _, _, rfl, int_zero' _, by omega, (hb2.setCell (p := ⟨w.heap.size, 0, none⟩) (by dsimp only; omega) _).setCell (p := ⟨w.heap.size, 1, none⟩) (by dsimp only; omega) _⟩
  | true =>
    obtain ⟨hp1, rfl⟩ := HP.out rfl
    have HPP := Lib.hid hp1
    have HVV := Lib.hid (HV.out rfl)
    clear hp1 HP HQ HN HV
    go_wp2_with fail
    refine (wrap_int _ false ao n cap zs HSL.out hl rfl).mono ?_
    rintro e w2 ⟨neg', ao', n', cap', zs', rfl, hint, hn', u2⟩
    have hr4 := (u2.block _ (by omega)).trans hr2
    have hz4 := u2.size
    have hb4 : Below w.heap.size w w2 := hb2.trans (u2.mono hb2.size)
    obtain ⟨d0, d1, g0, g1⟩ := blk2 hr4
    have HI := Lib.hid (hint.stored hr4 (.bool neg') (.slice ao' n' cap'))
    clear hint hr4 hr2 c0 c1 f0 f1 u2
    go_wp2_with fail
    refine bodyPost_ret (v := .tuple #[.agg #[.bool neg', .slice ao' n' cap'], .int .i64 0]) (by simp [results, Try.results62, go_sem, d0, d1]) rfl ?_
    exact ⟨_, _, _, _, _, rfl, by have h := HI.out; rw [HVV.out, ← HPP.out] at h; exact h, by omega, (hb4.setCell (p := ⟨w.heap.size, 0, none⟩) (by dsimp only; omega) _).setCell (p := ⟨w.heap.size, 1, none⟩) (by dsimp only; omega) _⟩

set_option maxRecDepth 100000 in
set_option maxHeartbeats 1000000 in
theorem parse_bare (w : World) (s : ByteArray) (r : Int) (h2 : 2 ≤ r) (h36 : r ≤ 36) (hs0 : 0 < s.size) (hs : s.size ≤ 200) (y : Nat) (hy : (s[0]'hs0).toNat = y) (h45 : y ≠ 45) (h43 : y ≠ 43) (b : Bool) (v p c : Int)
    (hn : ∀ w', Calls Try.prog 115 #[.string s, .int .i64 r] w' (NumOut w' b v 1000001)) (hp : b = true → p = sgn false v ∧ c = 0) (hq : b = false → p = 0 ∧ c = 2) :
    Calls Try.prog 62 #[.string s, .int .i64 r] w (RetBoth w p c 1000001) := by
  have HN := Lib.hid hn
  have HP := Lib.hid hp
  have HQ := Lib.hid hq
  have g1 : ((y : Int) == 45) = false := by simp; omega
  have g2 : ((y : Int) == 43) = false := by simp; omega
  have hem0 : ¬ s.toList = [] := by
    rw [ByteArray.toList_eq]
    intro h0
    have h1 : s.data.toList.length = s.size := by rw [Array.length_toList]; rfl
    rw [h0] at h1
    simp at h1
    omega
  have hem2 : s.toList.isEmpty = false := by simpa using hem0
  have hr1 : ¬ 36 < r := by omega
  have hr2 : ¬ r < 2 := by omega
  have hsz : ¬ (20000 : Int) < s.size := by omega
  clear hn hp hq
  go_enter Try.func62, Try.ntmps62
  go_wp2_with fail
  refine (HN.out _).mono ?_
  rintro e w1 ⟨ao, n, cap, zs, rfl, hown, hl, hv, hn, hb1⟩
  have hr2 := (hb1.block w.heap.size (by go_size)).trans (heap_alloc_new w _)
  have hz1 : w.heap.size + 1 ≤ w1.heap.size := Nat.le_trans (by go_size) hb1.size
  have hb2 : Below w.heap.size w w1 := Below.trans (by go_grown) (hb1.mono (by go_size))
  have HSL := Lib.hid hown.sl
  obtain ⟨c0, c1, f0, f1⟩ := blk2 hr2
  have HV := Lib.hid hv
  clear hown hv hb1
  cases b with
  | false =>
    obtain ⟨rfl, rfl⟩ := HQ.out rfl
    go_wp2_with fail
    refine bodyPost_ret (v := .tuple #[.agg #[.bool false, .slice none 0 0], .int .i64 2]) (by simp [results, Try.results62, go_sem, c0, c1]) rfl ?_
    exact ⟨_, _, _, _, _, rfl, int_zero' _, by omega, (hb2.setCell (p := ⟨w.heap.size, 0, none⟩) (by dsimp only; omega) _).setCell (p := ⟨w.heap.size, 1, none⟩) (by dsimp only; omega) _⟩
  | true =>
    obtain ⟨hp1, rfl⟩ := HP.out rfl
    have HPP := Lib.hid hp1
    have HVV := Lib.hid (HV.out rfl)
    clear hp1 HP HQ HN HV
    go_wp2_with fail
    refine (wrap_int _ false ao n cap zs HSL.out hl rfl).mono ?_
    rintro e w2 ⟨neg', ao', n', cap', zs', rfl, hint, hn', u2⟩
    have hr4 := (u2.block _ (by omega)).trans hr2
    have hz4 := u2.size
    have hb4 : Below w.heap.size w w2 := hb2.trans (u2.mono hb2.size)
    obtain ⟨d0, d1, g0, g1⟩ := blk2 hr4
    have HI := Lib.hid (hint.stored hr4 (.bool neg') (.slice ao' n' cap'))
    clear hint hr4 hr2 c0 c1 f0 f1 u2
    go_wp2_with fail
    refine bodyPost_ret (v := .tuple #[.agg #[.bool neg', .slice ao' n' cap'], .int .i64 0]) (by simp [results, Try.results62, go_sem, d0, d1]) rfl ?_
    exact ⟨_, _, _, _, _, rfl, by have h := HI.out; rw [HVV.out, ← HPP.out] at h; exact h, by omega, (hb4.setCell (p := ⟨w.heap.size, 0, none⟩) (by dsimp only; omega) _).setCell (p := ⟨w.heap.size, 1, none⟩) (by dsimp only; omega) _⟩

theorem parse_bad (w : World) (s : ByteArray) (r : Int) (h : r < 2 ∨ 36 < r) : Calls Try.prog 62 #[.string s, .int .i64 r] w (RetBoth w 0 1 1000001) := by
  rcases h with h | h
  · go_enter Try.func62, Try.ntmps62
    go_wp2_with fail
    have hr2 := heap_alloc_new w (.cells #[.bool false, .slice none 0 0] 28)
    obtain ⟨c0, c1, f0, f1⟩ := blk2 hr2
    refine bodyPost_ret (v := .tuple #[.agg #[.bool false, .slice none 0 0], .int .i64 1]) (by simp [results, Try.results62, go_sem, c0, c1]) rfl ?_
    exact ⟨_, _, _, _, _, rfl, int_zero' _, by omega, by go_grown⟩
  · have h0 : ¬ r < 2 := by omega
    go_enter Try.func62, Try.ntmps62
    go_wp2_with fail
    have hr2 := heap_alloc_new w (.cells #[.bool false, .slice none 0 0] 28)
    obtain ⟨c0, c1, f0, f1⟩ := blk2 hr2
    refine bodyPost_ret (v := .tuple #[.agg #[.bool false, .slice none 0 0], .int .i64 1]) (by simp [results, Try.results62, go_sem, c0, c1]) rfl ?_
    exact ⟨_, _, _, _, _, rfl, int_zero' _, by omega, by go_grown⟩
end Go.Proofs.Ytkifebmlojdjnaa
