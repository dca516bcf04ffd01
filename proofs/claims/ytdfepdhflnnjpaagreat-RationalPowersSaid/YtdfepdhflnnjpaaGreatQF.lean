/- Q9, Q17 in one text. -/
import Derived.Test.YtdfepdhflnnjpaaGreatQ3
import Derived.Deep.DeepCutAuto
import Derived.Test.YtdfepdhflnnjpaaGreatQShelf
import Derived.Test.YtdfepdhflnnjpaaGreatDigM
import Derived.Test.YtdfepdhflnnjpaaGreatTexts
import Derived.Shelf.Strings.Search2
import Derived.Deep.DeepBigQuietO
namespace Go.Proofs.YtdfepdhflnnjpaaGreat
open Go.RowKit
set_option autoImplicit false
set_option linter.unusedVariables false

open Go.Shelf Go.RowKit
set_option autoImplicit false
set_option linter.unusedVariables false

theorem index_one (s : ByteArray) (c : UInt8) (w : World) :
    Calls Tryz.prog 162 #[.string s, .string ⟨#[c]⟩] w fun e w' => e = .returned (.int .i64 (Lib.indexByte s.data.toList c)) ∧ w' = w :=
  Any.stringslite_Index_one Tryz.lays219 s c w
theorem prefix_any (s p : ByteArray) (w : World) :
    Calls Tryz.prog 110 #[.string s, .string p] w fun e w' => e = .returned (.bool (Lib.hasPrefix s.data.toList p.data.toList)) ∧ w' = w :=
  Any.strings_HasPrefix Tryz.lays99 s p w

set_option maxRecDepth 100000 in
set_option maxHeartbeats 2000000 in
theorem cut_in (s : ByteArray) (c : UInt8) (i : Nat) (hi : Lib.indexByte s.data.toList c = (i : Int)) (hl : i < s.size) (hs : s.size ≤ 1000000) (w : World) :
    Calls Tryz.prog 148 #[.string s, .string ⟨#[c]⟩] w fun e w' => e = .returned (.tuple #[.string (s.extract 0 i), .string (s.extract (i + 1) s.size), .bool true]) ∧ ∃ n, w' = w.drewN n := by
  have c1 : (0 : Int) ≤ ↑i := by omega
  have c2 : (↑i : Int) ≤ ↑s.size := by omega
  have c3 : (0 : Int) ≤ ↑i + 1 := by omega
  have c4 : (↑i + 1 : Int) ≤ ↑s.size := by omega
  have c5 : ByteArray.size ⟨#[c]⟩ = 1 := rfl
  have c6 : wrap64 ((i : Int) + 1) = (i : Int) + 1 := by unfold wrap64; omega
  have c7 : IntKind.i64.wrap ((i : Int) + 1) = (i : Int) + 1 := by rw [IntWalk.i64_left]; exact c6
  have c8 : ((i : Int) + 1).toNat = i + 1 := by omega
  go_enter Tryz.func148, Tryz.ntmps148
  go_wp2_with (go_at_call 162; refine (index_one _ _ _).mono ?_; rintro e w' ⟨rfl, hw⟩; rw [hw, hi])
  go_region_held3 (fun _ => True) (trivial) (fail)
  go_wp2_with fail
  go_ret3
  exact ⟨rfl, 1, rfl⟩

set_option maxRecDepth 100000 in
theorem cut_at (s : ByteArray) (c : UInt8) (i : Nat) (hi : Lib.indexByte s.data.toList c = (i : Int)) (hl : i < s.size) (hs : s.size ≤ 1000000) (w : World) :
    Calls Tryz.prog 108 #[.string s, .string ⟨#[c]⟩] w fun e w' => e = .returned (.tuple #[.string (s.extract 0 i), .string (s.extract (i + 1) s.size), .bool true]) ∧ Below w.heap.size w w' := by
  go_enter Tryz.func108, Tryz.ntmps108
  go_wp2_with (go_at_call 148; refine (cut_in s c i hi hl hs _).mono ?_; rintro e w' ⟨rfl, n, hw⟩; rw [hw])
  go_ret3
  exact ⟨rfl, below_drewN (Below.refl _ _) _⟩

theorem size_small {w : World} {neg : Bool} {ao : Option Addr} {n cap : Nat} {zs : List Int} {x : Int} (h : IntAt w neg ao n cap zs x) (hx : x.natAbs ≤ 4294967295) : n ≤ 1 := by
  have hl : zs.length = n := h.sl.len
  have hv := h.val
  have h0 := val_nonneg h.lim
  have hval : val zs ≤ 4294967295 := by
    rw [hv] at hx
    cases neg <;> simp [sgn] at hx <;> omega
  by_cases hz : zs = []
  · subst hz; simp at hl; omega
  · have h1 := val_pos_of_top h.lim h.top hz
    by_cases h2 : n ≤ 1
    · exact h2
    · exfalso
      obtain ⟨k, hk⟩ : ∃ k, zs.length - 1 = k + 1 := ⟨zs.length - 2, by omega⟩
      rw [hk, Int.pow_succ] at h1
      have h3 : 0 < (4294967296 : Int) ^ k := Int.pow_pos (by omega)
      have h4 : (4294967296 : Int) ^ k * 4294967296 ≥ 1 * 4294967296 := Int.mul_le_mul_of_nonneg_right (by omega) (by omega)
      omega

set_option maxRecDepth 100000 in
set_option maxHeartbeats 2000000 in
theorem parse_frac (w : World) (s bf bh : ByteArray) (r N D : Int) (h2 : 2 ≤ r) (h36 : r ≤ 36) (hs : s.size ≤ 20000)
    (hcut : ∀ w, Calls Tryz.prog 108 #[.string s, .string ⟨#[47]⟩] w fun e w' => e = .returned (.tuple #[.string bf, .string bh, .bool true]) ∧ Below w.heap.size w w')
    (hbf : ∀ w, Calls Tryz.prog 109 #[.string bf, .int .i64 r] w (RetBoth w N 0 1000001)) (hbh : ∀ w, Calls Tryz.prog 109 #[.string bh, .int .i64 r] w (RetBoth w D 0 1000001))
    (hN : N.natAbs ≤ 4294967295) (hD : D.natAbs ≤ 4294967295) (hD0 : D ≠ 0) (hp : Lib.hasPrefix bh.data.toList (ByteArray.mk #[43]).data.toList = false) (hm : Lib.hasPrefix bh.data.toList (ByteArray.mk #[45]).data.toList = false) :
    Calls Tryz.prog 58 #[.string s, .int .i64 r] w (RetRatE w (qn N D) (qd N D) 1 1 0) := by
  have HC := Lib.hid hcut
  have H1 := Lib.hid hbf
  have H2 := Lib.hid hbh
  have HP := Lib.hid hp
  have HM := Lib.hid hm
  have hr1 : ¬ r < 2 := by omega
  have hr2 : ¬ 36 < r := by omega
  have hsz : ¬ (20000 : Int) < s.size := by omega
  clear hcut hbf hbh hp hm
  go_enter Tryz.func58, Tryz.ntmps58
  go_wp2_with fail
  refine (HC.out _).mono ?_
  rintro e w1 ⟨rfl, b1⟩
  have R := Lib.hid ((b1.block w.heap.size (by go_size)).trans (heap_alloc_new w (.cells #[.bool false, .slice none 0 0, .bool false, .slice none 0 0] 38)))
  have HB := Lib.hid (show Below w.heap.size w w1 from Below.trans (by go_grown) (b1.mono (by go_size)))
  clear b1
  go_wp2_with fail
  refine (H1.out _).mono ?_
  rintro e w2 ⟨s1, a1, m1, k1, z1, rfl, i1, -, b2⟩
  have hm1 := size_small i1 hN
  have I1 := Lib.hid i1
  replace R := Lib.hid ((b2.block _ (Array.getElem?_eq_some_iff.1 R.out).1).trans R.out)
  replace HB := Lib.hid (HB.out.trans (b2.mono HB.out.size))
  clear i1 b2
  go_upto_region 9 with (fail)
  obtain ⟨w3, hw3⟩ : ∃ w3, w3 = w2.alloc (.cells #[.bool s1, .slice a1 m1 k1] 31) := ⟨_, rfl⟩
  have b3 : Below w2.heap.size w2 w3 := by rw [hw3]; go_grown
  have ra : w3.heap[w2.heap.size]? = some (.cells #[.bool s1, .slice a1 m1 k1] 31 (0, 0)) := by rw [hw3]; exact heap_alloc_new w2 _
  rw [← hw3]
  clear hw3
  obtain ⟨A, hA⟩ : ∃ A, A = w2.heap.size := ⟨_, rfl⟩
  rw [← hA] at ra ⊢
  replace R := Lib.hid ((b3.block _ (Array.getElem?_eq_some_iff.1 R.out).1).trans R.out)
  replace HB := Lib.hid (HB.out.trans (b3.mono HB.out.size))
  replace I1 := Lib.hid (I1.out.below b3)
  have RA := Lib.hid ra
  clear b3 ra hA
  go_wp2_with fail
  refine (prefix_any _ _ _).mono ?_
  rintro e w' ⟨rfl, rfl⟩
  rw [HP.out]
  go_wp2_with fail
  refine (prefix_any _ _ _).mono ?_
  rintro e w' ⟨rfl, rfl⟩
  rw [HM.out]
  go_wp2_with fail
  refine (H2.out _).mono ?_
  rintro e w5 ⟨s2, a2, m2, k2, z2, rfl, i2, -, b5⟩
  have hm2 := size_small i2 hD
  have I2 := Lib.hid i2
  replace R := Lib.hid ((b5.block _ (Array.getElem?_eq_some_iff.1 R.out).1).trans R.out)
  replace RA := Lib.hid ((b5.block _ (Array.getElem?_eq_some_iff.1 RA.out).1).trans RA.out)
  replace HB := Lib.hid (HB.out.trans (b5.mono HB.out.size))
  replace I1 := Lib.hid (I1.out.below b5)
  clear i2 b5
  go_upto_region 14 with (fail)
  obtain ⟨w6, hw6⟩ : ∃ w6, w6 = w5.alloc (.cells #[.bool s2, .slice a2 m2 k2] 31) := ⟨_, rfl⟩
  have b6 : Below w5.heap.size w5 w6 := by rw [hw6]; go_grown
  have rb : w6.heap[w5.heap.size]? = some (.cells #[.bool s2, .slice a2 m2 k2] 31 (0, 0)) := by rw [hw6]; exact heap_alloc_new w5 _
  rw [← hw6]
  clear hw6
  obtain ⟨B, hB⟩ : ∃ B, B = w5.heap.size := ⟨_, rfl⟩
  rw [← hB] at rb ⊢
  replace R := Lib.hid ((b6.block _ (Array.getElem?_eq_some_iff.1 R.out).1).trans R.out)
  replace RA := Lib.hid ((b6.block _ (Array.getElem?_eq_some_iff.1 RA.out).1).trans RA.out)
  replace HB := Lib.hid (HB.out.trans (b6.mono HB.out.size))
  replace I1 := Lib.hid (I1.out.below b6)
  replace I2 := Lib.hid (I2.out.below b6)
  obtain ⟨c0, c1, -, -⟩ := blk2 RA.out
  obtain ⟨d0, d1, -, -⟩ := blk2 rb
  have hnew := newq_any w6 _ _ _ _ _ _ _ _ _ _ N D I1.out I2.out 1 (by omega) (by omega) (by omega)
  rw [if_neg hD0, if_neg hD0, if_neg hD0] at hnew
  have HNEW := Lib.hid hnew
  clear b6 rb hB hnew
  go_wp2_with fail
  refine HNEW.out.mono ?_
  rintro e w7 ⟨tn, ta, t, tc, zt, bn, ba, b, bc, zb, x, rfl, hr, ht, hb, b7⟩
  have r7 := (b7.block _ (Array.getElem?_eq_some_iff.1 R.out).1).trans R.out
  obtain ⟨p0, p1, p2, p3⟩ := blk4 r7
  obtain ⟨pf0, pf1, pf2, pf3⟩ := blk4f r7
  have HR := Lib.hid (rat_stored hr r7 (.bool tn) (.slice ta t tc) (.bool bn) (.slice ba b bc))
  have HBB := Lib.hid (below4 (HB.out.trans (b7.mono HB.out.size)) (B := w.heap.size) (Nat.le_refl _) (.bool tn) (.slice ta t tc) (.bool bn) (.slice ba b bc))
  clear hr r7 b7 c0 c1 d0 d1
  go_wp2_with fail
  refine bodyPost_ret (v := .tuple #[.agg #[.bool tn, .slice ta t tc, .bool bn, .slice ba b bc], .int .i64 0]) (by simp [results, Tryz.results58, go_sem, p0, p1, p2, p3]) rfl ?_
  exact ⟨_, _, _, _, _, _, _, _, _, _, _, rfl, HR.out, ht, hb, HBB.out⟩

set_option maxRecDepth 100000 in
set_option maxHeartbeats 2000000 in
/-- The text of a fraction that is no integer. -/
theorem textq_frac (w : World) (tn : Bool) (ta : Option Addr) (t tc : Nat) (zt : List Int) (bn : Bool) (ba : Option Addr) (b bc : Nat) (zb : List Int) (n d : Int) (h : RatAt w tn ta t tc zt bn ba b bc zb n d d) (hd1 : d ≠ 1) (r : Nat) (h2 : 2 ≤ r) (h36 : r ≤ 36) (ht : t ≤ 100) (hb : b ≤ 100)
    (S1 S2 : ByteArray) (e1 : strOfNums (textOf r n) = S1) (e2 : strOfNums (textOf r d) = S2) (z1 : S1.size ≤ 10000) (z2 : S2.size ≤ 10000) :
    Calls Tryz.prog 56 #[.agg #[.bool tn, .slice ta t tc, .bool bn, .slice ba b bc], .int .i64 r] w (RetV w (.tuple #[.string (S1 ++ ⟨#[47]⟩ ++ S2), .int .i64 0])) := by
  have H1 : Hid (∀ w1, Below w.heap.size w w1 → Calls Tryz.prog 106 #[.agg #[.bool tn, .slice ta t tc], .int .i64 r] w1 (RetV w1 (.tuple #[.string S1, .int .i64 0]))) := Lib.hid (fun w1 hb => by rw [← e1]; exact text_any w1 _ _ _ _ _ n r (h.top.below hb) (by omega) h2 h36)
  have H2 : Hid (∀ w1, Below w.heap.size w w1 → Calls Tryz.prog 106 #[.agg #[.bool bn, .slice ba b bc], .int .i64 r] w1 (RetV w1 (.tuple #[.string S2, .int .i64 0]))) := Lib.hid (fun w1 hb => by rw [← e2]; exact text_any w1 _ _ _ _ _ d r (h.bot.below hb) (by omega) h2 h36)
  have HW : Hid (∀ w1, Below w.heap.size w w1 → Calls Tryz.prog 22 #[.agg #[.bool tn, .slice ta t tc, .bool bn, .slice ba b bc]] w1 (RetV w1 (.bool false))) := Lib.hid (fun w1 hb => by
    have := whole_any w1 _ _ _ _ _ _ _ _ _ _ n d d (h.below hb)
    rwa [decide_eq_false hd1] at this)
  clear h e1 e2 hd1
  go_enter Tryz.func56, Tryz.ntmps56
  go_upto_region 1 with (fail)
  obtain ⟨w1, hw1⟩ : ∃ w1, w1 = w.alloc (.cells #[.bool tn, .slice ta t tc, .bool bn, .slice ba b bc] 38) := ⟨_, rfl⟩
  have b1 : Below w.heap.size w w1 := by rw [hw1]; go_grown
  have r0 : w1.heap[w.heap.size]? = some (.cells #[.bool tn, .slice ta t tc, .bool bn, .slice ba b bc] 38 (0, 0)) := by rw [hw1]; exact heap_alloc_new w _
  rw [← hw1]
  clear hw1
  have R := Lib.hid r0
  have HB := Lib.hid b1
  clear r0 b1
  obtain ⟨x0, x1, x2, x3⟩ := blk4 R.out
  go_wp2_with fail
  refine (H1.out _ HB.out).mono ?_
  rintro e w2 ⟨rfl, b2⟩
  replace R := Lib.hid ((b2.block _ (Array.getElem?_eq_some_iff.1 R.out).1).trans R.out)
  replace HB := Lib.hid (HB.out.trans (b2.mono HB.out.size))
  clear b2 x0 x1 x2 x3
  obtain ⟨x0, x1, x2, x3⟩ := blk4 R.out
  go_wp2_with fail
  refine (HW.out _ HB.out).mono ?_
  rintro e w3 ⟨rfl, b3⟩
  replace R := Lib.hid ((b3.block _ (Array.getElem?_eq_some_iff.1 R.out).1).trans R.out)
  replace HB := Lib.hid (HB.out.trans (b3.mono HB.out.size))
  clear b3 x0 x1 x2 x3
  obtain ⟨x0, x1, x2, x3⟩ := blk4 R.out
  go_wp2_with fail
  refine (H2.out _ HB.out).mono ?_
  rintro e w4 ⟨rfl, b4⟩
  go_wp2_with fail
  go_ret2
  exact ⟨rfl, HB.out.trans (b4.mono HB.out.size)⟩

open Go.Shelf Go.RowKit
set_option autoImplicit false
set_option linter.unusedVariables false

theorem cut_plain (s bf bh : ByteArray) (i : Nat) (hi : Lib.indexByte s.data.toList 47 = (i : Int)) (hl : i < s.size) (hs : s.size ≤ 1000000) (e1 : s.extract 0 i = bf) (e2 : s.extract (i + 1) s.size = bh) (w : World) :
    Calls Tryz.prog 108 #[.string s, .string ⟨#[47]⟩] w fun e w' => e = .returned (.tuple #[.string bf, .string bh, .bool true]) ∧ Below w.heap.size w w' := by
  subst e1 e2
  exact cut_at s 47 i hi hl hs w

theorem parse_one (w : World) : Calls Tryz.prog 58 #[.string ⟨#[43, 48, 54, 47, 52]⟩, .int .i64 10] w (RetRatE w 3 2 1 1 0) :=
  parse_frac w ⟨#[43, 48, 54, 47, 52]⟩ ⟨#[43, 48, 54]⟩ ⟨#[52]⟩ 10 6 4 (by decide) (by decide) (by decide)
    (cut_plain _ _ _ 3 (by decide) (by decide) (by decide) (by decide +kernel) (by decide +kernel))
    (fun w => parse_signed w _ 10 (by decide) (by decide) false [48, 54] rfl (by decide) (by unfold IsDig; decide +kernel) (by decide))
    (fun w => parse_digits w _ 10 (by decide) (by decide) [52] rfl 52 [] rfl (by decide) (by decide) (by unfold IsDig; decide +kernel) (by decide))
    (by decide) (by decide) (by decide) (by decide +kernel) (by decide +kernel)

theorem parse_two (w : World) : Calls Tryz.prog 58 #[.string ⟨#[51, 49, 47, 49, 48, 48]⟩, .int .i64 10] w (RetRatE w 31 100 1 1 0) :=
  parse_frac w ⟨#[51, 49, 47, 49, 48, 48]⟩ ⟨#[51, 49]⟩ ⟨#[49, 48, 48]⟩ 10 31 100 (by decide) (by decide) (by decide)
    (cut_plain _ _ _ 2 (by decide) (by decide) (by decide) (by decide +kernel) (by decide +kernel))
    (fun w => parse_digits w _ 10 (by decide) (by decide) [51, 49] rfl 51 [49] rfl (by decide) (by decide) (by unfold IsDig; decide +kernel) (by decide))
    (fun w => parse_digits w _ 10 (by decide) (by decide) [49, 48, 48] rfl 49 [48, 48] rfl (by decide) (by decide) (by unfold IsDig; decide +kernel) (by decide))
    (by decide) (by decide) (by decide) (by decide +kernel) (by decide +kernel)

theorem parse_three (w : World) : Calls Tryz.prog 58 #[.string ⟨#[51, 50, 47, 49, 48, 48]⟩, .int .i64 10] w (RetRatE w 8 25 1 1 0) :=
  parse_frac w ⟨#[51, 50, 47, 49, 48, 48]⟩ ⟨#[51, 50]⟩ ⟨#[49, 48, 48]⟩ 10 32 100 (by decide) (by decide) (by decide)
    (cut_plain _ _ _ 2 (by decide) (by decide) (by decide) (by decide +kernel) (by decide +kernel))
    (fun w => parse_digits w _ 10 (by decide) (by decide) [51, 50] rfl 51 [50] rfl (by decide) (by decide) (by unfold IsDig; decide +kernel) (by decide))
    (fun w => parse_digits w _ 10 (by decide) (by decide) [49, 48, 48] rfl 49 [48, 48] rfl (by decide) (by decide) (by unfold IsDig; decide +kernel) (by decide))
    (by decide) (by decide) (by decide) (by decide +kernel) (by decide +kernel)

theorem text_plain (w : World) (tn : Bool) (ta : Option Addr) (t tc : Nat) (zt : List Int) (bn : Bool) (ba : Option Addr) (b bc : Nat) (zb : List Int) (n x d : Int) (h : RatAt w tn ta t tc zt bn ba b bc zb n x d) (hd1 : d ≠ 1) (ht : t ≤ 100) (hb : b ≤ 100)
    (S1 S2 S : ByteArray) (e1 : strOfNums (textOf 10 n) = S1) (e2 : strOfNums (textOf 10 d) = S2) (z1 : S1.size ≤ 10000) (z2 : S2.size ≤ 10000) (e3 : S1 ++ ⟨#[47]⟩ ++ S2 = S) :
    Calls Tryz.prog 56 #[.agg #[.bool tn, .slice ta t tc, .bool bn, .slice ba b bc], .int .i64 10] w (RetV w (.tuple #[.string S, .int .i64 0])) := by
  have hx : x = d := by
    rcases h.den with h | ⟨_, h⟩
    · exact h
    · exact absurd h hd1
  subst hx e3
  exact textq_frac w _ _ _ _ _ _ _ _ _ _ n x h hd1 10 (by decide) (by decide) ht hb S1 S2 e1 e2 z1 z2
end Go.Proofs.YtdfepdhflnnjpaaGreat
