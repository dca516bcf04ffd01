/- What IntegerActs and IntegerDivides ask besides: Short of two, Abs, Divide by zero, both Divides. -/
import Derived.Test.YtpakfknacmcohaaRGcd
import Derived.Test.YtpakfknacmcohaaGcd6
import Derived.Test.YtpakfknacmcohaaBothD
import Derived.Test.YtpakfknacmcohaaBoxes
namespace Go.Proofs.Ytpakfknacmcohaa
open Go.RowKit
set_option autoImplicit false
set_option linter.unusedVariables false

theorem num_two {w : World} {b : Nat} {x y : Num} {t : TypeId} (h : w.heap[b]? = some (.cells #[.bool x.neg, .slice x.ao x.n x.cap, .bool y.neg, .slice y.ao y.n y.cap] t (0, 0))) : Nums w b [x, y] := by
  intro i u hu
  match i, hu with
  | 0, hu =>
    simp at hu; subst hu
    exact ⟨cell_of_row _ b 0 _ t (0, 0) h, cell_of_row _ b 1 _ t (0, 0) h⟩
  | 1, hu =>
    simp at hu; subst hu
    exact ⟨cell_of_row _ b 2 _ t (0, 0) h, cell_of_row _ b 3 _ t (0, 0) h⟩

theorem short_two (w : World) (b : Nat) (x y : Num) (most : Nat) (h : w.heap[b]? = some (.cells #[.bool x.neg, .slice x.ao x.n x.cap, .bool y.neg, .slice y.ao y.n y.cap] 24 (0, 0))) :
    Calls Try.prog 14 #[.int .i64 most, .slice (some ⟨b, 0, none⟩) 2 2] w (RetV w (.bool (decide (x.n ≤ most ∧ y.n ≤ most)))) := by
  have := short_any w b 2 [x, y] most (num_two h) (Array.getElem?_eq_some_iff.1 h).1 (by simp) (by omega)
  simpa using this

theorem absI (w : World) (nx : Bool) (ao : Option Addr) (n cap : Nat) (xs : List Int) (x : Int) (hx : IntAt w nx ao n cap xs x) (hn : n ≤ 34359738368) :
    Calls Try.prog 36 #[.agg #[.bool nx, .slice ao n cap]] w (RetInt w (x.natAbs : Int) n) := by
  have HC : Hid (∀ w1, Below w.heap.size w w1 → _) := Lib.hid (fun w1 hb => clone_any w1 ao n cap xs (hx.sl.below hb) hn)
  have hl := hx.lim
  have hv : sgn false (val xs) = (x.natAbs : Int) := by
    have h1 := hx.abs
    have h2 := val_nonneg hx.lim
    simp only [sgn]
    simp
    omega
  have HV := Lib.hid hv
  clear hx hv
  go_enter Try.func36, Try.ntmps36
  go_wp2_with fail
  refine (HC.out _ (by go_grown)).mono ?_
  rintro e w2 ⟨a2, d2, rfl, hown2, hb1⟩
  have hr2 := (hb1.block (w.heap.size + 1) (by go_size)).trans (heap_alloc2 w (.cells #[.bool nx, .slice ao n cap] 28) (.cells #[.bool false, .slice none 0 0] 28)).1
  have hb4 : Below w.heap.size w w2 := Below.trans (by go_grown) (hb1.mono (by go_size))
  have hz2 : w.heap.size + 1 + 1 ≤ w2.heap.size := Nat.le_trans (by go_size) hb1.size
  have HS2 := Lib.hid hown2.sl
  clear hown2 hb1
  go_wp2_with fail
  refine (wrap_int _ _ _ _ _ _ HS2.out hl rfl).mono ?_
  rintro e w3 ⟨neg', ao', n', cap', zs', rfl, hint, hn', hb3⟩
  have hr4 := (hb3.block (w.heap.size + 1) (by omega)).trans hr2
  have hb6 : Below w.heap.size w w3 := hb4.trans (hb3.mono hb4.size)
  rw [HV.out] at hint
  have HI4 := Lib.hid (hint.stored hr4 (.bool neg') (.slice ao' n' cap'))
  obtain ⟨d0, d1, g0, g1⟩ := blk2 hr4
  clear hint hr2 hr4 hb3 hb4
  go_wp2_with fail
  refine bodyPost_ret (v := .agg #[.bool neg', .slice ao' n' cap']) (by simp [results, Try.results36, go_sem, d0, d1]) rfl ?_
  exact ⟨_, _, _, _, _, rfl, HI4.out, by omega, (hb6.setCell (p := ⟨w.heap.size + 1, 0, none⟩) (by dsimp only; omega) _).setCell (p := ⟨w.heap.size + 1, 1, none⟩) (by dsimp only; omega) _⟩

/-- Two numbers and a code were returned. -/
def RetTwo (w : World) (q r : Int) (c : Int) (L : Nat) (e : Ending) (w' : World) : Prop :=
  ∃ n1 a1 k1 c1 z1 n2 a2 k2 c2 z2, e = .returned (.tuple #[.agg #[.bool n1, .slice a1 k1 c1], .agg #[.bool n2, .slice a2 k2 c2], .int .i64 c]) ∧ IntAt w' n1 a1 k1 c1 z1 q ∧ IntAt w' n2 a2 k2 c2 z2 r ∧ k1 ≤ L ∧ k2 ≤ L ∧ Below w.heap.size w w'
def RetTwoR (w : World) (q r : Int) (c : Int) (L : Nat) (e : Ending) (w' : World) : Prop :=
  ∃ n1 a1 k1 c1 z1 n2 a2 k2 c2 z2, e = .returned (.tuple #[.agg #[.bool n1, .slice a1 k1 c1], .agg #[.bool n2, .slice a2 k2 c2], .int .i64 c]) ∧ RefAt w' n1 a1 k1 c1 z1 q ∧ RefAt w' n2 a2 k2 c2 z2 r ∧ k1 ≤ L ∧ k2 ≤ L ∧ Below w.heap.size w w'

set_option maxRecDepth 100000 in
theorem divide_zero (w : World) (nx ny : Bool) (ao bo : Option Addr) (n m capa capb : Nat) (ys : List Int) (hy : IntAt w ny bo m capb ys 0) :
    Calls Try.prog 30 #[.agg #[.bool nx, .slice ao n capa], .agg #[.bool ny, .slice bo m capb]] w (RetTwo w 0 0 6 0) := by
  have HS : Hid (∀ w', Below w.heap.size w w' → Calls Try.prog 22 #[.agg #[.bool ny, .slice bo m capb]] w' (RetV w' (.int .i64 0))) := Lib.hid (fun w' hb => sign_int w' ny bo m capb ys 0 (hy.below hb))
  clear hy
  go_enter Try.func30, Try.ntmps30
  go_wp2_with fail
  refine (HS.out _ (by go_grown)).mono ?_
  rintro e w1 ⟨rfl, hb1⟩
  obtain ⟨r1, r2, r3, r4⟩ := four_rows w (.cells #[.bool nx, .slice ao n capa] 28) (.cells #[.bool ny, .slice bo m capb] 28) (.cells #[.bool false, .slice none 0 0] 28) (.cells #[.bool false, .slice none 0 0] 28)
  replace r3 := (hb1.block (w.heap.size + 1 + 1) (by go_size)).trans r3
  replace r4 := (hb1.block (w.heap.size + 1 + 1 + 1) (by go_size)).trans r4
  have hz1 : w.heap.size + 1 + 1 + 1 + 1 ≤ w1.heap.size := Nat.le_trans (by go_size) hb1.size
  have hb2 : Below w.heap.size w w1 := Below.trans (by go_grown) (hb1.mono (by go_size))
  obtain ⟨c0, c1, f0, f1⟩ := blk2 r3
  obtain ⟨d0, d1, g0, g1⟩ := blk2 r4
  clear hb1 r1 r2 r3 r4
  go_wp2_with fail
  refine bodyPost_ret (v := .tuple #[.agg #[.bool false, .slice none 0 0], .agg #[.bool false, .slice none 0 0], .int .i64 6]) (by simp [results, Try.results30, go_sem, c0, c1, d0, d1]) rfl ?_
  exact ⟨_, _, _, _, _, _, _, _, _, _, rfl, int_zero' _, int_zero' _, Nat.le_refl _, Nat.le_refl _, (((hb2.setCell (p := ⟨w.heap.size + 1 + 1, 0, none⟩) (by dsimp only; omega) _).setCell (p := ⟨w.heap.size + 1 + 1, 1, none⟩) (by dsimp only; omega) _).setCell (p := ⟨w.heap.size + 1 + 1 + 1, 0, none⟩) (by dsimp only; omega) _).setCell (p := ⟨w.heap.size + 1 + 1 + 1, 1, none⟩) (by dsimp only; omega) _⟩

set_option maxRecDepth 100000 in
theorem rdivide_zero (w : World) (nx ny : Bool) (ao bo : Option Addr) (n m capa capb : Nat) (ys : List Int) (hy : RefAt w ny bo m capb ys 0) :
    Calls Try.prog 31 #[.agg #[.bool nx, .slice ao n capa], .agg #[.bool ny, .slice bo m capb]] w (RetTwoR w 0 0 6 0) := by
  have HS : Hid (∀ w', Below w.heap.size w w' → Calls Try.prog 23 #[.agg #[.bool ny, .slice bo m capb]] w' (RetV w' (.int .i64 0))) := Lib.hid (fun w' hb => rsign_any w' ny bo m capb ys 0 (hy.below hb))
  clear hy
  go_enter Try.func31, Try.ntmps31
  go_wp2_with fail
  refine (HS.out _ (by go_grown)).mono ?_
  rintro e w1 ⟨rfl, hb1⟩
  obtain ⟨r1, r2, r3, r4⟩ := four_rows w (.cells #[.bool nx, .slice ao n capa] 31) (.cells #[.bool ny, .slice bo m capb] 31) (.cells #[.bool false, .slice none 0 0] 31) (.cells #[.bool false, .slice none 0 0] 31)
  replace r3 := (hb1.block (w.heap.size + 1 + 1) (by go_size)).trans r3
  replace r4 := (hb1.block (w.heap.size + 1 + 1 + 1) (by go_size)).trans r4
  have hz1 : w.heap.size + 1 + 1 + 1 + 1 ≤ w1.heap.size := Nat.le_trans (by go_size) hb1.size
  have hb2 : Below w.heap.size w w1 := Below.trans (by go_grown) (hb1.mono (by go_size))
  obtain ⟨c0, c1, f0, f1⟩ := blk2 r3
  obtain ⟨d0, d1, g0, g1⟩ := blk2 r4
  clear hb1 r1 r2 r3 r4
  go_wp2_with fail
  refine bodyPost_ret (v := .tuple #[.agg #[.bool false, .slice none 0 0], .agg #[.bool false, .slice none 0 0], .int .i64 6]) (by simp [results, Try.results31, go_sem, c0, c1, d0, d1]) rfl ?_
  exact ⟨_, _, _, _, _, _, _, _, _, _, rfl, ref_zero _, ref_zero _, Nat.le_refl _, Nat.le_refl _, (((hb2.setCell (p := ⟨w.heap.size + 1 + 1, 0, none⟩) (by dsimp only; omega) _).setCell (p := ⟨w.heap.size + 1 + 1, 1, none⟩) (by dsimp only; omega) _).setCell (p := ⟨w.heap.size + 1 + 1 + 1, 0, none⟩) (by dsimp only; omega) _).setCell (p := ⟨w.heap.size + 1 + 1 + 1, 1, none⟩) (by dsimp only; omega) _⟩

theorem both_divide (nx ux ny uy : Bool) (ao uo bo vo : Option Addr) (n n' m m' capa capc capb capd : Nat) (xs us ys vs : List Int) (x y : Int) (w1 : World) (hx : IntAt w1 nx ao n capa xs x) (hu : RefAt w1 ux uo n' capc us x) (hy : IntAt w1 ny bo m capb ys y) (hv : RefAt w1 uy vo m' capd vs y)
    (h1 : n ≤ 1000) (h2 : n' ≤ 1000) (h3 : m ≤ 1000) (h4 : m' ≤ 1000) :
    ∃ q r c : Int, (∀ w2, Below w1.heap.size w1 w2 → Calls Try.prog 30 #[.agg #[.bool nx, .slice ao n capa], .agg #[.bool ny, .slice bo m capb]] w2 (RetTwo w2 q r c 1002)) ∧
      ∀ w2, Below w1.heap.size w1 w2 → Calls Try.prog 31 #[.agg #[.bool ux, .slice uo n' capc], .agg #[.bool uy, .slice vo m' capd]] w2 (RetTwoR w2 q r c 1002) := by
  by_cases h0 : y = 0
  · subst h0
    refine ⟨0, 0, 6, fun w2 hb => (divide_zero w2 nx ny ao bo n m capa capb ys (hy.below hb)).mono ?_, fun w2 hb => (rdivide_zero w2 ux uy uo vo n' m' capc capd vs (hv.below hb)).mono ?_⟩
    · rintro e w' ⟨n1, a1, k1, c1, z1, n2, a2, k2, c2, z2, g0, g1, g2, g3, g4, g5⟩
      exact ⟨n1, a1, k1, c1, z1, n2, a2, k2, c2, z2, g0, g1, g2, by omega, by omega, g5⟩
    · rintro e w' ⟨n1, a1, k1, c1, z1, n2, a2, k2, c2, z2, g0, g1, g2, g3, g4, g5⟩
      exact ⟨n1, a1, k1, c1, z1, n2, a2, k2, c2, z2, g0, g1, g2, by omega, by omega, g5⟩
  · refine ⟨x.tdiv y, x.tmod y, 0, fun w2 hb => (divide_int w2 nx ny ao bo n m capa capb xs ys x y (hx.below hb) (hy.below hb) h0 (by omega)).mono ?_, fun w2 hb => (rdivide_any w2 ux uy uo vo n' m' capc capd us vs x y (hu.below hb) (hv.below hb) (by omega) (by omega) h0).mono ?_⟩
    · rintro e w' ⟨n1, a1, k1, c1, z1, n2, a2, k2, c2, z2, g0, g1, g2, g3, g4, g5⟩
      exact ⟨n1, a1, k1, c1, z1, n2, a2, k2, c2, z2, g0, g1, g3, by omega, by omega, g5⟩
    · rintro e w' ⟨n1, a1, k1, c1, z1, n2, a2, k2, c2, z2, g0, g1, g2, g3, g4, g5⟩
      exact ⟨n1, a1, k1, c1, z1, n2, a2, k2, c2, z2, g0, g1, g2, by omega, by omega, g5⟩
end Go.Proofs.Ytpakfknacmcohaa
