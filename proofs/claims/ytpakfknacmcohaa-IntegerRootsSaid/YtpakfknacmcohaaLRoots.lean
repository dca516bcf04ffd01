/- IntegerRoots: the walk. -/
import Derived.Test.YtpakfknacmcohaaRootsIn
import Derived.Test.YtpakfknacmcohaaBoxes
import Derived.Deep.DeepCutAuto
import Derived.Sort.AtCall
namespace Go.Proofs.Ytpakfknacmcohaa
open Go.RowKit
set_option autoImplicit false
set_option linter.unusedVariables false

theorem short_one (w : World) (b : Nat) (x : Num) (most : Nat) (h : w.heap[b]? = some (.cells #[.bool x.neg, .slice x.ao x.n x.cap] 24 (0, 0))) :
    Calls Try.prog 14 #[.int .i64 most, .slice (some ⟨b, 0, none⟩) 1 1] w (RetV w (.bool (decide (x.n ≤ most)))) := by
  have := short_any w b 1 [x] most (nums_one h) (Array.getElem?_eq_some_iff.1 h).1 (by simp) (by omega)
  simpa using this

set_option maxRecDepth 100000 in
theorem roots_long (w : World) (nx : Bool) (ax : Option Addr) (n1 c1 : Nat) (m n : Int) (h : ¬ n1 ≤ 6) :
    Calls Try.prog 12 #[.agg #[.bool nx, .slice ax n1 c1], .int .u8 m, .int .u8 n] w (RetV w (.bool true)) := by
  have HD : Hid (decide (n1 ≤ 6) = false) := Lib.hid (decide_eq_false h)
  clear h
  go_enter Try.func12, Try.ntmps12
  go_wp2_with fail
  refine (short_one _ _ ⟨nx, ax, n1, c1⟩ 6 (heap_alloc2 _ _ _).1).mono ?_
  rintro e w1 ⟨rfl, hb1⟩
  rw [show decide (Num.n ⟨nx, ax, n1, c1⟩ ≤ 6) = false from HD.out]
  have hb2 : Below w.heap.size w w1 := Below.trans (by go_grown) (hb1.mono (by go_size))
  clear hb1
  go_wp2_with fail
  refine (awake_any _).mono ?_
  rintro e w2 ⟨rfl, hb3⟩
  go_wp2_with fail
  go_ret
  exact ⟨rfl, hb2.trans (hb3.mono hb2.size)⟩

theorem root_negx (w : World) (nx : Bool) (ao : Option Addr) (n cap : Nat) (h : nx = true) :
    Calls Try.prog 48 #[.agg #[.bool nx, .slice ao n cap]] w (RetZero w 1) := by subst h; exact root_neg w ao n cap
theorem BAt.other {w : World} {v : BV} {B : Nat} {a : Bool} {b : Option Addr} {c d : Nat} {a' : Bool} {b' : Option Addr} {c' d' : Nat} (h : BAt w v) (hr : w.heap[B]? = some (.cells #[.bool a, .slice b c d] 28 (0, 0))) (hne : v.p ≠ B) :
    BAt ((w.setCell ⟨B, 0, none⟩ (.bool a')).setCell ⟨B, 1, none⟩ (.slice b' c' d')) v := by
  have e : ((w.setCell ⟨B, 0, none⟩ (.bool a')).setCell ⟨B, 1, none⟩ (.slice b' c' d')).heap[v.p]? = w.heap[v.p]? := by
    rw [Below.heap_setCell _ _ _ _ hne, Below.heap_setCell _ _ _ _ hne]
  refine ⟨?_, ?_, h.it.stored hr _ _, h.small, ?_⟩
  · have := h.c0
    unfold World.cell? at this ⊢
    dsimp only at this ⊢
    rw [e]
    exact this
  · have := h.c1
    unfold World.cell? at this ⊢
    dsimp only at this ⊢
    rw [e]
    exact this
  · have := h.lt
    simpa using this

theorem abs_int (w : World) (nx : Bool) (ao : Option Addr) (n cap : Nat) (xs : List Int) (x : Int) (hx : IntAt w nx ao n cap xs x) (hn : n ≤ 34359738368) :
    Calls Try.prog 36 #[.agg #[.bool nx, .slice ao n cap]] w (RetInt w (x.natAbs : Int) n) := by
  have HC : Hid (∀ w1, Below w.heap.size w w1 → _) := Lib.hid (fun w1 hb => clone_any w1 ao n cap xs (hx.sl.below hb) hn)
  have hl := hx.lim
  have hv : sgn false (val xs) = (x.natAbs : Int) := by
    have h1 := hx.abs
    have h2 := val_nonneg hx.lim
    simp only [sgn]
    simp
    omega
  have HV := Lib.hid hv
  clear hx hv
  go_enter Try.func36, Try.ntmps36
  go_wp2_with fail
  refine (HC.out _ (by go_grown)).mono ?_
  rintro e w2 ⟨a2, d2, rfl, hown2, hb1⟩
  have hr2 := (hb1.block (w.heap.size + 1) (by go_size)).trans (heap_alloc2 w (.cells #[.bool nx, .slice ao n cap] 28) (.cells #[.bool false, .slice none 0 0] 28)).1
  have hb4 : Below w.heap.size w w2 := Below.trans (by go_grown) (hb1.mono (by go_size))
  have hz2 : w.heap.size + 1 + 1 ≤ w2.heap.size := Nat.le_trans (by go_size) hb1.size
  have HS2 := Lib.hid hown2.sl
  clear hown2 hb1
  go_wp2_with fail
  refine (wrap_int _ _ _ _ _ _ HS2.out hl rfl).mono ?_
  rintro e w3 ⟨neg', ao', n', cap', zs', rfl, hint, hn', hb3⟩
  have hr4 := (hb3.block (w.heap.size + 1) (by omega)).trans hr2
  have hb6 : Below w.heap.size w w3 := hb4.trans (hb3.mono hb4.size)
  rw [HV.out] at hint
  have HI4 := Lib.hid (hint.stored hr4 (.bool neg') (.slice ao' n' cap'))
  obtain ⟨d0, d1, g0, g1⟩ := blk2 hr4
  clear hint hr2 hr4 hb3 hb4
  go_wp2_with fail
  refine bodyPost_ret (v := .agg #[.bool neg', .slice ao' n' cap']) (by simp [results, Try.results36, go_sem, d0, d1]) rfl ?_
  exact ⟨_, _, _, _, _, rfl, HI4.out, by omega, (hb6.setCell (p := ⟨w.heap.size + 1, 0, none⟩) (by dsimp only; omega) _).setCell (p := ⟨w.heap.size + 1, 1, none⟩) (by dsimp only; omega) _⟩

theorem cmp_is (w : World) (nx ny : Bool) (ao bo : Option Addr) (n m capa capb : Nat) (xs ys : List Int) (x y c : Int) (hx : IntAt w nx ao n capa xs x) (hy : IntAt w ny bo m capb ys y) (hc : cmpI x y = c) :
    Calls Try.prog 32 #[.agg #[.bool nx, .slice ao n capa], .agg #[.bool ny, .slice bo m capb]] w (RetV w (.int .i64 c)) := by
  rw [← hc]; exact cmp_int w nx ny ao bo n m capa capb xs ys x y hx hy

theorem pow_sum (w : World) (nx : Bool) (ao : Option Addr) (n cap : Nat) (xs : List Int) (x : Int) (i k : Nat) (hx : IntAt w nx ao n cap xs x) (hn : n ≤ 1048576) (hk : 32 * n * (i + k) < 65536) (hk2 : i + k ≤ 65536) :
    Calls Try.prog 46 #[.agg #[.bool nx, .slice ao n cap], .int .i64 ((i : Int) + (k : Int))] w (RetIE w (x ^ (i + k)) (n * (i + k) + 1)) := by
  have := pow_in w nx ao n cap xs x (i + k) hx hn hk hk2
  rwa [Int.natCast_add] at this

set_option maxRecDepth 100000 in
set_option maxHeartbeats 4000000 in
theorem roots_short (w : World) (nx : Bool) (ax : Option Addr) (n1 c1 : Nat) (m n : Nat) (zx : List Int) (hx : Sl w ax n1 c1 zx) (lx : Lim zx)
    (hm : m ≤ 255) (hn : n ≤ 255) (h1 : n1 ≤ 6) :
    Calls Try.prog 12 #[.agg #[.bool nx, .slice ax n1 c1], .int .u8 (m : Int), .int .u8 (n : Int)] w (RetV w (.bool true)) := by
  have HD : Hid (decide (n1 ≤ 6) = true) := Lib.hid (decide_eq_true h1)
  have HX := Lib.hid hx
  clear hx
  obtain ⟨i, hi⟩ : ∃ i : Nat, m % 8 = i := ⟨_, rfl⟩
  obtain ⟨k, hk⟩ : ∃ k : Nat, n % 8 = k := ⟨_, rfl⟩
  have hi7 : i ≤ 7 := by omega
  have hk7 : k ≤ 7 := by omega
  have him : (m : Int) % 8 = (i : Int) := by omega
  have hkm : (n : Int) % 8 = (k : Int) := by omega
  have hit : (m : Int).tmod 8 = (i : Int) := by rw [Int.tmod_eq_emod_of_nonneg (by omega)]; exact him
  have hkt : (n : Int).tmod 8 = (k : Int) := by rw [Int.tmod_eq_emod_of_nonneg (by omega)]; exact hkm
  clear hi hk
  go_enter Try.func12, Try.ntmps12
  go_wp2_with fail
  refine (short_one _ _ ⟨nx, ax, n1, c1⟩ 6 (heap_alloc2 _ _ _).1).mono ?_
  rintro e w1 ⟨rfl, hb1⟩
  rw [show decide (Num.n ⟨nx, ax, n1, c1⟩ ≤ 6) = true from HD.out]
  have hb2 : Below w.heap.size w w1 := Below.trans (by go_grown) (hb1.mono (by go_size))
  obtain ⟨x0, x1, -, -⟩ := blk2 ((hb1.block w.heap.size (by go_size)).trans (heap_alloc2 w _ _).2)
  clear hb1 HD
  go_wp2_with fail
  refine (made1 _ w1.heap.size ⟨nx, ax, n1, c1⟩ _ zx (heap_alloc_new _ _) ⟨HX.out.below (hb2.alloc hb2.size _), lx, rfl, by dsimp only; omega⟩).mono ?_
  rintro e w2 ⟨g, cap, ⟨sx, bx, m1, k1⟩, zr, rfl, hcap, hmx, ⟨g0, g1⟩, ix, lx1, hb3⟩
  dsimp only at g0 g1 ix lx1
  obtain ⟨X, hX⟩ : ∃ X, X = sgn nx (val zx) := ⟨_, rfl⟩
  rw [← hX] at ix
  have IX := Lib.hid ix
  have HW := Lib.hid (show Below w.heap.size w w2 from (hb2.alloc hb2.size _).trans (hb3.mono (by have := hb2.size; simp; omega)))
  have hm1 : m1 ≤ 6 := by omega
  have hp1 : m1 * i ≤ 42 := Nat.mul_le_mul hm1 hi7
  have hp2 : m1 * k ≤ 42 := Nat.mul_le_mul hm1 hk7
  have hp3 : m1 * (i + k) ≤ 84 := Nat.mul_le_mul hm1 (show i + k ≤ 14 by omega)
  have hq1 : 32 * m1 * i < 65536 := by rw [Nat.mul_assoc]; omega
  have hq2 : 32 * m1 * k < 65536 := by rw [Nat.mul_assoc]; omega
  have hq3 : 32 * m1 * (i + k) < 65536 := by rw [Nat.mul_assoc]; omega
  clear ix hX hb2 hb3 x0 x1 HX lx1 lx
  have VS : Hid (Vars w2 []) := Lib.hid (fun v hv => by cases hv)
  go_wp2_with fail
  obtain ⟨wg1, hwg1⟩ : ∃ wg1, wg1 = w2.alloc (.cells #[.bool sx, .slice bx m1 k1] 28) := ⟨_, rfl⟩
  have bwg1 : Below w2.heap.size w2 wg1 := by rw [hwg1]; go_grown
  have nwg1 : BAt wg1 ⟨w2.heap.size, sx, bx, m1, k1, zr, X⟩ := by rw [hwg1]; exact BAt.new IX.out (by omega)
  rw [← hwg1]
  clear hwg1
  obtain ⟨Xp, hXp⟩ : ∃ p, p = w2.heap.size := ⟨_, rfl⟩
  rw [← hXp] at nwg1 ⊢
  replace VS := Lib.hid ((VS.out.below bwg1).push nwg1)
  replace HW := Lib.hid (HW.out.trans (bwg1.mono HW.out.size))
  clear nwg1 bwg1 hXp IX
  refine (pow_in _ _ _ _ _ _ X i (show IntAt wg1 sx bx m1 k1 zr X from (VS.out _ (.head _)).it) (by omega) hq1 (by omega)).mono ?_
  rintro e wc2 ⟨spp, app, npp, cppp, zpp, rfl, ipp, gpp, hbwc2⟩
  have Ipp := Lib.hid ipp
  clear ipp
  replace VS := Lib.hid (VS.out.below hbwc2)
  replace HW := Lib.hid (HW.out.trans (hbwc2.mono HW.out.size))
  clear hbwc2
  obtain ⟨Xc0, Xc1, -, -, Xl⟩ := VS.out _ (.head _)
  dsimp only at Xc0 Xc1 Xl
  go_wp2_with fail
  obtain ⟨wg3, hwg3⟩ : ∃ wg3, wg3 = wc2.alloc (.cells #[.bool spp, .slice app npp cppp] 28) := ⟨_, rfl⟩
  have bwg3 : Below wc2.heap.size wc2 wg3 := by rw [hwg3]; go_grown
  have nwg3 : BAt wg3 ⟨wc2.heap.size, spp, app, npp, cppp, zpp, (X ^ i)⟩ := by rw [hwg3]; exact BAt.new Ipp.out (by omega)
  rw [← hwg3]
  clear hwg3
  obtain ⟨ppp, hppp⟩ : ∃ p, p = wc2.heap.size := ⟨_, rfl⟩
  rw [← hppp] at nwg3 ⊢
  replace VS := Lib.hid ((VS.out.below bwg3).push nwg3)
  replace HW := Lib.hid (HW.out.trans (bwg3.mono HW.out.size))
  clear Xc0 Xc1 Xl
  clear nwg3 bwg3 hppp Ipp
  refine (pow_in _ _ _ _ _ _ X k (show IntAt wg3 sx bx m1 k1 zr X from (VS.out _ (.tail _ (.head _))).it) (by omega) hq2 (by omega)).mono ?_
  rintro e wc4 ⟨sqq, aqq, nqq, cpqq, zqq, rfl, iqq, gqq, hbwc4⟩
  have Iqq := Lib.hid iqq
  clear iqq
  replace VS := Lib.hid (VS.out.below hbwc4)
  replace HW := Lib.hid (HW.out.trans (hbwc4.mono HW.out.size))
  clear hbwc4
  obtain ⟨Xc0, Xc1, -, -, Xl⟩ := VS.out _ (.tail _ (.head _))
  dsimp only at Xc0 Xc1 Xl
  go_wp2_with fail
  obtain ⟨wg5, hwg5⟩ : ∃ wg5, wg5 = wc4.alloc (.cells #[.bool sqq, .slice aqq nqq cpqq] 28) := ⟨_, rfl⟩
  have bwg5 : Below wc4.heap.size wc4 wg5 := by rw [hwg5]; go_grown
  have nwg5 : BAt wg5 ⟨wc4.heap.size, sqq, aqq, nqq, cpqq, zqq, (X ^ k)⟩ := by rw [hwg5]; exact BAt.new Iqq.out (by omega)
  rw [← hwg5]
  clear hwg5
  obtain ⟨qqp, hqqp⟩ : ∃ p, p = wc4.heap.size := ⟨_, rfl⟩
  rw [← hqqp] at nwg5 ⊢
  replace VS := Lib.hid ((VS.out.below bwg5).push nwg5)
  replace HW := Lib.hid (HW.out.trans (bwg5.mono HW.out.size))
  clear Xc0 Xc1 Xl
  clear nwg5 bwg5 hqqp Iqq
  refine (pow_sum _ _ _ _ _ _ X i k (show IntAt wg5 sx bx m1 k1 zr X from (VS.out _ (.tail _ (.tail _ (.head _)))).it) (by omega) hq3 (by omega)).mono ?_
  rintro e wc6 ⟨ssu, asu, nsu, cpsu, zsu, rfl, isu, gsu, hbwc6⟩
  have Isu := Lib.hid isu
  clear isu
  replace VS := Lib.hid (VS.out.below hbwc6)
  replace HW := Lib.hid (HW.out.trans (hbwc6.mono HW.out.size))
  clear hbwc6
  obtain ⟨Xc0, Xc1, -, -, Xl⟩ := VS.out _ (.tail _ (.tail _ (.head _)))
  dsimp only at Xc0 Xc1 Xl
  go_wp2_with fail
  obtain ⟨wg7, hwg7⟩ : ∃ wg7, wg7 = wc6.alloc (.cells #[.bool ssu, .slice asu nsu cpsu] 28) := ⟨_, rfl⟩
  have bwg7 : Below wc6.heap.size wc6 wg7 := by rw [hwg7]; go_grown
  have nwg7 : BAt wg7 ⟨wc6.heap.size, ssu, asu, nsu, cpsu, zsu, (X ^ (i + k))⟩ := by rw [hwg7]; exact BAt.new Isu.out (by omega)
  rw [← hwg7]
  clear hwg7
  obtain ⟨sup, hsup⟩ : ∃ p, p = wc6.heap.size := ⟨_, rfl⟩
  rw [← hsup] at nwg7 ⊢
  replace VS := Lib.hid ((VS.out.below bwg7).push nwg7)
  replace HW := Lib.hid (HW.out.trans (bwg7.mono HW.out.size))
  clear Xc0 Xc1 Xl
  clear nwg7 bwg7 hsup Isu
  refine (mul_int _ _ _ _ _ _ _ _ _ _ _ X X (show IntAt wg7 sx bx m1 k1 zr X from (VS.out _ (.tail _ (.tail _ (.tail _ (.head _))))).it) (show IntAt wg7 sx bx m1 k1 zr X from (VS.out _ (.tail _ (.tail _ (.tail _ (.head _))))).it) (by omega) (by omega)).mono ?_
  rintro e wm ⟨sm, am, nm, cm, zm, rfl, im, gm, hbm⟩
  have IM := Lib.hid im
  clear im
  replace VS := Lib.hid (VS.out.below hbm)
  replace HW := Lib.hid (HW.out.trans (hbm.mono HW.out.size))
  clear hbm
  go_wp2_with fail
  refine (root_square _ _ _ _ _ _ X IM.out (by omega)).mono ?_
  rintro e wc8 ⟨srr, arr, nrr, cprr, zrr, rfl, irr, grr, hbwc8⟩
  have Irr := Lib.hid irr
  clear irr
  replace VS := Lib.hid (VS.out.below hbwc8)
  replace HW := Lib.hid (HW.out.trans (hbwc8.mono HW.out.size))
  clear hbwc8
  go_wp2_with fail
  obtain ⟨wg9, hwg9⟩ : ∃ wg9, wg9 = wc8.alloc (.cells #[.bool srr, .slice arr nrr cprr] 28) := ⟨_, rfl⟩
  have bwg9 : Below wc8.heap.size wc8 wg9 := by rw [hwg9]; go_grown
  have nwg9 : BAt wg9 ⟨wc8.heap.size, srr, arr, nrr, cprr, zrr, ((X.natAbs : Nat) : Int)⟩ := by rw [hwg9]; exact BAt.new Irr.out (by omega)
  have hrow0 : wg9.heap[wc8.heap.size]? = some (.cells #[.bool srr, .slice arr nrr cprr] 28 (0, 0)) := by rw [hwg9]; exact heap_alloc_new _ _
  rw [← hwg9]
  clear hwg9
  obtain ⟨rrp, hrrp⟩ : ∃ p, p = wc8.heap.size := ⟨_, rfl⟩
  rw [← hrrp] at nwg9 ⊢
  rw [← hrrp] at hrow0
  have HROW := Lib.hid hrow0
  clear hrow0
  have hXr : Xp < rrp := by rw [hrrp]; exact (VS.out _ (.tail _ (.tail _ (.tail _ (.head _))))).lt
  have hwr : w.heap.size ≤ rrp := by rw [hrrp]; exact HW.out.size
  replace VS := Lib.hid ((VS.out.below bwg9).push nwg9)
  replace HW := Lib.hid (HW.out.trans (bwg9.mono HW.out.size))
  clear nwg9 bwg9 hrrp Irr
  have hmax : ∀ v : World, (Builtin.max_ #[44, 44, 44, 44] 44 #[.int .i64 0, .int .i64 0, .int .i64 0, .int .i64 0]).run Try.prog v = .ok (.int .i64 0) v := fun _ => by kernel_rfl
  have HKP : Hid (∀ w', Below wg9.heap.size wg9 w' → (w'.cell? ⟨ppp, 0, none⟩ = some (.bool spp) ∧ w'.cell? ⟨ppp, 1, none⟩ = some (.slice app npp cppp) ∧ w'.cell? ⟨qqp, 0, none⟩ = some (.bool sqq) ∧ w'.cell? ⟨qqp, 1, none⟩ = some (.slice aqq nqq cpqq) ∧ w'.cell? ⟨sup, 0, none⟩ = some (.bool ssu) ∧ w'.cell? ⟨sup, 1, none⟩ = some (.slice asu nsu cpsu) ∧ w'.cell? ⟨rrp, 0, none⟩ = some (.bool srr) ∧ w'.cell? ⟨rrp, 1, none⟩ = some (.slice arr nrr cprr) ∧ w'.cell? ⟨Xp, 0, none⟩ = some (.bool sx) ∧ w'.cell? ⟨Xp, 1, none⟩ = some (.slice bx m1 k1))) := Lib.hid (fun w' hb => by
    have hpp := (VS.out _ (.tail _ (.tail _ (.tail _ (.head _))))).below hb
    have hqq := (VS.out _ (.tail _ (.tail _ (.head _)))).below hb
    have hsu := (VS.out _ (.tail _ (.head _))).below hb
    have hrr := (VS.out _ (.head _)).below hb
    have hX := (VS.out _ (.tail _ (.tail _ (.tail _ (.tail _ (.head _)))))).below hb
    exact ⟨hpp.c0, hpp.c1, hqq.c0, hqq.c1, hsu.c0, hsu.c1, hrr.c0, hrr.c1, hX.c0, hX.c1⟩)
  have HPP := Lib.hid (show IntAt wg9 spp app npp cppp zpp (X ^ i) from (VS.out _ (.tail _ (.tail _ (.tail _ (.head _))))).it)
  have HQQ := Lib.hid (show IntAt wg9 sqq aqq nqq cpqq zqq (X ^ k) from (VS.out _ (.tail _ (.tail _ (.head _)))).it)
  have HSU := Lib.hid (show IntAt wg9 ssu asu nsu cpsu zsu (X ^ (i + k)) from (VS.out _ (.tail _ (.head _))).it)
  have HRR := Lib.hid (show IntAt wg9 srr arr nrr cprr zrr ((X.natAbs : Nat) : Int) from (VS.out _ (.head _)).it)
  have HXX := Lib.hid (show IntAt wg9 sx bx m1 k1 zr X from (VS.out _ (.tail _ (.tail _ (.tail _ (.tail _ (.head _)))))).it)
  go_cut [82] (fun p wx => p = .bool false ∧ Below wg9.heap.size wg9 wx)
  case first =>
    as_aux_lemma =>
      go_region_held3 (fun w' => w'.cell? ⟨ppp, 0, none⟩ = some (.bool spp) ∧ w'.cell? ⟨ppp, 1, none⟩ = some (.slice app npp cppp) ∧ w'.cell? ⟨qqp, 0, none⟩ = some (.bool sqq) ∧ w'.cell? ⟨qqp, 1, none⟩ = some (.slice aqq nqq cpqq) ∧ w'.cell? ⟨sup, 0, none⟩ = some (.bool ssu) ∧ w'.cell? ⟨sup, 1, none⟩ = some (.slice asu nsu cpsu) ∧ w'.cell? ⟨rrp, 0, none⟩ = some (.bool srr) ∧ w'.cell? ⟨rrp, 1, none⟩ = some (.slice arr nrr cprr) ∧ w'.cell? ⟨Xp, 0, none⟩ = some (.bool sx) ∧ w'.cell? ⟨Xp, 1, none⟩ = some (.slice bx m1 k1)) ((first | exact HKP.out _ Xq4 | exact HKP.out _ Xq3 | exact HKP.out _ Xq2 | exact HKP.out _ Xq1 | exact HKP.out _ (Below.refl _ _).drew))
        (first | (go_at_call 65; have Tq4 := Xq3; clear Tq4; refine (same_yes (HRR.out.below Xq3) IC2.out rfl).mono ?_; rintro e vq4 ⟨rfl, uq4⟩; have Xq4 : Below wg9.heap.size wg9 vq4 := Xq3.trans (uq4.mono Xq3.size)) | (go_at_call 36; have Tq3 := Xq2; clear Tq3; refine (abs_int _ _ _ _ _ _ X (HXX.out.below Xq2) (by omega)).mono ?_; rintro e vq3 ⟨nC2, aC2, kC2, cC2, zC2, rfl, iC2, gC2, uq3⟩; have Xq3 : Below wg9.heap.size wg9 vq3 := Xq2.trans (uq3.mono Xq2.size); have IC2 := Lib.hid iC2; clear iC2) | (go_at_call 65; have Tq2 := Xq1; clear Tq2; refine (same_yes IC1.out (HSU.out.below Xq1) (Int.pow_add X i k).symm).mono ?_; rintro e vq2 ⟨rfl, uq2⟩; have Xq2 : Below wg9.heap.size wg9 vq2 := Xq1.trans (uq2.mono Xq1.size)) | (go_at_call 42; refine (mul_int _ _ _ _ _ _ _ _ _ _ _ (X ^ i) (X ^ k) (HPP.out.below (Below.refl _ _).drew) (HQQ.out.below (Below.refl _ _).drew) (by omega) (by omega)).mono ?_; rintro e vq1 ⟨nC1, aC1, kC1, cC1, zC1, rfl, iC1, gC1, uq1⟩; have Xq1 : Below wg9.heap.size wg9 vq1 := (Below.refl _ _).drew.trans uq1; have IC1 := Lib.hid iC1; clear iC1))
      go_wp2
      go_meet
      exact ⟨rfl, Xq4⟩
  case rest =>
    obtain ⟨rfl, hbw⟩ := hcut
    rename World => wd
    clear HKP HPP HQQ HSU HRR HXX hmax
    replace HROW := Lib.hid ((hbw.block rrp (VS.out _ (.head _)).lt).trans HROW.out)
    replace VS := Lib.hid (VS.out.below hbw)
    replace HW := Lib.hid (HW.out.trans (hbw.mono HW.out.size))
    clear hbw
    obtain ⟨Xc0, Xc1, -, -, Xl⟩ := VS.out _ (.tail _ (.tail _ (.tail _ (.tail _ (.head _)))))
    dsimp only at Xc0 Xc1 Xl
    obtain ⟨rrc0, rrc1, -, -, rrl⟩ := VS.out _ (.head _)
    dsimp only at rrc0 rrc1 rrl
    go_wp2_with fail
    clear Xc0 Xc1 Xl
    clear rrc0 rrc1 rrl
    have HSX := Lib.hid (neg_iff2 (show IntAt wd sx bx m1 k1 zr X from (VS.out _ (.tail _ (.tail _ (.tail _ (.tail _ (.head _)))))).it))
    by_cases hneg : X < 0
    · have hst : sx = true := by rw [HSX.out]; exact decide_eq_true hneg
      have hXne : Xp ≠ rrp := by omega
      refine (root_negx _ sx _ _ _ hst).mono ?_
      rintro e we ⟨rfl, hbe⟩
      clear hst
      replace HROW := Lib.hid ((hbe.block rrp (VS.out _ (.head _)).lt).trans HROW.out)
      replace VS := Lib.hid (VS.out.below hbe)
      replace HW := Lib.hid (HW.out.trans (hbe.mono HW.out.size))
      clear hbe
      have hbx := BAt.other (a' := false) (b' := none) (c' := 0) (d' := 0) (VS.out _ (.tail _ (.tail _ (.tail _ (.tail _ (.head _)))))) HROW.out hXne
      have HBX := Lib.hid hbx
      obtain ⟨hx0, hx1, -, -, -⟩ := hbx
      dsimp only at hx0 hx1
      obtain ⟨Xc0, Xc1, -, -, Xl⟩ := VS.out _ (.tail _ (.tail _ (.tail _ (.tail _ (.head _)))))
      dsimp only at Xc0 Xc1 Xl
      obtain ⟨r0, r1, rf0, rf1⟩ := blk2 HROW.out
      have hcs : cmpI X 0 = -1 := cmpI_lt hneg
      go_wp2_with fail
      refine (sign_int _ _ _ _ _ _ X HBX.out.it).mono ?_
      rintro e wf ⟨rfl, hbf⟩
      rw [hcs]
      have HB2 := Lib.hid ((HW.out.setCell (p := ⟨rrp, 0, none⟩) hwr (.bool false)).setCell (p := ⟨rrp, 1, none⟩) hwr (.slice none 0 0))
      have HBF := Lib.hid hbf
      clear hbf r0 r1 rf0 rf1 hx0 hx1
      go_wp2_with fail
      refine (awake_any _).mono ?_
      rintro e wh ⟨rfl, hbh⟩
      go_wp2_with fail
      go_ret
      exact ⟨rfl, (HB2.out.trans (HBF.out.mono HB2.out.size)).trans (hbh.mono (Nat.le_trans HB2.out.size HBF.out.size))⟩
    · have h0 : 0 ≤ X := by omega
      have hXne : Xp ≠ rrp := by omega
      refine (root_int _ _ _ _ _ _ X (show IntAt wd sx bx m1 k1 zr X from (VS.out _ (.tail _ (.tail _ (.tail _ (.tail _ (.head _)))))).it) (by omega) h0).mono ?_
      rintro e we ⟨G, hG1, hG2, sG, aG, nG, cG, zG, rfl, iG, gG, hbe⟩
      replace HROW := Lib.hid ((hbe.block rrp (VS.out _ (.head _)).lt).trans HROW.out)
      have IG := Lib.hid iG
      have HG1 := Lib.hid hG1
      have HG2 := Lib.hid hG2
      clear iG hG1 hG2
      replace VS := Lib.hid (VS.out.below hbe)
      replace HW := Lib.hid (HW.out.trans (hbe.mono HW.out.size))
      clear hbe
      have hbx := BAt.other (a' := sG) (b' := aG) (c' := nG) (d' := cG) (VS.out _ (.tail _ (.tail _ (.tail _ (.tail _ (.head _)))))) HROW.out hXne
      have hbr := BAt.put (x := (G : Int)) IG.out (by omega) HROW.out
      have HBX := Lib.hid hbx
      have HBR := Lib.hid hbr
      obtain ⟨hx0, hx1, -, -, -⟩ := hbx
      dsimp only at hx0 hx1
      clear hbr
      obtain ⟨Xc0, Xc1, -, -, Xl⟩ := VS.out _ (.tail _ (.tail _ (.tail _ (.tail _ (.head _)))))
      dsimp only at Xc0 Xc1 Xl
      obtain ⟨r0, r1, rf0, rf1⟩ := blk2 HROW.out
      have hcs : ¬ cmpI X 0 < 0 := by unfold cmpI; rw [if_neg (by omega)]; split <;> omega
      obtain ⟨cc, hcc⟩ : ∃ c, cmpI X 0 = c := ⟨_, rfl⟩
      rw [hcc] at hcs
      go_wp2_with fail
      refine (sign_int _ _ _ _ _ _ X HBX.out.it).mono ?_
      rintro e wf ⟨rfl, hbf⟩
      rw [hcc]
      replace VS : Hid (Vars wf [⟨rrp, sG, aG, nG, cG, zG, (G : Int)⟩, ⟨Xp, sx, bx, m1, k1, zr, X⟩]) := Lib.hid (by
        intro v hv
        simp at hv
        rcases hv with rfl | rfl
        · exact HBR.out.below hbf
        · exact HBX.out.below hbf)
      have hb2 := (HW.out.setCell (p := ⟨rrp, 0, none⟩) hwr (.bool sG)).setCell (p := ⟨rrp, 1, none⟩) hwr (.slice aG nG cG)
      replace HW : Hid (Below w.heap.size w wf) := Lib.hid (hb2.trans (hbf.mono hb2.size))
      clear hbf hb2 r0 r1 rf0 rf1 hcc HBX HBR HROW IG hx0 hx1
      clear Xc0 Xc1 Xl
      obtain ⟨Xc0, Xc1, -, -, Xl⟩ := VS.out _ (.tail _ (.head _))
      dsimp only at Xc0 Xc1 Xl
      obtain ⟨rrc0, rrc1, -, -, rrl⟩ := VS.out _ (.head _)
      dsimp only at rrc0 rrc1 rrl
      go_wp2_with fail
      clear Xc0 Xc1 Xl
      clear rrc0 rrc1 rrl
      have HKP : Hid (∀ w', Below wf.heap.size wf w' → (w'.cell? ⟨rrp, 0, none⟩ = some (.bool sG) ∧ w'.cell? ⟨rrp, 1, none⟩ = some (.slice aG nG cG) ∧ w'.cell? ⟨Xp, 0, none⟩ = some (.bool sx) ∧ w'.cell? ⟨Xp, 1, none⟩ = some (.slice bx m1 k1))) := Lib.hid (fun w' hb => by
        have hrr := (VS.out _ (.head _)).below hb
        have hX := (VS.out _ (.tail _ (.head _))).below hb
        exact ⟨hrr.c0, hrr.c1, hX.c0, hX.c1⟩)
      have HRR := Lib.hid (show IntAt wf sG aG nG cG zG (G : Int) from (VS.out _ (.head _)).it)
      go_cut [18] (fun p wx => ∃ (b : Nat) (neg : Bool) (ao : Option Addr) (n cp : Nat) (z : List Int), p = .pointer (some ⟨b, 0, none⟩) ∧ BAt wx ⟨b, neg, ao, n, cp, z, (G : Int) + 1⟩ ∧ Below wf.heap.size wf wx)
      case first =>
        as_aux_lemma =>
          refine wp_region_noPanic ?_
          refine wp_region_held_drew (S := (fun w' => w'.cell? ⟨rrp, 0, none⟩ = some (.bool sG) ∧ w'.cell? ⟨rrp, 1, none⟩ = some (.slice aG nG cG) ∧ w'.cell? ⟨Xp, 0, none⟩ = some (.bool sx) ∧ w'.cell? ⟨Xp, 1, none⟩ = some (.slice bx m1 k1))) (by kernel_rfl) ?_ (fun hH0 => ?_)
          · exact HKP.out _ (Below.refl _ _).drew
          refine wpAnyH_take (i := 0) (oi := ({ dst := some 96, op := Op.load 28 (Operand.tmp 16), type := 28, pos := "more.go:89", after := #[], guard := none } : Oper)) (v := ?_) rfl (by kernel_rfl) (by kernel_rfl) (by kernel_rfl) (fun _ _ _ h => h) (Or.inl ⟨by rfl, ?_⟩) (by assumption) ?_
          rotate_left
          · (intro w hSw; (try dsimp only at hSw); go_simp; try with_reducible rfl)
          (try simp only [Act.put, List.setIfInBounds_toArray, List.set_cons_zero, List.set_cons_succ])
          refine wpAnyH_ready (rs := [1, 3]) (by kernel_rfl) (by simp) ?_
          refine (AllReadyH.cons (o := ({ dst := some 97, op := Op.call { callee := Callee.value (Operand.func 17), args := #[Operand.const (Value.int IntKind.i64 1)], argTypes := #[2] }, type := 28, pos := "more.go:89", after := #[], guard := none } : Oper)) rfl (fun K hK => ?_) (AllReadyH.cons (o := ({ dst := some 18, op := Op.alloc 28, type := 0, pos := "more.go:89", after := #[], guard := none } : Oper)) rfl (fun K hK => ?_) AllReadyH.nil))
          · go_simp
            refine (new_int _ 1 (by omega) (by omega)).mono ?_
            rintro e v1 ⟨nA, aA, kA, cA, zA, rfl, iA, gA, uA⟩
            have X1 : Below wf.heap.size wf v1 := Below.trans (Below.refl _ _).drew (uA.mono (by first | exact Nat.le_refl _ | simp))
            have IA := Lib.hid iA
            clear iA uA
            refine hK.out _ _ ?_ (fun hH1 => ?_)
            · exact HKP.out _ X1
            clear hK K hH0
            (try simp only [Act.put, List.setIfInBounds_toArray, List.set_cons_zero, List.set_cons_succ])
            refine wpAnyH_ready (rs := [2, 3]) (by kernel_rfl) (by simp) ?_
            refine (AllReadyH.cons (o := ({ dst := some 98, op := Op.call { callee := Callee.value (Operand.func 38), args := #[Operand.tmp 96, Operand.tmp 97], argTypes := #[28, 28] }, type := 28, pos := "more.go:89", after := #[{ on := 0, ground := Ground.data }, { on := 1, ground := Ground.data }, { on := 1, ground := Ground.chain }], guard := none } : Oper)) rfl (fun K hK => ?_) (AllReadyH.cons (o := ({ dst := some 18, op := Op.alloc 28, type := 0, pos := "more.go:89", after := #[], guard := none } : Oper)) rfl (fun K hK => ?_) AllReadyH.nil))
            · go_simp
              refine (add_int _ _ _ _ _ _ _ _ _ _ _ (G : Int) 1 (HRR.out.below X1) (IA.out) (by omega) (by omega)).mono ?_
              rintro e v2 ⟨nB, aB, kB, cB, zB, rfl, iB, gB, uB⟩
              have X2 : Below wf.heap.size wf v2 := X1.trans (uB.mono X1.size)
              have IB := Lib.hid iB
              clear iB uB
              refine hK.out _ _ ?_ (fun hH2 => ?_)
              · exact HKP.out _ X2
              clear hK K hH1
              (try simp only [Act.put, List.setIfInBounds_toArray, List.set_cons_zero, List.set_cons_succ])
              refine wpAnyH_ready (rs := [3]) (by kernel_rfl) (by simp) ?_
              refine (AllReadyH.cons (o := ({ dst := some 18, op := Op.alloc 28, type := 0, pos := "more.go:89", after := #[], guard := none } : Oper)) rfl (fun K hK => ?_) AllReadyH.nil)
              go_simp
              refine hK.out _ _ ?_ (fun hH3 => ?_)
              · exact HKP.out _ (X2.alloc X2.size _)
              clear hK K hH2
              (try simp only [Act.put, List.setIfInBounds_toArray, List.set_cons_zero, List.set_cons_succ])
              refine wpAnyH_ready (rs := [4]) (by kernel_rfl) (by simp) ?_
              refine (AllReadyH.cons (o := ({ dst := none, op := Op.store 28 (Operand.tmp 18) (Operand.tmp 98), type := 0, pos := "more.go:89", after := #[{ on := 3, ground := Ground.data }, { on := 2, ground := Ground.data }, { on := 2, ground := Ground.chain }, { on := 0, ground := Ground.phase }, { on := 1, ground := Ground.phase }, { on := 2, ground := Ground.phase }, { on := 3, ground := Ground.phase }], guard := none } : Oper)) rfl (fun K hK => ?_) AllReadyH.nil)
              go_simp
              refine hK.out _ _ ?_ (fun hH4 => ?_)
              · exact HKP.out _ (X2.alloc X2.size _)
              clear hK K hH3
              (try simp only [Act.put, List.setIfInBounds_toArray, List.set_cons_zero, List.set_cons_succ])
              refine wpAnyH_done (by kernel_rfl) ?_ _
              refine NoPanic.normal ?_
              go_wp2
              go_meet
              exact ⟨_, _, _, _, _, _, rfl, BAt.new IB.out (by omega), X2.alloc X2.size _⟩
            · go_simp
              refine hK.out _ _ ?_ (fun hH2 => ?_)
              · exact HKP.out _ (X1.alloc X1.size _)
              clear hK K hH1
              (try simp only [Act.put, List.setIfInBounds_toArray, List.set_cons_zero, List.set_cons_succ])
              refine wpAnyH_ready (rs := [2]) (by kernel_rfl) (by simp) ?_
              refine (AllReadyH.cons (o := ({ dst := some 98, op := Op.call { callee := Callee.value (Operand.func 38), args := #[Operand.tmp 96, Operand.tmp 97], argTypes := #[28, 28] }, type := 28, pos := "more.go:89", after := #[{ on := 0, ground := Ground.data }, { on := 1, ground := Ground.data }, { on := 1, ground := Ground.chain }], guard := none } : Oper)) rfl (fun K hK => ?_) AllReadyH.nil)
              go_simp
              refine (add_int _ _ _ _ _ _ _ _ _ _ _ (G : Int) 1 (HRR.out.below (X1.alloc X1.size _)) (IA.out.below ((Below.refl _ _).alloc (Nat.le_refl _) _)) (by omega) (by omega)).mono ?_
              rintro e v2 ⟨nB, aB, kB, cB, zB, rfl, iB, gB, uB⟩
              have X2 : Below wf.heap.size wf v2 := (X1.alloc X1.size _).trans (uB.mono (X1.alloc X1.size _).size)
              have IB := Lib.hid iB
              have row : v2.heap[v1.heap.size]? = some (.cells #[.bool false, .slice none 0 0] 28 (0, 0)) := (uB.block v1.heap.size (by simp)).trans (heap_alloc_new v1 _)
              obtain ⟨t0, t1, q0, q1⟩ := blk2 row
              clear iB uB
              refine hK.out _ _ ?_ (fun hH3 => ?_)
              · exact HKP.out _ X2
              clear hK K hH2
              (try simp only [Act.put, List.setIfInBounds_toArray, List.set_cons_zero, List.set_cons_succ])
              refine wpAnyH_ready (rs := [4]) (by kernel_rfl) (by simp) ?_
              refine (AllReadyH.cons (o := ({ dst := none, op := Op.store 28 (Operand.tmp 18) (Operand.tmp 98), type := 0, pos := "more.go:89", after := #[{ on := 3, ground := Ground.data }, { on := 2, ground := Ground.data }, { on := 2, ground := Ground.chain }, { on := 0, ground := Ground.phase }, { on := 1, ground := Ground.phase }, { on := 2, ground := Ground.phase }, { on := 3, ground := Ground.phase }], guard := none } : Oper)) rfl (fun K hK => ?_) AllReadyH.nil)
              go_simp
              refine hK.out _ _ ?_ (fun hH4 => ?_)
              · exact HKP.out _ ((X2.setCell (p := ⟨v1.heap.size, 0, none⟩) (X1.size) _).setCell (p := ⟨v1.heap.size, 1, none⟩) (X1.size) _)
              clear hK K hH3
              (try simp only [Act.put, List.setIfInBounds_toArray, List.set_cons_zero, List.set_cons_succ])
              refine wpAnyH_done (by kernel_rfl) ?_ _
              refine NoPanic.normal ?_
              go_wp2
              go_meet
              exact ⟨_, _, _, _, _, _, rfl, BAt.put IB.out (by omega) row, (X2.setCell (p := ⟨v1.heap.size, 0, none⟩) (X1.size) _).setCell (p := ⟨v1.heap.size, 1, none⟩) (X1.size) _⟩
          · go_simp
            refine hK.out _ _ ?_ (fun hH1 => ?_)
            · exact HKP.out _ ((Below.refl _ _).drew.alloc (Nat.le_refl _) _)
            clear hK K hH0
            (try simp only [Act.put, List.setIfInBounds_toArray, List.set_cons_zero, List.set_cons_succ])
            refine wpAnyH_ready (rs := [1]) (by kernel_rfl) (by simp) ?_
            refine (AllReadyH.cons (o := ({ dst := some 97, op := Op.call { callee := Callee.value (Operand.func 17), args := #[Operand.const (Value.int IntKind.i64 1)], argTypes := #[2] }, type := 28, pos := "more.go:89", after := #[], guard := none } : Oper)) rfl (fun K hK => ?_) AllReadyH.nil)
            go_simp
            refine (new_int _ 1 (by omega) (by omega)).mono ?_
            rintro e v1 ⟨nA, aA, kA, cA, zA, rfl, iA, gA, uA⟩
            have X1 : Below wf.heap.size wf v1 := Below.trans ((Below.refl _ _).drew.alloc (Nat.le_refl _) _) (uA.mono (by first | exact Nat.le_refl _ | simp))
            have IA := Lib.hid iA
            have row : v1.heap[wf.heap.size]? = some (.cells #[.bool false, .slice none 0 0] 28 (0, 0)) := (uA.block wf.heap.size (by simp)).trans (heap_alloc_new wf.drew _)
            clear iA uA
            refine hK.out _ _ ?_ (fun hH2 => ?_)
            · exact HKP.out _ X1
            clear hK K hH1
            (try simp only [Act.put, List.setIfInBounds_toArray, List.set_cons_zero, List.set_cons_succ])
            refine wpAnyH_ready (rs := [2]) (by kernel_rfl) (by simp) ?_
            refine (AllReadyH.cons (o := ({ dst := some 98, op := Op.call { callee := Callee.value (Operand.func 38), args := #[Operand.tmp 96, Operand.tmp 97], argTypes := #[28, 28] }, type := 28, pos := "more.go:89", after := #[{ on := 0, ground := Ground.data }, { on := 1, ground := Ground.data }, { on := 1, ground := Ground.chain }], guard := none } : Oper)) rfl (fun K hK => ?_) AllReadyH.nil)
            go_simp
            refine (add_int _ _ _ _ _ _ _ _ _ _ _ (G : Int) 1 (HRR.out.below X1) (IA.out) (by omega) (by omega)).mono ?_
            rintro e v2 ⟨nB, aB, kB, cB, zB, rfl, iB, gB, uB⟩
            have X2 : Below wf.heap.size wf v2 := X1.trans (uB.mono X1.size)
            have IB := Lib.hid iB
            replace row : v2.heap[wf.heap.size]? = some (.cells #[.bool false, .slice none 0 0] 28 (0, 0)) := (uB.block wf.heap.size (World.block_lt_of_cell? _ _ (blk2 row).1)).trans row
            obtain ⟨t0, t1, q0, q1⟩ := blk2 row
            clear iB uB
            refine hK.out _ _ ?_ (fun hH3 => ?_)
            · exact HKP.out _ X2
            clear hK K hH2
            (try simp only [Act.put, List.setIfInBounds_toArray, List.set_cons_zero, List.set_cons_succ])
            refine wpAnyH_ready (rs := [4]) (by kernel_rfl) (by simp) ?_
            refine (AllReadyH.cons (o := ({ dst := none, op := Op.store 28 (Operand.tmp 18) (Operand.tmp 98), type := 0, pos := "more.go:89", after := #[{ on := 3, ground := Ground.data }, { on := 2, ground := Ground.data }, { on := 2, ground := Ground.chain }, { on := 0, ground := Ground.phase }, { on := 1, ground := Ground.phase }, { on := 2, ground := Ground.phase }, { on := 3, ground := Ground.phase }], guard := none } : Oper)) rfl (fun K hK => ?_) AllReadyH.nil)
            go_simp
            refine hK.out _ _ ?_ (fun hH4 => ?_)
            · exact HKP.out _ ((X2.setCell (p := ⟨wf.heap.size, 0, none⟩) (Nat.le_refl _) _).setCell (p := ⟨wf.heap.size, 1, none⟩) (Nat.le_refl _) _)
            clear hK K hH3
            (try simp only [Act.put, List.setIfInBounds_toArray, List.set_cons_zero, List.set_cons_succ])
            refine wpAnyH_done (by kernel_rfl) ?_ _
            refine NoPanic.normal ?_
            go_wp2
            go_meet
            exact ⟨_, _, _, _, _, _, rfl, BAt.put IB.out (by omega) row, (X2.setCell (p := ⟨wf.heap.size, 0, none⟩) (Nat.le_refl _) _).setCell (p := ⟨wf.heap.size, 1, none⟩) (Nat.le_refl _) _⟩
      case rest =>
        obtain ⟨nep, sN, aN, nN, cN, zN, rfl, hbat, hbw⟩ := hcut
        rename World => wn
        have gnN : nN ≤ 100000 := hbat.small
        replace VS := Lib.hid ((VS.out.below hbw).push hbat)
        replace HW := Lib.hid (HW.out.trans (hbw.mono HW.out.size))
        clear hbat hbw HRR HKP
        go_wp2_with fail
        have HKP : Hid (∀ w', Below wn.heap.size wn w' → (w'.cell? ⟨rrp, 0, none⟩ = some (.bool sG) ∧ w'.cell? ⟨rrp, 1, none⟩ = some (.slice aG nG cG) ∧ w'.cell? ⟨Xp, 0, none⟩ = some (.bool sx) ∧ w'.cell? ⟨Xp, 1, none⟩ = some (.slice bx m1 k1) ∧ w'.cell? ⟨nep, 0, none⟩ = some (.bool sN) ∧ w'.cell? ⟨nep, 1, none⟩ = some (.slice aN nN cN))) := Lib.hid (fun w' hb => by
          have hrr := (VS.out _ (.tail _ (.head _))).below hb
          have hX := (VS.out _ (.tail _ (.tail _ (.head _)))).below hb
          have hne := (VS.out _ (.head _)).below hb
          exact ⟨hrr.c0, hrr.c1, hX.c0, hX.c1, hne.c0, hne.c1⟩)
        have HRR := Lib.hid (show IntAt wn sG aG nG cG zG (G : Int) from (VS.out _ (.tail _ (.head _))).it)
        have HXX := Lib.hid (show IntAt wn sx bx m1 k1 zr X from (VS.out _ (.tail _ (.tail _ (.head _)))).it)
        have HNE := Lib.hid (show IntAt wn sN aN nN cN zN ((G : Int) + 1) from (VS.out _ (.head _)).it)
        obtain ⟨d1, hd1⟩ : ∃ d, cmpI ((G : Int) * G) X = d := ⟨_, rfl⟩
        have hd1n : d1 ≤ 0 := by rw [← hd1]; unfold cmpI; have := HG1.out; split <;> (try split) <;> omega
        obtain ⟨d2, hd2⟩ : ∃ d, cmpI X (((G : Int) + 1) * ((G : Int) + 1)) = d := ⟨_, rfl⟩
        have hd2n : d2 < 0 := by rw [← hd2, cmpI_lt (by have := HG2.out; omega)]; omega
        have HD1 := Lib.hid hd1
        have HD2 := Lib.hid hd2
        clear hd1 hd2
        go_region_held3 (fun w' => w'.cell? ⟨rrp, 0, none⟩ = some (.bool sG) ∧ w'.cell? ⟨rrp, 1, none⟩ = some (.slice aG nG cG) ∧ w'.cell? ⟨Xp, 0, none⟩ = some (.bool sx) ∧ w'.cell? ⟨Xp, 1, none⟩ = some (.slice bx m1 k1) ∧ w'.cell? ⟨nep, 0, none⟩ = some (.bool sN) ∧ w'.cell? ⟨nep, 1, none⟩ = some (.slice aN nN cN)) ((first | exact HKP.out _ Xz5 | exact HKP.out _ Xz4 | exact HKP.out _ Xz3 | exact HKP.out _ Xz2 | exact HKP.out _ Xz1 | exact HKP.out _ (Below.refl _ _).drew))
          (first | (go_at_call 15; have Tz5 := Xz4; clear Tz5; refine (awake_any _).mono ?_; rintro e vz5 ⟨rfl, uz5⟩; have Xz5 : Below wn.heap.size wn vz5 := Xz4.trans (uz5.mono Xz4.size)) | (go_at_call 32; have Tz4 := Xz3; clear Tz4; refine (cmp_is _ _ _ _ _ _ _ _ _ _ _ _ _ d2 (HXX.out.below Xz3) IC2.out HD2.out).mono ?_; rintro e vz4 ⟨rfl, uz4⟩; have Xz4 : Below wn.heap.size wn vz4 := Xz3.trans (uz4.mono Xz3.size)) | (go_at_call 42; have Tz3 := Xz2; clear Tz3; refine (mul_int _ _ _ _ _ _ _ _ _ _ _ ((G : Int) + 1) ((G : Int) + 1) (HNE.out.below Xz2) (HNE.out.below Xz2) (by omega) (by omega)).mono ?_; rintro e vz3 ⟨nC2, aC2, kC2, cC2, zC2, rfl, iC2, gC2, uz3⟩; have Xz3 : Below wn.heap.size wn vz3 := Xz2.trans (uz3.mono Xz2.size); have IC2 := Lib.hid iC2; clear iC2) | (go_at_call 32; have Tz2 := Xz1; clear Tz2; refine (cmp_is _ _ _ _ _ _ _ _ _ _ _ _ _ d1 IC1.out (HXX.out.below Xz1) HD1.out).mono ?_; rintro e vz2 ⟨rfl, uz2⟩; have Xz2 : Below wn.heap.size wn vz2 := Xz1.trans (uz2.mono Xz1.size)) | (go_at_call 42; refine (mul_int _ _ _ _ _ _ _ _ _ _ _ (G : Int) (G : Int) (HRR.out.below (Below.refl _ _).drew) (HRR.out.below (Below.refl _ _).drew) (by omega) (by omega)).mono ?_; rintro e vz1 ⟨nC1, aC1, kC1, cC1, zC1, rfl, iC1, gC1, uz1⟩; have Xz1 : Below wn.heap.size wn vz1 := (Below.refl _ _).drew.trans uz1; have IC1 := Lib.hid iC1; clear iC1))
        go_wp2_with fail
        go_ret
        exact ⟨rfl, HW.out.trans (Xz5.mono HW.out.size)⟩

theorem roots_law (w : World) (nx : Bool) (ax : Option Addr) (n1 c1 : Nat) (zx : List Int) (m n : Int) (hx : Sl w ax n1 c1 zx) (lx : Lim zx) (hm0 : 0 ≤ m) (hm : m ≤ 255) (hn0 : 0 ≤ n) (hn : n ≤ 255) :
    Calls Try.prog 12 #[.agg #[.bool nx, .slice ax n1 c1], .int .u8 m, .int .u8 n] w (RetV w (.bool true)) := by
  obtain ⟨m, rfl⟩ := Int.eq_ofNat_of_zero_le hm0
  obtain ⟨n, rfl⟩ := Int.eq_ofNat_of_zero_le hn0
  by_cases h : n1 ≤ 6
  · exact roots_short w nx ax n1 c1 m n zx hx lx (by omega) (by omega) h
  · exact roots_long w nx ax n1 c1 m n h
end Go.Proofs.Ytpakfknacmcohaa
