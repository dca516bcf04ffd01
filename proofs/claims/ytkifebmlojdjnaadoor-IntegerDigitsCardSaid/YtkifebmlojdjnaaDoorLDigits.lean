/- IntegerDigits: the walk. -/
import Derived.Test.YtkifebmlojdjnaaDoorDigParse
import Derived.Test.YtkifebmlojdjnaaDoorDigLib
import Derived.Test.YtkifebmlojdjnaaDoorRootsIn
import Derived.Deep.DeepCutAuto
import Derived.Sort.AtCall
namespace Go.Proofs.YtkifebmlojdjnaaDoor
open Go.RowKit
set_option autoImplicit false
set_option linter.unusedVariables false

set_option maxRecDepth 100000 in
theorem digits_long (w : World) (nx : Bool) (ax : Option Addr) (n1 c1 : Nat) (m n : Int) (h : ¬ n1 ≤ 8) :
    Calls Tryd.prog 3 #[.agg #[.bool nx, .slice ax n1 c1], .int .u8 m, .int .u8 n] w (RetV w (.bool true)) := by
  have HD : Hid (decide (n1 ≤ 8) = false) := Lib.hid (decide_eq_false h)
  clear h
  go_enter Tryd.func3, Tryd.ntmps3
  go_wp2_with fail
  refine (short_one _ _ ⟨nx, ax, n1, c1⟩ 8 (heap_alloc2 _ _ _).1).mono ?_
  rintro e w1 ⟨rfl, hb1⟩
  rw [show decide (Num.n ⟨nx, ax, n1, c1⟩ ≤ 8) = false from HD.out]
  have hb2 : Below w.heap.size w w1 := Below.trans (by go_grown) (hb1.mono (by go_size))
  clear hb1
  go_wp2_with fail
  refine (awake_any _).mono ?_
  rintro e w2 ⟨rfl, hb3⟩
  go_wp2_with fail
  go_ret
  exact ⟨rfl, hb2.trans (hb3.mono hb2.size)⟩

theorem natAbs_val {w : World} {neg : Bool} {ao : Option Addr} {n cap : Nat} {zs : List Int} {x : Int} (h : IntAt w neg ao n cap zs x) : x.natAbs = (Go.Proofs.YtkifebmlojdjnaaDoor.val zs).toNat := by
  have h0 := val_nonneg h.lim
  rw [h.val]
  cases neg <;> simp [sgn] <;> omega
theorem pow_big (n : Nat) (h : n ≤ 8) : (2 : Int) ^ (32 * n) ≤ ((2 ^ 256 : Nat) : Int) := by
  have := Nat.pow_le_pow_right (n := 2) (by omega) (show 32 * n ≤ 256 by omega)
  exact_mod_cast this
theorem abs_lt {w : World} {neg : Bool} {ao : Option Addr} {n cap : Nat} {zs : List Int} {x : Int} (h : IntAt w neg ao n cap zs x) (hn : n ≤ 8) : x.natAbs < 2 ^ 256 := by
  have h2 := val_lt h.lim
  have h3 : zs.length = n := h.sl.len
  rw [h3, base_pow] at h2
  have h4 := pow_big n hn
  rw [natAbs_val h, Int.toNat_lt (val_nonneg h.lim)]
  exact Int.lt_of_lt_of_le h2 h4

set_option maxRecDepth 100000 in
set_option maxHeartbeats 1000000 in
theorem digits_neg (w : World) (nx : Bool) (ax : Option Addr) (n1 c1 : Nat) (ra ze : Nat) (zx : List Int) (hx : Sl w ax n1 c1 zx) (lx : Lim zx)
    (hra : ra ≤ 255) (hze : ze ≤ 255) (h1 : n1 ≤ 8) (hcs : sgn nx (val zx) < 0) :
    Calls Tryd.prog 3 #[.agg #[.bool nx, .slice ax n1 c1], .int .u8 (ra : Int), .int .u8 (ze : Int)] w (RetV w (.bool true)) := by
  have HD : Hid (decide (n1 ≤ 8) = true) := Lib.hid (decide_eq_true h1)
  have HX := Lib.hid hx
  have HCS := Lib.hid hcs
  clear hx hcs
  obtain ⟨i, hi⟩ : ∃ i : Nat, ra % 35 = i := ⟨_, rfl⟩
  obtain ⟨k, hk⟩ : ∃ k : Nat, ze % 20 = k := ⟨_, rfl⟩
  have hi7 : i ≤ 34 := by omega
  have hk7 : k ≤ 19 := by omega
  have him : (ra : Int) % 35 = (i : Int) := by omega
  have hkm : (ze : Int) % 20 = (k : Int) := by omega
  have hit : (ra : Int).tmod 35 = (i : Int) := by rw [Int.tmod_eq_emod_of_nonneg (by omega)]; exact him
  have hkt : (ze : Int).tmod 20 = (k : Int) := by rw [Int.tmod_eq_emod_of_nonneg (by omega)]; exact hkm
  obtain ⟨q, hq⟩ : ∃ q : Nat, 2 + i = q := ⟨_, rfl⟩
  have hqi : 2 + (i : Int) = (q : Int) := by omega
  have hq2 : 2 ≤ q := by omega
  have hq36 : q ≤ 36 := by omega
  clear hi hk
  go_enter Tryd.func3, Tryd.ntmps3
  go_wp2_with fail
  refine (short_one _ _ ⟨nx, ax, n1, c1⟩ 8 (heap_alloc2 _ _ _).1).mono ?_
  rintro e w1 ⟨rfl, hb1⟩
  rw [show decide (Num.n ⟨nx, ax, n1, c1⟩ ≤ 8) = true from HD.out]
  have hb2 : Below w.heap.size w w1 := Below.trans (by go_grown) (hb1.mono (by go_size))
  obtain ⟨x0, x1, -, -⟩ := blk2 ((hb1.block w.heap.size (by go_size)).trans (heap_alloc2 w _ _).2)
  clear hb1 HD
  go_wp2_with fail
  refine (made1 _ w1.heap.size ⟨nx, ax, n1, c1⟩ _ zx (heap_alloc_new _ _) ⟨HX.out.below (hb2.alloc hb2.size _), lx, rfl, by dsimp only; omega⟩).mono ?_
  rintro e w2 ⟨g, cap, ⟨sx, bx, m1, k1⟩, zr, rfl, hcap, hmx, ⟨g0, g1⟩, ix, lx1, hb3⟩
  dsimp only at g0 g1 ix lx1
  obtain ⟨X, hX⟩ : ∃ X, X = sgn nx (val zx) := ⟨_, rfl⟩
  rw [← hX] at ix HCS
  have IX := Lib.hid ix
  have HW := Lib.hid (show Below w.heap.size w w2 from (hb2.alloc hb2.size _).trans (hb3.mono (by have := hb2.size; simp; omega)))
  have hm1 : m1 ≤ 8 := by omega
  have HAB := Lib.hid (abs_lt ix hm1)
  have HC := Lib.hid (show cmpI X 0 = -1 by have := HCS.out; unfold cmpI; rw [if_pos this])
  clear ix hX hb2 hb3 x0 x1 HX lx1 lx
  have VS : Hid (Vars w2 []) := Lib.hid (fun v hv => by cases hv)
  have HP : Hid (∀ w, Calls Tryd.prog 8 #[.string (strOfNums (textOf q X)), .int .i64 q] w (RetBoth w X 0 1000001)) := Lib.hid (fun w => parse_text w q hq2 hq36 X HAB.out)
  have HS : Hid ((strOfNums (textOf q X)).data.toList = (if X < 0 then [45] else []) ++ dtext q X) := Lib.hid (bytes_text q X)
  have HT : Hid (∀ (w : World) (s : Bool) (b : Option Addr) (m k : Nat) (z : List Int), IntAt w s b m k z X → m ≤ 34359738368 → Calls Tryd.prog 7 #[.agg #[.bool s, .slice b m k], .int .i64 q] w (RetV w (.tuple #[.string (strOfNums (textOf q X)), .int .i64 0]))) := Lib.hid (fun w s b m k z h hm => text_any w s b m k z X q h hm hq2 hq36)
  obtain ⟨S, hS⟩ : ∃ S, strOfNums (textOf q X) = S := ⟨_, rfl⟩
  rw [hS] at HP HS HT
  clear hS
  have ix := IX.out
  go_wp2_with fail
  obtain ⟨wg1, hwg1⟩ : ∃ wg1, wg1 = w2.alloc (.cells #[.bool sx, .slice bx m1 k1] 28) := ⟨_, rfl⟩
  have bwg1 : Below w2.heap.size w2 wg1 := by rw [hwg1]; go_grown
  have nwg1 : BAt wg1 ⟨w2.heap.size, sx, bx, m1, k1, zr, X⟩ := by rw [hwg1]; exact BAt.new IX.out (by omega)
  rw [← hwg1]
  clear hwg1 ix
  obtain ⟨Xp, hXp⟩ : ∃ p, p = w2.heap.size := ⟨_, rfl⟩
  rw [← hXp] at nwg1 ⊢
  replace VS := Lib.hid ((VS.out.below bwg1).push nwg1)
  replace HW := Lib.hid (HW.out.trans (bwg1.mono HW.out.size))
  clear nwg1 bwg1 hXp IX
  refine (HT.out _ _ _ _ _ _ (VS.out _ (.head _)).it (by dsimp only; omega)).mono ?_
  rintro e w3 ⟨rfl, b3⟩
  replace VS := Lib.hid (VS.out.below b3)
  replace HW := Lib.hid (HW.out.trans (b3.mono HW.out.size))
  clear b3
  go_wp2_with fail
  refine (HP.out _).mono ?_
  rintro e w4 ⟨sy, ay, ny, cy, zy, rfl, iy, gy, b4⟩
  have IY := Lib.hid iy
  clear iy
  replace VS := Lib.hid (VS.out.below b4)
  replace HW := Lib.hid (HW.out.trans (b4.mono HW.out.size))
  clear b4
  go_wp2_with fail
  obtain ⟨w5, hw5⟩ : ∃ w5, w5 = w4.alloc (.cells #[.bool sy, .slice ay ny cy] 28) := ⟨_, rfl⟩
  have bw5 : Below w4.heap.size w4 w5 := by rw [hw5]; go_grown
  have nw5 : BAt w5 ⟨w4.heap.size, sy, ay, ny, cy, zy, X⟩ := by rw [hw5]; exact BAt.new IY.out (by omega)
  rw [← hw5]
  clear hw5
  obtain ⟨Yp, hYp⟩ : ∃ p, p = w4.heap.size := ⟨_, rfl⟩
  rw [← hYp] at nw5 ⊢
  replace VS := Lib.hid ((VS.out.below bw5).push nw5)
  replace HW := Lib.hid (HW.out.trans (bw5.mono HW.out.size))
  clear nw5 bw5 hYp IY
  refine (trimPrefix_any _ _ _).mono ?_
  rintro e w' ⟨rfl, rfl⟩
  have hD0 : Lib.trimPrefix S.data.toList [45] = dtext q X := by
    obtain ⟨c, cs, e1, -, e2, -⟩ := dtext_ne q hq2 hq36 X
    rw [HS.out]
    rw [if_pos HCS.out]
    simp [Lib.trimPrefix, Lib.hasPrefix]
  obtain ⟨D, hD⟩ : ∃ D : ByteArray, D = ⟨(Lib.trimPrefix S.data.toList (ByteArray.mk #[45]).data.toList).toArray⟩ := ⟨_, rfl⟩
  have hDl : D.data.toList = dtext q X := by rw [hD]; exact hD0
  have hDs : D.size ≤ 256 := by rw [Lib.size_eq, hDl]; exact dtext_len q hq2 X 256 (by omega) HAB.out
  rw [← hD]
  have HDL := Lib.hid hDl
  clear hD hD0 hDl
  obtain ⟨Xc0, Xc1, -, -, Xl⟩ := (VS.out _ (.tail _ (.head _)))
  dsimp only at Xc0 Xc1 Xl
  go_wp2_with fail
  refine (sign_int _ _ _ _ _ _ X (VS.out _ (.tail _ (.head _))).it).mono ?_
  rintro e w6 ⟨rfl, b6⟩
  rw [HC.out]
  clear Xc0 Xc1 Xl
  replace VS := Lib.hid (VS.out.below b6)
  replace HW := Lib.hid (HW.out.trans (b6.mono HW.out.size))
  clear b6
  go_wp2_with fail
  refine (repeat_any _ k _ (by omega) (by show 1 * k ≤ _; omega)).mono ?_
  rintro e w7 ⟨rfl, b7⟩
  replace VS := Lib.hid (VS.out.below b7)
  replace HW := Lib.hid (HW.out.trans (b7.mono HW.out.size))
  clear b7
  obtain ⟨Z, hZ⟩ : ∃ Z : ByteArray, Z = ⟨(Lib.repeatL (ByteArray.mk #[48]).data.toList k).toArray⟩ := ⟨_, rfl⟩
  have hZl : Z.data.toList = List.replicate k 48 := by
    rw [hZ]
    have := Lib.repeatL_replicate 48 1 k
    simpa using this
  have hZs : Z.size ≤ 20 := by rw [Lib.size_eq, hZl, List.length_replicate]; omega
  rw [← hZ]
  have HZL := Lib.hid hZl
  clear hZ hZl
  go_wp2_with fail
  refine (lower_any D _ (by omega) (by
    intro j b hb
    rw [HDL.out] at hb
    exact (dtext_dig hq2 hq36 X b (List.mem_of_getElem? hb)).2)).mono ?_
  rintro e w8 ⟨rfl, b8⟩
  replace VS := Lib.hid (VS.out.below b8)
  replace HW := Lib.hid (HW.out.trans (b8.mono HW.out.size))
  clear b8
  obtain ⟨L, hL⟩ : ∃ L : ByteArray, L = ⟨(Lib.toLowerA D.data.toList).toArray⟩ := ⟨_, rfl⟩
  have hLl : L.data.toList = Lib.toLowerA (dtext q X) := by rw [hL, HDL.out]
  have hLs : L.size ≤ 256 := by rw [Lib.size_eq, hLl, Lib.toLowerA, List.length_map, ← HDL.out, ← Lib.size_eq]; exact hDs
  rw [← hL]
  have HLL := Lib.hid hLl
  clear hL hLl
  go_wp2_with fail
  refine (parse_mixed _ _ q hq2 hq36 X HAB.out k (by omega) (by
    simp only [ByteArray.data_append, Array.toList_append]
    rw [HZL.out, HLL.out]
    rw [if_pos (decide_eq_true HCS.out)]
    simp)).mono ?_
  rintro e w9 ⟨sz, az, nz, cz, zz, rfl, iz, gz, b9⟩
  have IZ := Lib.hid iz
  clear iz
  replace VS := Lib.hid (VS.out.below b9)
  replace HW := Lib.hid (HW.out.trans (b9.mono HW.out.size))
  clear b9
  go_wp2_with fail
  obtain ⟨wa, hwa⟩ : ∃ wa, wa = w9.alloc (.cells #[.bool sz, .slice az nz cz] 28) := ⟨_, rfl⟩
  have bwa : Below w9.heap.size w9 wa := by rw [hwa]; go_grown
  have nwa : BAt wa ⟨w9.heap.size, sz, az, nz, cz, zz, X⟩ := by rw [hwa]; exact BAt.new IZ.out (by omega)
  rw [← hwa]
  clear hwa
  obtain ⟨Zp, hZp⟩ : ∃ p, p = w9.heap.size := ⟨_, rfl⟩
  rw [← hZp] at nwa ⊢
  replace VS := Lib.hid ((VS.out.below bwa).push nwa)
  replace HW := Lib.hid (HW.out.trans (bwa.mono HW.out.size))
  clear nwa bwa hZp IZ
  refine (HT.out _ _ _ _ _ _ (VS.out _ (.head _)).it (by dsimp only; omega)).mono ?_
  rintro e wb ⟨rfl, bb⟩
  replace VS := Lib.hid (VS.out.below bb)
  replace HW := Lib.hid (HW.out.trans (bb.mono HW.out.size))
  clear bb
  obtain ⟨Xc0, Xc1, -, -, Xl⟩ := (VS.out _ (.tail _ (.tail _ (.head _))))
  dsimp only at Xc0 Xc1 Xl
  obtain ⟨Yc0, Yc1, -, -, Yl⟩ := (VS.out _ (.tail _ (.head _)))
  dsimp only at Yc0 Yc1 Yl
  obtain ⟨Zc0, Zc1, -, -, Zl⟩ := (VS.out _ (.head _))
  dsimp only at Zc0 Zc1 Zl
  have hmax : ∀ v : World, (Builtin.max_ #[31, 31, 31, 31] 31 #[.int .i64 0, .int .i64 0, .int .i64 0, .int .i64 0]).run Tryd.prog v = .ok (.int .i64 0) v := fun v => by kernel_rfl
  go_wp2_with fail
  refine (same_yes (VS.out _ (.tail _ (.head _))).it (VS.out _ (.tail _ (.tail _ (.head _)))).it rfl).mono ?_
  rintro e wc ⟨rfl, bc⟩
  clear Xc0 Xc1 Xl
  clear Yc0 Yc1 Yl
  clear Zc0 Zc1 Zl
  replace VS := Lib.hid (VS.out.below bc)
  replace HW := Lib.hid (HW.out.trans (bc.mono HW.out.size))
  clear bc
  obtain ⟨Xc0, Xc1, -, -, Xl⟩ := (VS.out _ (.tail _ (.tail _ (.head _))))
  dsimp only at Xc0 Xc1 Xl
  obtain ⟨Yc0, Yc1, -, -, Yl⟩ := (VS.out _ (.tail _ (.head _)))
  dsimp only at Yc0 Yc1 Yl
  obtain ⟨Zc0, Zc1, -, -, Zl⟩ := (VS.out _ (.head _))
  dsimp only at Zc0 Zc1 Zl
  go_wp2_with fail
  refine (same_yes (VS.out _ (.head _)).it (VS.out _ (.tail _ (.tail _ (.head _)))).it rfl).mono ?_
  rintro e wd ⟨rfl, bd⟩
  clear Xc0 Xc1 Xl
  clear Yc0 Yc1 Yl
  clear Zc0 Zc1 Zl
  replace VS := Lib.hid (VS.out.below bd)
  replace HW := Lib.hid (HW.out.trans (bd.mono HW.out.size))
  clear bd
  obtain ⟨Xc0, Xc1, -, -, Xl⟩ := (VS.out _ (.tail _ (.tail _ (.head _))))
  dsimp only at Xc0 Xc1 Xl
  obtain ⟨Yc0, Yc1, -, -, Yl⟩ := (VS.out _ (.tail _ (.head _)))
  dsimp only at Yc0 Yc1 Yl
  obtain ⟨Zc0, Zc1, -, -, Zl⟩ := (VS.out _ (.head _))
  dsimp only at Zc0 Zc1 Zl
  go_wp2_with fail
  refine (sign_int _ _ _ _ _ _ X (VS.out _ (.tail _ (.tail _ (.head _)))).it).mono ?_
  rintro e we ⟨rfl, be⟩
  rw [HC.out]
  clear Xc0 Xc1 Xl
  clear Yc0 Yc1 Yl
  clear Zc0 Zc1 Zl
  replace VS := Lib.hid (VS.out.below be)
  replace HW := Lib.hid (HW.out.trans (be.mono HW.out.size))
  clear be
  have hpS : Lib.hasPrefix S.data.toList (ByteArray.mk #[45]).data.toList = true := by
    obtain ⟨c, cs, e1, -, e2, -⟩ := dtext_ne q hq2 hq36 X
    rw [HS.out]
    rw [if_pos HCS.out]
    simp [Lib.hasPrefix]
  have hne : dtext q X ≠ [48] := by
    intro e1
    have h1 := dtext_pval hq2 hq36 X
    rw [e1] at h1
    have h2 := HCS.out
    have h3 : pval (q : Int) [48] = 0 := by simp [pval, dv]
    omega
  have hDe : ¬ D.toList = [48] := by
    rw [ByteArray.toList_eq, HDL.out]; exact hne
  have hpD : Lib.hasPrefix D.data.toList (ByteArray.mk #[48]).data.toList = false := by
    obtain ⟨c, cs, e1, e0, -, -⟩ := dtext_ne q hq2 hq36 X
    rw [HDL.out, e1]
    have e3 : c ≠ 48 := fun h => hne (e0 h)
    simp [Lib.hasPrefix, List.isPrefixOf, Ne.symm e3]
  go_wp2_with fail
  refine (prefix_any _ _ _).mono ?_
  rintro e w' ⟨rfl, rfl⟩
  rw [hpS]
  clear hpS
  go_wp2_with fail
  refine (prefix_any _ _ _).mono ?_
  rintro e w' ⟨rfl, rfl⟩
  rw [hpD]
  clear hpD
  go_wp2_with fail
  refine (awake_any _).mono ?_
  rintro e wf ⟨rfl, bf⟩
  go_wp2_with fail
  go_ret
  exact ⟨rfl, HW.out.trans (bf.mono HW.out.size)⟩


set_option maxRecDepth 100000 in
set_option maxHeartbeats 1000000 in
theorem digits_zero (w : World) (nx : Bool) (ax : Option Addr) (n1 c1 : Nat) (ra ze : Nat) (zx : List Int) (hx : Sl w ax n1 c1 zx) (lx : Lim zx)
    (hra : ra ≤ 255) (hze : ze ≤ 255) (h1 : n1 ≤ 8) (hcs : sgn nx (val zx) = 0) :
    Calls Tryd.prog 3 #[.agg #[.bool nx, .slice ax n1 c1], .int .u8 (ra : Int), .int .u8 (ze : Int)] w (RetV w (.bool true)) := by
  have HD : Hid (decide (n1 ≤ 8) = true) := Lib.hid (decide_eq_true h1)
  have HX := Lib.hid hx
  have HCS := Lib.hid hcs
  clear hx hcs
  obtain ⟨i, hi⟩ : ∃ i : Nat, ra % 35 = i := ⟨_, rfl⟩
  obtain ⟨k, hk⟩ : ∃ k : Nat, ze % 20 = k := ⟨_, rfl⟩
  have hi7 : i ≤ 34 := by omega
  have hk7 : k ≤ 19 := by omega
  have him : (ra : Int) % 35 = (i : Int) := by omega
  have hkm : (ze : Int) % 20 = (k : Int) := by omega
  have hit : (ra : Int).tmod 35 = (i : Int) := by rw [Int.tmod_eq_emod_of_nonneg (by omega)]; exact him
  have hkt : (ze : Int).tmod 20 = (k : Int) := by rw [Int.tmod_eq_emod_of_nonneg (by omega)]; exact hkm
  obtain ⟨q, hq⟩ : ∃ q : Nat, 2 + i = q := ⟨_, rfl⟩
  have hqi : 2 + (i : Int) = (q : Int) := by omega
  have hq2 : 2 ≤ q := by omega
  have hq36 : q ≤ 36 := by omega
  clear hi hk
  go_enter Tryd.func3, Tryd.ntmps3
  go_wp2_with fail
  refine (short_one _ _ ⟨nx, ax, n1, c1⟩ 8 (heap_alloc2 _ _ _).1).mono ?_
  rintro e w1 ⟨rfl, hb1⟩
  rw [show decide (Num.n ⟨nx, ax, n1, c1⟩ ≤ 8) = true from HD.out]
  have hb2 : Below w.heap.size w w1 := Below.trans (by go_grown) (hb1.mono (by go_size))
  obtain ⟨x0, x1, -, -⟩ := blk2 ((hb1.block w.heap.size (by go_size)).trans (heap_alloc2 w _ _).2)
  clear hb1 HD
  go_wp2_with fail
  refine (made1 _ w1.heap.size ⟨nx, ax, n1, c1⟩ _ zx (heap_alloc_new _ _) ⟨HX.out.below (hb2.alloc hb2.size _), lx, rfl, by dsimp only; omega⟩).mono ?_
  rintro e w2 ⟨g, cap, ⟨sx, bx, m1, k1⟩, zr, rfl, hcap, hmx, ⟨g0, g1⟩, ix, lx1, hb3⟩
  dsimp only at g0 g1 ix lx1
  obtain ⟨X, hX⟩ : ∃ X, X = sgn nx (val zx) := ⟨_, rfl⟩
  rw [← hX] at ix HCS
  have IX := Lib.hid ix
  have HW := Lib.hid (show Below w.heap.size w w2 from (hb2.alloc hb2.size _).trans (hb3.mono (by have := hb2.size; simp; omega)))
  have hm1 : m1 ≤ 8 := by omega
  have HAB := Lib.hid (abs_lt ix hm1)
  have HC := Lib.hid (show cmpI X 0 = 0 by have := HCS.out; unfold cmpI; subst this; rfl)
  clear ix hX hb2 hb3 x0 x1 HX lx1 lx
  have VS : Hid (Vars w2 []) := Lib.hid (fun v hv => by cases hv)
  have HP : Hid (∀ w, Calls Tryd.prog 8 #[.string (strOfNums (textOf q X)), .int .i64 q] w (RetBoth w X 0 1000001)) := Lib.hid (fun w => parse_text w q hq2 hq36 X HAB.out)
  have HS : Hid ((strOfNums (textOf q X)).data.toList = (if X < 0 then [45] else []) ++ dtext q X) := Lib.hid (bytes_text q X)
  have HT : Hid (∀ (w : World) (s : Bool) (b : Option Addr) (m k : Nat) (z : List Int), IntAt w s b m k z X → m ≤ 34359738368 → Calls Tryd.prog 7 #[.agg #[.bool s, .slice b m k], .int .i64 q] w (RetV w (.tuple #[.string (strOfNums (textOf q X)), .int .i64 0]))) := Lib.hid (fun w s b m k z h hm => text_any w s b m k z X q h hm hq2 hq36)
  obtain ⟨S, hS⟩ : ∃ S, strOfNums (textOf q X) = S := ⟨_, rfl⟩
  rw [hS] at HP HS HT
  clear hS
  have ix := IX.out
  go_wp2_with fail
  obtain ⟨wg1, hwg1⟩ : ∃ wg1, wg1 = w2.alloc (.cells #[.bool sx, .slice bx m1 k1] 28) := ⟨_, rfl⟩
  have bwg1 : Below w2.heap.size w2 wg1 := by rw [hwg1]; go_grown
  have nwg1 : BAt wg1 ⟨w2.heap.size, sx, bx, m1, k1, zr, X⟩ := by rw [hwg1]; exact BAt.new IX.out (by omega)
  rw [← hwg1]
  clear hwg1 ix
  obtain ⟨Xp, hXp⟩ : ∃ p, p = w2.heap.size := ⟨_, rfl⟩
  rw [← hXp] at nwg1 ⊢
  replace VS := Lib.hid ((VS.out.below bwg1).push nwg1)
  replace HW := Lib.hid (HW.out.trans (bwg1.mono HW.out.size))
  clear nwg1 bwg1 hXp IX
  refine (HT.out _ _ _ _ _ _ (VS.out _ (.head _)).it (by dsimp only; omega)).mono ?_
  rintro e w3 ⟨rfl, b3⟩
  replace VS := Lib.hid (VS.out.below b3)
  replace HW := Lib.hid (HW.out.trans (b3.mono HW.out.size))
  clear b3
  go_wp2_with fail
  refine (HP.out _).mono ?_
  rintro e w4 ⟨sy, ay, ny, cy, zy, rfl, iy, gy, b4⟩
  have IY := Lib.hid iy
  clear iy
  replace VS := Lib.hid (VS.out.below b4)
  replace HW := Lib.hid (HW.out.trans (b4.mono HW.out.size))
  clear b4
  go_wp2_with fail
  obtain ⟨w5, hw5⟩ : ∃ w5, w5 = w4.alloc (.cells #[.bool sy, .slice ay ny cy] 28) := ⟨_, rfl⟩
  have bw5 : Below w4.heap.size w4 w5 := by rw [hw5]; go_grown
  have nw5 : BAt w5 ⟨w4.heap.size, sy, ay, ny, cy, zy, X⟩ := by rw [hw5]; exact BAt.new IY.out (by omega)
  rw [← hw5]
  clear hw5
  obtain ⟨Yp, hYp⟩ : ∃ p, p = w4.heap.size := ⟨_, rfl⟩
  rw [← hYp] at nw5 ⊢
  replace VS := Lib.hid ((VS.out.below bw5).push nw5)
  replace HW := Lib.hid (HW.out.trans (bw5.mono HW.out.size))
  clear nw5 bw5 hYp IY
  refine (trimPrefix_any _ _ _).mono ?_
  rintro e w' ⟨rfl, rfl⟩
  have hD0 : Lib.trimPrefix S.data.toList [45] = dtext q X := by
    obtain ⟨c, cs, e1, -, e2, -⟩ := dtext_ne q hq2 hq36 X
    rw [HS.out]
    rw [if_neg (by have := HCS.out; omega), e1]
    simp [Lib.trimPrefix, Lib.hasPrefix, List.isPrefixOf, Ne.symm e2]
  obtain ⟨D, hD⟩ : ∃ D : ByteArray, D = ⟨(Lib.trimPrefix S.data.toList (ByteArray.mk #[45]).data.toList).toArray⟩ := ⟨_, rfl⟩
  have hDl : D.data.toList = dtext q X := by rw [hD]; exact hD0
  have hDs : D.size ≤ 256 := by rw [Lib.size_eq, hDl]; exact dtext_len q hq2 X 256 (by omega) HAB.out
  rw [← hD]
  have HDL := Lib.hid hDl
  clear hD hD0 hDl
  obtain ⟨Xc0, Xc1, -, -, Xl⟩ := (VS.out _ (.tail _ (.head _)))
  dsimp only at Xc0 Xc1 Xl
  go_wp2_with fail
  refine (sign_int _ _ _ _ _ _ X (VS.out _ (.tail _ (.head _))).it).mono ?_
  rintro e w6 ⟨rfl, b6⟩
  rw [HC.out]
  clear Xc0 Xc1 Xl
  replace VS := Lib.hid (VS.out.below b6)
  replace HW := Lib.hid (HW.out.trans (b6.mono HW.out.size))
  clear b6
  go_wp2_with fail
  refine (repeat_any _ k _ (by omega) (by show 1 * k ≤ _; omega)).mono ?_
  rintro e w7 ⟨rfl, b7⟩
  replace VS := Lib.hid (VS.out.below b7)
  replace HW := Lib.hid (HW.out.trans (b7.mono HW.out.size))
  clear b7
  obtain ⟨Z, hZ⟩ : ∃ Z : ByteArray, Z = ⟨(Lib.repeatL (ByteArray.mk #[48]).data.toList k).toArray⟩ := ⟨_, rfl⟩
  have hZl : Z.data.toList = List.replicate k 48 := by
    rw [hZ]
    have := Lib.repeatL_replicate 48 1 k
    simpa using this
  have hZs : Z.size ≤ 20 := by rw [Lib.size_eq, hZl, List.length_replicate]; omega
  rw [← hZ]
  have HZL := Lib.hid hZl
  clear hZ hZl
  go_wp2_with fail
  refine (lower_any D _ (by omega) (by
    intro j b hb
    rw [HDL.out] at hb
    exact (dtext_dig hq2 hq36 X b (List.mem_of_getElem? hb)).2)).mono ?_
  rintro e w8 ⟨rfl, b8⟩
  replace VS := Lib.hid (VS.out.below b8)
  replace HW := Lib.hid (HW.out.trans (b8.mono HW.out.size))
  clear b8
  obtain ⟨L, hL⟩ : ∃ L : ByteArray, L = ⟨(Lib.toLowerA D.data.toList).toArray⟩ := ⟨_, rfl⟩
  have hLl : L.data.toList = Lib.toLowerA (dtext q X) := by rw [hL, HDL.out]
  have hLs : L.size ≤ 256 := by rw [Lib.size_eq, hLl, Lib.toLowerA, List.length_map, ← HDL.out, ← Lib.size_eq]; exact hDs
  rw [← hL]
  have HLL := Lib.hid hLl
  clear hL hLl
  go_wp2_with fail
  refine (parse_mixed _ _ q hq2 hq36 X HAB.out k (by omega) (by
    simp only [ByteArray.data_append, Array.toList_append]
    rw [HZL.out, HLL.out]
    rw [if_neg (by have := HCS.out; simp; omega)]
    simp)).mono ?_
  rintro e w9 ⟨sz, az, nz, cz, zz, rfl, iz, gz, b9⟩
  have IZ := Lib.hid iz
  clear iz
  replace VS := Lib.hid (VS.out.below b9)
  replace HW := Lib.hid (HW.out.trans (b9.mono HW.out.size))
  clear b9
  go_wp2_with fail
  obtain ⟨wa, hwa⟩ : ∃ wa, wa = w9.alloc (.cells #[.bool sz, .slice az nz cz] 28) := ⟨_, rfl⟩
  have bwa : Below w9.heap.size w9 wa := by rw [hwa]; go_grown
  have nwa : BAt wa ⟨w9.heap.size, sz, az, nz, cz, zz, X⟩ := by rw [hwa]; exact BAt.new IZ.out (by omega)
  rw [← hwa]
  clear hwa
  obtain ⟨Zp, hZp⟩ : ∃ p, p = w9.heap.size := ⟨_, rfl⟩
  rw [← hZp] at nwa ⊢
  replace VS := Lib.hid ((VS.out.below bwa).push nwa)
  replace HW := Lib.hid (HW.out.trans (bwa.mono HW.out.size))
  clear nwa bwa hZp IZ
  refine (HT.out _ _ _ _ _ _ (VS.out _ (.head _)).it (by dsimp only; omega)).mono ?_
  rintro e wb ⟨rfl, bb⟩
  replace VS := Lib.hid (VS.out.below bb)
  replace HW := Lib.hid (HW.out.trans (bb.mono HW.out.size))
  clear bb
  obtain ⟨Xc0, Xc1, -, -, Xl⟩ := (VS.out _ (.tail _ (.tail _ (.head _))))
  dsimp only at Xc0 Xc1 Xl
  obtain ⟨Yc0, Yc1, -, -, Yl⟩ := (VS.out _ (.tail _ (.head _)))
  dsimp only at Yc0 Yc1 Yl
  obtain ⟨Zc0, Zc1, -, -, Zl⟩ := (VS.out _ (.head _))
  dsimp only at Zc0 Zc1 Zl
  have hmax : ∀ v : World, (Builtin.max_ #[31, 31, 31, 31] 31 #[.int .i64 0, .int .i64 0, .int .i64 0, .int .i64 0]).run Tryd.prog v = .ok (.int .i64 0) v := fun v => by kernel_rfl
  go_wp2_with fail
  refine (same_yes (VS.out _ (.tail _ (.head _))).it (VS.out _ (.tail _ (.tail _ (.head _)))).it rfl).mono ?_
  rintro e wc ⟨rfl, bc⟩
  clear Xc0 Xc1 Xl
  clear Yc0 Yc1 Yl
  clear Zc0 Zc1 Zl
  replace VS := Lib.hid (VS.out.below bc)
  replace HW := Lib.hid (HW.out.trans (bc.mono HW.out.size))
  clear bc
  obtain ⟨Xc0, Xc1, -, -, Xl⟩ := (VS.out _ (.tail _ (.tail _ (.head _))))
  dsimp only at Xc0 Xc1 Xl
  obtain ⟨Yc0, Yc1, -, -, Yl⟩ := (VS.out _ (.tail _ (.head _)))
  dsimp only at Yc0 Yc1 Yl
  obtain ⟨Zc0, Zc1, -, -, Zl⟩ := (VS.out _ (.head _))
  dsimp only at Zc0 Zc1 Zl
  go_wp2_with fail
  refine (same_yes (VS.out _ (.head _)).it (VS.out _ (.tail _ (.tail _ (.head _)))).it rfl).mono ?_
  rintro e wd ⟨rfl, bd⟩
  clear Xc0 Xc1 Xl
  clear Yc0 Yc1 Yl
  clear Zc0 Zc1 Zl
  replace VS := Lib.hid (VS.out.below bd)
  replace HW := Lib.hid (HW.out.trans (bd.mono HW.out.size))
  clear bd
  obtain ⟨Xc0, Xc1, -, -, Xl⟩ := (VS.out _ (.tail _ (.tail _ (.head _))))
  dsimp only at Xc0 Xc1 Xl
  obtain ⟨Yc0, Yc1, -, -, Yl⟩ := (VS.out _ (.tail _ (.head _)))
  dsimp only at Yc0 Yc1 Yl
  obtain ⟨Zc0, Zc1, -, -, Zl⟩ := (VS.out _ (.head _))
  dsimp only at Zc0 Zc1 Zl
  go_wp2_with fail
  refine (sign_int _ _ _ _ _ _ X (VS.out _ (.tail _ (.tail _ (.head _)))).it).mono ?_
  rintro e we ⟨rfl, be⟩
  rw [HC.out]
  clear Xc0 Xc1 Xl
  clear Yc0 Yc1 Yl
  clear Zc0 Zc1 Zl
  replace VS := Lib.hid (VS.out.below be)
  replace HW := Lib.hid (HW.out.trans (be.mono HW.out.size))
  clear be
  have hpS : Lib.hasPrefix S.data.toList (ByteArray.mk #[45]).data.toList = false := by
    obtain ⟨c, cs, e1, -, e2, -⟩ := dtext_ne q hq2 hq36 X
    rw [HS.out]
    rw [if_neg (by have := HCS.out; omega), e1]
    simp [Lib.hasPrefix, List.isPrefixOf, Ne.symm e2]
  have hDe : D.toList = [48] := by
    rw [ByteArray.toList_eq, HDL.out, HCS.out]; rfl
  go_wp2_with fail
  refine (prefix_any _ _ _).mono ?_
  rintro e w' ⟨rfl, rfl⟩
  rw [hpS]
  clear hpS
  go_wp2_with fail
  refine (awake_any _).mono ?_
  rintro e wf ⟨rfl, bf⟩
  go_wp2_with fail
  go_ret
  exact ⟨rfl, HW.out.trans (bf.mono HW.out.size)⟩


set_option maxRecDepth 100000 in
set_option maxHeartbeats 1000000 in
theorem digits_pos (w : World) (nx : Bool) (ax : Option Addr) (n1 c1 : Nat) (ra ze : Nat) (zx : List Int) (hx : Sl w ax n1 c1 zx) (lx : Lim zx)
    (hra : ra ≤ 255) (hze : ze ≤ 255) (h1 : n1 ≤ 8) (hcs : 0 < sgn nx (val zx)) :
    Calls Tryd.prog 3 #[.agg #[.bool nx, .slice ax n1 c1], .int .u8 (ra : Int), .int .u8 (ze : Int)] w (RetV w (.bool true)) := by
  have HD : Hid (decide (n1 ≤ 8) = true) := Lib.hid (decide_eq_true h1)
  have HX := Lib.hid hx
  have HCS := Lib.hid hcs
  clear hx hcs
  obtain ⟨i, hi⟩ : ∃ i : Nat, ra % 35 = i := ⟨_, rfl⟩
  obtain ⟨k, hk⟩ : ∃ k : Nat, ze % 20 = k := ⟨_, rfl⟩
  have hi7 : i ≤ 34 := by omega
  have hk7 : k ≤ 19 := by omega
  have him : (ra : Int) % 35 = (i : Int) := by omega
  have hkm : (ze : Int) % 20 = (k : Int) := by omega
  have hit : (ra : Int).tmod 35 = (i : Int) := by rw [Int.tmod_eq_emod_of_nonneg (by omega)]; exact him
  have hkt : (ze : Int).tmod 20 = (k : Int) := by rw [Int.tmod_eq_emod_of_nonneg (by omega)]; exact hkm
  obtain ⟨q, hq⟩ : ∃ q : Nat, 2 + i = q := ⟨_, rfl⟩
  have hqi : 2 + (i : Int) = (q : Int) := by omega
  have hq2 : 2 ≤ q := by omega
  have hq36 : q ≤ 36 := by omega
  clear hi hk
  go_enter Tryd.func3, Tryd.ntmps3
  go_wp2_with fail
  refine (short_one _ _ ⟨nx, ax, n1, c1⟩ 8 (heap_alloc2 _ _ _).1).mono ?_
  rintro e w1 ⟨rfl, hb1⟩
  rw [show decide (Num.n ⟨nx, ax, n1, c1⟩ ≤ 8) = true from HD.out]
  have hb2 : Below w.heap.size w w1 := Below.trans (by go_grown) (hb1.mono (by go_size))
  obtain ⟨x0, x1, -, -⟩ := blk2 ((hb1.block w.heap.size (by go_size)).trans (heap_alloc2 w _ _).2)
  clear hb1 HD
  go_wp2_with fail
  refine (made1 _ w1.heap.size ⟨nx, ax, n1, c1⟩ _ zx (heap_alloc_new _ _) ⟨HX.out.below (hb2.alloc hb2.size _), lx, rfl, by dsimp only; omega⟩).mono ?_
  rintro e w2 ⟨g, cap, ⟨sx, bx, m1, k1⟩, zr, rfl, hcap, hmx, ⟨g0, g1⟩, ix, lx1, hb3⟩
  dsimp only at g0 g1 ix lx1
  obtain ⟨X, hX⟩ : ∃ X, X = sgn nx (val zx) := ⟨_, rfl⟩
  rw [← hX] at ix HCS
  have IX := Lib.hid ix
  have HW := Lib.hid (show Below w.heap.size w w2 from (hb2.alloc hb2.size _).trans (hb3.mono (by have := hb2.size; simp; omega)))
  have hm1 : m1 ≤ 8 := by omega
  have HAB := Lib.hid (abs_lt ix hm1)
  have HC := Lib.hid (show cmpI X 0 = 1 by have := HCS.out; unfold cmpI; rw [if_neg (by omega), if_pos this])
  clear ix hX hb2 hb3 x0 x1 HX lx1 lx
  have VS : Hid (Vars w2 []) := Lib.hid (fun v hv => by cases hv)
  have HP : Hid (∀ w, Calls Tryd.prog 8 #[.string (strOfNums (textOf q X)), .int .i64 q] w (RetBoth w X 0 1000001)) := Lib.hid (fun w => parse_text w q hq2 hq36 X HAB.out)
  have HS : Hid ((strOfNums (textOf q X)).data.toList = (if X < 0 then [45] else []) ++ dtext q X) := Lib.hid (bytes_text q X)
  have HT : Hid (∀ (w : World) (s : Bool) (b : Option Addr) (m k : Nat) (z : List Int), IntAt w s b m k z X → m ≤ 34359738368 → Calls Tryd.prog 7 #[.agg #[.bool s, .slice b m k], .int .i64 q] w (RetV w (.tuple #[.string (strOfNums (textOf q X)), .int .i64 0]))) := Lib.hid (fun w s b m k z h hm => text_any w s b m k z X q h hm hq2 hq36)
  obtain ⟨S, hS⟩ : ∃ S, strOfNums (textOf q X) = S := ⟨_, rfl⟩
  rw [hS] at HP HS HT
  clear hS
  have ix := IX.out
  go_wp2_with fail
  obtain ⟨wg1, hwg1⟩ : ∃ wg1, wg1 = w2.alloc (.cells #[.bool sx, .slice bx m1 k1] 28) := ⟨_, rfl⟩
  have bwg1 : Below w2.heap.size w2 wg1 := by rw [hwg1]; go_grown
  have nwg1 : BAt wg1 ⟨w2.heap.size, sx, bx, m1, k1, zr, X⟩ := by rw [hwg1]; exact BAt.new IX.out (by omega)
  rw [← hwg1]
  clear hwg1 ix
  obtain ⟨Xp, hXp⟩ : ∃ p, p = w2.heap.size := ⟨_, rfl⟩
  rw [← hXp] at nwg1 ⊢
  replace VS := Lib.hid ((VS.out.below bwg1).push nwg1)
  replace HW := Lib.hid (HW.out.trans (bwg1.mono HW.out.size))
  clear nwg1 bwg1 hXp IX
  refine (HT.out _ _ _ _ _ _ (VS.out _ (.head _)).it (by dsimp only; omega)).mono ?_
  rintro e w3 ⟨rfl, b3⟩
  replace VS := Lib.hid (VS.out.below b3)
  replace HW := Lib.hid (HW.out.trans (b3.mono HW.out.size))
  clear b3
  go_wp2_with fail
  refine (HP.out _).mono ?_
  rintro e w4 ⟨sy, ay, ny, cy, zy, rfl, iy, gy, b4⟩
  have IY := Lib.hid iy
  clear iy
  replace VS := Lib.hid (VS.out.below b4)
  replace HW := Lib.hid (HW.out.trans (b4.mono HW.out.size))
  clear b4
  go_wp2_with fail
  obtain ⟨w5, hw5⟩ : ∃ w5, w5 = w4.alloc (.cells #[.bool sy, .slice ay ny cy] 28) := ⟨_, rfl⟩
  have bw5 : Below w4.heap.size w4 w5 := by rw [hw5]; go_grown
  have nw5 : BAt w5 ⟨w4.heap.size, sy, ay, ny, cy, zy, X⟩ := by rw [hw5]; exact BAt.new IY.out (by omega)
  rw [← hw5]
  clear hw5
  obtain ⟨Yp, hYp⟩ : ∃ p, p = w4.heap.size := ⟨_, rfl⟩
  rw [← hYp] at nw5 ⊢
  replace VS := Lib.hid ((VS.out.below bw5).push nw5)
  replace HW := Lib.hid (HW.out.trans (bw5.mono HW.out.size))
  clear nw5 bw5 hYp IY
  refine (trimPrefix_any _ _ _).mono ?_
  rintro e w' ⟨rfl, rfl⟩
  have hD0 : Lib.trimPrefix S.data.toList [45] = dtext q X := by
    obtain ⟨c, cs, e1, -, e2, -⟩ := dtext_ne q hq2 hq36 X
    rw [HS.out]
    rw [if_neg (by have := HCS.out; omega), e1]
    simp [Lib.trimPrefix, Lib.hasPrefix, List.isPrefixOf, Ne.symm e2]
  obtain ⟨D, hD⟩ : ∃ D : ByteArray, D = ⟨(Lib.trimPrefix S.data.toList (ByteArray.mk #[45]).data.toList).toArray⟩ := ⟨_, rfl⟩
  have hDl : D.data.toList = dtext q X := by rw [hD]; exact hD0
  have hDs : D.size ≤ 256 := by rw [Lib.size_eq, hDl]; exact dtext_len q hq2 X 256 (by omega) HAB.out
  rw [← hD]
  have HDL := Lib.hid hDl
  clear hD hD0 hDl
  obtain ⟨Xc0, Xc1, -, -, Xl⟩ := (VS.out _ (.tail _ (.head _)))
  dsimp only at Xc0 Xc1 Xl
  go_wp2_with fail
  refine (sign_int _ _ _ _ _ _ X (VS.out _ (.tail _ (.head _))).it).mono ?_
  rintro e w6 ⟨rfl, b6⟩
  rw [HC.out]
  clear Xc0 Xc1 Xl
  replace VS := Lib.hid (VS.out.below b6)
  replace HW := Lib.hid (HW.out.trans (b6.mono HW.out.size))
  clear b6
  go_wp2_with fail
  refine (repeat_any _ k _ (by omega) (by show 1 * k ≤ _; omega)).mono ?_
  rintro e w7 ⟨rfl, b7⟩
  replace VS := Lib.hid (VS.out.below b7)
  replace HW := Lib.hid (HW.out.trans (b7.mono HW.out.size))
  clear b7
  obtain ⟨Z, hZ⟩ : ∃ Z : ByteArray, Z = ⟨(Lib.repeatL (ByteArray.mk #[48]).data.toList k).toArray⟩ := ⟨_, rfl⟩
  have hZl : Z.data.toList = List.replicate k 48 := by
    rw [hZ]
    have := Lib.repeatL_replicate 48 1 k
    simpa using this
  have hZs : Z.size ≤ 20 := by rw [Lib.size_eq, hZl, List.length_replicate]; omega
  rw [← hZ]
  have HZL := Lib.hid hZl
  clear hZ hZl
  go_wp2_with fail
  refine (lower_any D _ (by omega) (by
    intro j b hb
    rw [HDL.out] at hb
    exact (dtext_dig hq2 hq36 X b (List.mem_of_getElem? hb)).2)).mono ?_
  rintro e w8 ⟨rfl, b8⟩
  replace VS := Lib.hid (VS.out.below b8)
  replace HW := Lib.hid (HW.out.trans (b8.mono HW.out.size))
  clear b8
  obtain ⟨L, hL⟩ : ∃ L : ByteArray, L = ⟨(Lib.toLowerA D.data.toList).toArray⟩ := ⟨_, rfl⟩
  have hLl : L.data.toList = Lib.toLowerA (dtext q X) := by rw [hL, HDL.out]
  have hLs : L.size ≤ 256 := by rw [Lib.size_eq, hLl, Lib.toLowerA, List.length_map, ← HDL.out, ← Lib.size_eq]; exact hDs
  rw [← hL]
  have HLL := Lib.hid hLl
  clear hL hLl
  go_wp2_with fail
  refine (parse_mixed _ _ q hq2 hq36 X HAB.out k (by omega) (by
    simp only [ByteArray.data_append, Array.toList_append]
    rw [HZL.out, HLL.out]
    rw [if_neg (by have := HCS.out; simp; omega)]
    simp)).mono ?_
  rintro e w9 ⟨sz, az, nz, cz, zz, rfl, iz, gz, b9⟩
  have IZ := Lib.hid iz
  clear iz
  replace VS := Lib.hid (VS.out.below b9)
  replace HW := Lib.hid (HW.out.trans (b9.mono HW.out.size))
  clear b9
  go_wp2_with fail
  obtain ⟨wa, hwa⟩ : ∃ wa, wa = w9.alloc (.cells #[.bool sz, .slice az nz cz] 28) := ⟨_, rfl⟩
  have bwa : Below w9.heap.size w9 wa := by rw [hwa]; go_grown
  have nwa : BAt wa ⟨w9.heap.size, sz, az, nz, cz, zz, X⟩ := by rw [hwa]; exact BAt.new IZ.out (by omega)
  rw [← hwa]
  clear hwa
  obtain ⟨Zp, hZp⟩ : ∃ p, p = w9.heap.size := ⟨_, rfl⟩
  rw [← hZp] at nwa ⊢
  replace VS := Lib.hid ((VS.out.below bwa).push nwa)
  replace HW := Lib.hid (HW.out.trans (bwa.mono HW.out.size))
  clear nwa bwa hZp IZ
  refine (HT.out _ _ _ _ _ _ (VS.out _ (.head _)).it (by dsimp only; omega)).mono ?_
  rintro e wb ⟨rfl, bb⟩
  replace VS := Lib.hid (VS.out.below bb)
  replace HW := Lib.hid (HW.out.trans (bb.mono HW.out.size))
  clear bb
  obtain ⟨Xc0, Xc1, -, -, Xl⟩ := (VS.out _ (.tail _ (.tail _ (.head _))))
  dsimp only at Xc0 Xc1 Xl
  obtain ⟨Yc0, Yc1, -, -, Yl⟩ := (VS.out _ (.tail _ (.head _)))
  dsimp only at Yc0 Yc1 Yl
  obtain ⟨Zc0, Zc1, -, -, Zl⟩ := (VS.out _ (.head _))
  dsimp only at Zc0 Zc1 Zl
  have hmax : ∀ v : World, (Builtin.max_ #[31, 31, 31, 31] 31 #[.int .i64 0, .int .i64 0, .int .i64 0, .int .i64 0]).run Tryd.prog v = .ok (.int .i64 0) v := fun v => by kernel_rfl
  go_wp2_with fail
  refine (same_yes (VS.out _ (.tail _ (.head _))).it (VS.out _ (.tail _ (.tail _ (.head _)))).it rfl).mono ?_
  rintro e wc ⟨rfl, bc⟩
  clear Xc0 Xc1 Xl
  clear Yc0 Yc1 Yl
  clear Zc0 Zc1 Zl
  replace VS := Lib.hid (VS.out.below bc)
  replace HW := Lib.hid (HW.out.trans (bc.mono HW.out.size))
  clear bc
  obtain ⟨Xc0, Xc1, -, -, Xl⟩ := (VS.out _ (.tail _ (.tail _ (.head _))))
  dsimp only at Xc0 Xc1 Xl
  obtain ⟨Yc0, Yc1, -, -, Yl⟩ := (VS.out _ (.tail _ (.head _)))
  dsimp only at Yc0 Yc1 Yl
  obtain ⟨Zc0, Zc1, -, -, Zl⟩ := (VS.out _ (.head _))
  dsimp only at Zc0 Zc1 Zl
  go_wp2_with fail
  refine (same_yes (VS.out _ (.head _)).it (VS.out _ (.tail _ (.tail _ (.head _)))).it rfl).mono ?_
  rintro e wd ⟨rfl, bd⟩
  clear Xc0 Xc1 Xl
  clear Yc0 Yc1 Yl
  clear Zc0 Zc1 Zl
  replace VS := Lib.hid (VS.out.below bd)
  replace HW := Lib.hid (HW.out.trans (bd.mono HW.out.size))
  clear bd
  obtain ⟨Xc0, Xc1, -, -, Xl⟩ := (VS.out _ (.tail _ (.tail _ (.head _))))
  dsimp only at Xc0 Xc1 Xl
  obtain ⟨Yc0, Yc1, -, -, Yl⟩ := (VS.out _ (.tail _ (.head _)))
  dsimp only at Yc0 Yc1 Yl
  obtain ⟨Zc0, Zc1, -, -, Zl⟩ := (VS.out _ (.head _))
  dsimp only at Zc0 Zc1 Zl
  go_wp2_with fail
  refine (sign_int _ _ _ _ _ _ X (VS.out _ (.tail _ (.tail _ (.head _)))).it).mono ?_
  rintro e we ⟨rfl, be⟩
  rw [HC.out]
  clear Xc0 Xc1 Xl
  clear Yc0 Yc1 Yl
  clear Zc0 Zc1 Zl
  replace VS := Lib.hid (VS.out.below be)
  replace HW := Lib.hid (HW.out.trans (be.mono HW.out.size))
  clear be
  have hpS : Lib.hasPrefix S.data.toList (ByteArray.mk #[45]).data.toList = false := by
    obtain ⟨c, cs, e1, -, e2, -⟩ := dtext_ne q hq2 hq36 X
    rw [HS.out]
    rw [if_neg (by have := HCS.out; omega), e1]
    simp [Lib.hasPrefix, List.isPrefixOf, Ne.symm e2]
  have hne : dtext q X ≠ [48] := by
    intro e1
    have h1 := dtext_pval hq2 hq36 X
    rw [e1] at h1
    have h2 := HCS.out
    have h3 : pval (q : Int) [48] = 0 := by simp [pval, dv]
    omega
  have hDe : ¬ D.toList = [48] := by
    rw [ByteArray.toList_eq, HDL.out]; exact hne
  have hpD : Lib.hasPrefix D.data.toList (ByteArray.mk #[48]).data.toList = false := by
    obtain ⟨c, cs, e1, e0, -, -⟩ := dtext_ne q hq2 hq36 X
    rw [HDL.out, e1]
    have e3 : c ≠ 48 := fun h => hne (e0 h)
    simp [Lib.hasPrefix, List.isPrefixOf, Ne.symm e3]
  go_wp2_with fail
  refine (prefix_any _ _ _).mono ?_
  rintro e w' ⟨rfl, rfl⟩
  rw [hpS]
  clear hpS
  go_wp2_with fail
  refine (prefix_any _ _ _).mono ?_
  rintro e w' ⟨rfl, rfl⟩
  rw [hpD]
  clear hpD
  go_wp2_with fail
  refine (awake_any _).mono ?_
  rintro e wf ⟨rfl, bf⟩
  go_wp2_with fail
  go_ret
  exact ⟨rfl, HW.out.trans (bf.mono HW.out.size)⟩


theorem digits_law (w : World) (nx : Bool) (ax : Option Addr) (n1 c1 : Nat) (zx : List Int) (m n : Int) (hx : Sl w ax n1 c1 zx) (lx : Lim zx) (hm0 : 0 ≤ m) (hm : m ≤ 255) (hn0 : 0 ≤ n) (hn : n ≤ 255) :
    Calls Tryd.prog 3 #[.agg #[.bool nx, .slice ax n1 c1], .int .u8 m, .int .u8 n] w (RetV w (.bool true)) := by
  obtain ⟨ra, rfl⟩ := Int.eq_ofNat_of_zero_le hm0
  obtain ⟨ze, rfl⟩ := Int.eq_ofNat_of_zero_le hn0
  by_cases h : n1 ≤ 8
  · rcases Int.lt_trichotomy (sgn nx (val zx)) 0 with hc | hc | hc
    · exact digits_neg w nx ax n1 c1 ra ze zx hx lx (by omega) (by omega) h hc
    · exact digits_zero w nx ax n1 c1 ra ze zx hx lx (by omega) (by omega) h hc
    · exact digits_pos w nx ax n1 c1 ra ze zx hx lx (by omega) (by omega) h hc
  · exact digits_long w nx ax n1 c1 _ _ h
end Go.Proofs.YtkifebmlojdjnaaDoor
