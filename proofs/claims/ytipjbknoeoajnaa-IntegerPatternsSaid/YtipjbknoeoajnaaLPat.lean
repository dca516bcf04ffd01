/- IntegerPatterns: the walk. -/
import Derived.Test.YtipjbknoeoajnaaVars
import Derived.Test.YtipjbknoeoajnaaLBits
namespace Go.Proofs.Ytipjbknoeoajnaa
open Go.RowKit
set_option autoImplicit false
set_option linter.unusedVariables false

/-- Two integers were returned in a row. -/
def RetMade2 (w : World) (x y : Num) (X Y : Int) (e : Ending) (w' : World) : Prop :=
  ∃ (g cap : Nat) (r s : Num) (zr zs : List Int), e = .returned (.slice (some ⟨g, 0, none⟩) 2 cap) ∧ 2 ≤ cap ∧ cap ≤ maxLen ∧
    (w'.cell? ⟨g, 0, none⟩ = some (.bool r.neg) ∧ w'.cell? ⟨g, 1, none⟩ = some (.slice r.ao r.n r.cap) ∧ w'.cell? ⟨g, 2, none⟩ = some (.bool s.neg) ∧ w'.cell? ⟨g, 3, none⟩ = some (.slice s.ao s.n s.cap)) ∧
    IntAt w' r.neg r.ao r.n r.cap zr X ∧ IntAt w' s.neg s.ao s.n s.cap zs Y ∧ r.n ≤ x.n ∧ s.n ≤ y.n ∧ Below w.heap.size w w'

theorem made2 (w : World) (b : Nat) (x y : Num) (X Y : Int) (zx zy : List Int) (h : w.heap[b]? = some (.cells #[.bool x.neg, .slice x.ao x.n x.cap, .bool y.neg, .slice y.ao y.n y.cap] 24 (0, 0)))
    (hx : Sl w x.ao x.n x.cap zx ∧ Lim zx ∧ X = sgn x.neg (val zx) ∧ x.n ≤ 34359738368) (hy : Sl w y.ao y.n y.cap zy ∧ Lim zy ∧ Y = sgn y.neg (val zy) ∧ y.n ≤ 34359738368) :
    Calls Try.prog 64 #[.slice (some ⟨b, 0, none⟩) 2 2] w (RetMade2 w x y X Y) := by
  have hm := made_many w b 2 [x, y] (fun i => if i = 0 then X else Y) (fun i => if i = 0 then zx else zy) (nums2 h) (Array.getElem?_eq_some_iff.1 h).1 (by simp) (by omega) ?_
  · refine hm.mono ?_
    rintro e w' ⟨ao, cap, rs, rfl, hl, hown, hall, hb⟩
    match rs, hl with
    | [r, s], _ =>
      obtain ⟨h1, zr, h2⟩ := hall 0 r x rfl rfl
      obtain ⟨h3, zs, h4⟩ := hall 1 s y rfl rfl
      rcases hown.2 with ⟨hv, h0⟩ | ⟨g, c, cur, hv, hbg, hg, hnc, hcm, hcs, htk⟩
      · simp at h0
      · simp at hv
        obtain ⟨rfl, rfl⟩ := hv
        have hcell : ∀ i v, (flat [r, s])[i]? = some v → w'.cell? ⟨g, i, none⟩ = some v := by
          intro i v hv
          rw [← htk] at hv
          have hi : i < [x, y].length * 2 := by
            have := (List.getElem?_eq_some_iff.1 hv).1
            simp at this
            simp
            omega
          rw [List.getElem?_take, if_pos hi] at hv
          rw [cell_of_row _ g i cur _ (0, 0) hg]
          simpa using hv
        refine ⟨g, cap, r, s, zr, zs, rfl, hnc, hcm, ⟨hcell 0 _ rfl, hcell 1 _ rfl, hcell 2 _ rfl, hcell 3 _ rfl⟩, by simpa using h2, by simpa using h4, h1, h3, hb⟩
  · intro i u hu
    match i, hu with
    | 0, hu => simp at hu; subst hu; simpa using hx
    | 1, hu => simp at hu; subst hu; simpa using hy

theorem same_yes {w : World} {nx ny : Bool} {ao bo : Option Addr} {n m capa capb : Nat} {xs ys : List Int} {x y : Int} (hx : IntAt w nx ao n capa xs x) (hy : IntAt w ny bo m capb ys y) (h : x = y) :
    Calls Try.prog 65 #[.agg #[.bool nx, .slice ao n capa], .agg #[.bool ny, .slice bo m capb]] w (RetV w (.bool true)) := by
  have := same_int w nx ny ao bo n m capa capb xs ys x y hx hy
  rwa [decide_eq_true h] at this
theorem cell_top2 (w : World) (a : Obj) (u v : Value) (t : TypeId) : ((w.alloc a).alloc (.cells #[u, v] t)).drew.cell? ⟨w.heap.size + 1, 0, none⟩ = some u ∧ ((w.alloc a).alloc (.cells #[u, v] t)).drew.cell? ⟨w.heap.size + 1, 1, none⟩ = some v :=
  ⟨cell_of_row ((w.alloc a).alloc (.cells #[u, v] t)).drew (w.heap.size + 1) 0 #[u, v] t (0, 0) (heap_alloc2 w a _).1, cell_of_row ((w.alloc a).alloc (.cells #[u, v] t)).drew (w.heap.size + 1) 1 #[u, v] t (0, 0) (heap_alloc2 w a _).1⟩

set_option maxRecDepth 100000 in
theorem pat_long (w : World) (nx ny : Bool) (ax ay : Option Addr) (n1 c1 n2 c2 : Nat) (op size at' bit : Int) (h : ¬ (n1 ≤ 6 ∧ n2 ≤ 6)) :
    Calls Try.prog 13 #[.agg #[.bool nx, .slice ax n1 c1], .agg #[.bool ny, .slice ay n2 c2], .int .u8 op, .int .u8 size, .int .u8 at', .int .u16 bit] w (RetV w (.bool true)) := by
  have HD : Hid (decide (n1 ≤ 6 ∧ n2 ≤ 6) = false) := Lib.hid (decide_eq_false h)
  clear h
  go_enter Try.func13, Try.ntmps13
  go_wp2_with fail
  refine (shortTwo _ _ ⟨nx, ax, n1, c1⟩ ⟨ny, ay, n2, c2⟩ 6 (heap_alloc3 _ _ _ _)).mono ?_
  rintro e w1 ⟨rfl, hb1⟩
  rw [show decide (Num.n ⟨nx, ax, n1, c1⟩ ≤ 6 ∧ Num.n ⟨ny, ay, n2, c2⟩ ≤ 6) = false from HD.out]
  have hb2 : Below w.heap.size w w1 := Below.trans (by go_grown) (hb1.mono (by go_size))
  clear hb1
  go_wp2_with fail
  refine (awake_any _).mono ?_
  rintro e w2 ⟨rfl, hb3⟩
  go_wp2_with fail
  go_ret
  exact ⟨rfl, hb2.trans (hb3.mono hb2.size)⟩

theorem bit_nat (w : World) (nx : Bool) (ao : Option Addr) (n cap : Nat) (xs : List Int) (x : Int) (i : Nat) (hx : IntAt w nx ao n cap xs x) (hn : n ≤ 100000) (hi : i ≤ 1000) {b : Bool} (hb : bitZ x i = b) :
    Calls Try.prog 53 #[.agg #[.bool nx, .slice ao n cap], .int .i64 (i : Int)] w (RetV w (.bool b)) := by
  have := bit_any w nx ao n cap xs x i hx (by omega) (by omega)
  unfold bitI at this
  rw [if_neg (by omega), Int.toNat_natCast, hb] at this
  exact this
theorem tb_shift {o : Nat} {bX bY : Bool} {pr : Nat} (h : pr = 2 * bX.toNat + bY.toNat) (ho : o ≤ 15) : ∃ d : Int, bits BinOp.and IntKind.i64 ((o : Int) / 2 ^ pr) 1 = d ∧ (d == 1) = tb o bX bY := by
  refine ⟨_, rfl, ?_⟩
  have h1 : (0 : Int) ≤ (o : Int) / 2 ^ pr := Int.ediv_nonneg (by omega) (Int.le_of_lt (Int.pow_pos (by omega)))
  have h2 : (o : Int) / 2 ^ pr = ((o / 2 ^ pr : Nat) : Int) := by simp
  have h3 : o / 2 ^ pr ≤ o := Nat.div_le_self _ _
  obtain ⟨q, hq⟩ : ∃ q, o / 2 ^ pr = q := ⟨_, rfl⟩
  rw [hq] at h2 h3
  rw [and1_i64 _ h1 (by omega), h2]
  unfold tb
  rw [← h, hq, Bool.eq_iff_iff]
  simp
  omega

theorem ite_prop_pos {c : Prop} [Decidable c] {A B : Prop} (hc : c) (h : A) : if c then A else B := by rw [if_pos hc]; exact h

set_option maxRecDepth 100000 in
set_option maxHeartbeats 4000000 in
theorem pat_short (w : World) (nx ny : Bool) (ax ay : Option Addr) (n1 c1 n2 c2 : Nat) (op size at' bit : Nat) (zx zy : List Int) (hx : Sl w ax n1 c1 zx) (lx : Lim zx) (hy : Sl w ay n2 c2 zy) (ly : Lim zy)
    (ho : op ≤ 255) (hs : size ≤ 255) (ha : at' ≤ 255) (hbt : bit ≤ 65535) (h : n1 ≤ 6 ∧ n2 ≤ 6) :
    Calls Try.prog 13 #[.agg #[.bool nx, .slice ax n1 c1], .agg #[.bool ny, .slice ay n2 c2], .int .u8 (op : Int), .int .u8 (size : Int), .int .u8 (at' : Int), .int .u16 (bit : Int)] w (RetV w (.bool true)) := by
  have HD : Hid (decide (n1 ≤ 6 ∧ n2 ≤ 6) = true) := Lib.hid (decide_eq_true h)
  obtain ⟨h1, h2⟩ := h
  have HX := Lib.hid hx
  have HY := Lib.hid hy
  clear hx hy
  go_enter Try.func13, Try.ntmps13
  go_wp2_with fail
  refine (shortTwo _ _ ⟨nx, ax, n1, c1⟩ ⟨ny, ay, n2, c2⟩ 6 (heap_alloc3 _ _ _ _)).mono ?_
  rintro e w1 ⟨rfl, hb1⟩
  rw [show decide (Num.n ⟨nx, ax, n1, c1⟩ ≤ 6 ∧ Num.n ⟨ny, ay, n2, c2⟩ ≤ 6) = true from HD.out]
  have hb2 : Below w.heap.size w w1 := Below.trans (by go_grown) (hb1.mono (by go_size))
  obtain ⟨k1, k2, -⟩ := three_rows w (.cells #[.bool nx, .slice ax n1 c1] 24) (.cells #[.bool ny, .slice ay n2 c2] 24) (.cells #[.bool nx, .slice ax n1 c1, .bool ny, .slice ay n2 c2] 24)
  obtain ⟨x0, x1, -, -⟩ := blk2 ((hb1.block w.heap.size (by go_size)).trans k1)
  obtain ⟨y0, y1, -, -⟩ := blk2 ((hb1.block (w.heap.size + 1) (by go_size)).trans k2)
  clear hb1 k1 k2 HD
  go_wp2_with fail
  refine (made2 _ w1.heap.size ⟨nx, ax, n1, c1⟩ ⟨ny, ay, n2, c2⟩ _ _ zx zy (heap_alloc_new _ _) ⟨HX.out.below (hb2.alloc hb2.size _), lx, rfl, by dsimp only; omega⟩ ⟨HY.out.below (hb2.alloc hb2.size _), ly, rfl, by dsimp only; omega⟩).mono ?_
  rintro e w2 ⟨g, cap, ⟨sx, bx, m1, k1⟩, ⟨sy, by', m2, k2⟩, zr, zs, rfl, hcap, hmx, ⟨g0, g1, g2, g3⟩, ix, iy, lx1, ly1, hb3⟩
  dsimp only at g0 g1 g2 g3 ix iy lx1 ly1
  obtain ⟨X, hX⟩ : ∃ X, X = sgn nx (val zx) := ⟨_, rfl⟩
  obtain ⟨Y, hY⟩ : ∃ Y, Y = sgn ny (val zy) := ⟨_, rfl⟩
  rw [← hX] at ix
  rw [← hY] at iy
  have IX := Lib.hid ix
  have IY := Lib.hid iy
  have HW := Lib.hid (show Below w.heap.size w w2 from (hb2.alloc hb2.size _).trans (hb3.mono (by have := hb2.size; simp; omega)))
  have hm1 : m1 ≤ 6 := by omega
  have hm2 : m2 ≤ 6 := by omega
  clear ix iy hX hY hb2 hb3 x0 x1 y0 y1 HX HY lx1 ly1 lx ly
  go_wp2_with fail
  have hg : g < w2.heap.size := World.block_lt_of_cell? w2 _ g0
  have e0 : g ≠ w2.heap.size := by omega
  have e1 : g ≠ w2.heap.size + 1 := by omega
  go_cut [14, 15] (fun p q wx => ∃ b1 b2 : Nat, p = .pointer (some ⟨b1, 0, none⟩) ∧ q = .pointer (some ⟨b2, 0, none⟩) ∧
    (wx.cell? ⟨b1, 0, none⟩ = some (.bool sx) ∧ wx.cell? ⟨b1, 1, none⟩ = some (.slice bx m1 k1) ∧ wx.cell? ⟨b2, 0, none⟩ = some (.bool sy) ∧ wx.cell? ⟨b2, 1, none⟩ = some (.slice by' m2 k2)) ∧ Below w2.heap.size w2 wx)
  case first =>
    as_aux_lemma =>
      go_region_held3 (fun w' => w'.cell? ⟨g, 0, none⟩ = some (.bool sx) ∧ w'.cell? ⟨g, 1, none⟩ = some (.slice bx m1 k1) ∧ w'.cell? ⟨g, 2, none⟩ = some (.bool sy) ∧ w'.cell? ⟨g, 3, none⟩ = some (.slice by' m2 k2)) (((try dsimp only); (repeat' apply And.intro) <;> (first | (go_keep; done) | (simp (maxDischargeDepth := 12) [*, World.cell?_alloc_some, World.cell?_setCell_far]; done) | (simp (maxDischargeDepth := 12) [g0, g1, g2, g3, e0, e1, e0.symm, e1.symm, World.cell?_alloc_some, World.cell?_setCell_far]; done)))) (fail)
      all_goals (go_wp2; go_meet; (refine ⟨_, _, rfl, rfl, ⟨?_, ?_, ?_, ?_⟩, ?_⟩ <;> first | (exact (cell_top2 _ _ _ _ _).1) | (exact (cell_top2 _ _ _ _ _).2) | (go_keep; done) | go_grown))
  case rest =>
    obtain ⟨b1, b2, rfl, rfl, ⟨q0, q1, q2, q3⟩, hbwa⟩ := hcut
    rename World => wa
    have VS : Hid (Vars wa [⟨b1, sx, bx, m1, k1, zr, X⟩, ⟨b2, sy, by', m2, k2, zs, Y⟩]) := Lib.hid (by
      intro v hv
      simp at hv
      rcases hv with rfl | rfl
      · exact ⟨q0, q1, IX.out.below hbwa, by dsimp only; omega, World.block_lt_of_cell? wa _ q0⟩
      · exact ⟨q2, q3, IY.out.below hbwa, by dsimp only; omega, World.block_lt_of_cell? wa _ q2⟩)
    replace HW := Lib.hid (HW.out.trans (hbwa.mono HW.out.size))
    clear q0 q1 q2 q3 hbwa IX IY g0 g1 g2 g3 hg e0 e1
    obtain ⟨Xc0, Xc1, -, -, Xl⟩ := VS.out _ (.head _)
    dsimp only at Xc0 Xc1 Xl
    obtain ⟨Yc0, Yc1, -, -, Yl⟩ := VS.out _ (.tail _ (.head _))
    dsimp only at Yc0 Yc1 Yl
    go_wp2_with fail
    clear Xc0 Xc1 Xl
    clear Yc0 Yc1 Yl
    refine (boole_bits _ _ _ _ _ _ _ _ _ _ _ _ _ 6 (show IntAt wa sx bx m1 k1 zr X from (VS.out _ (.head _)).it) (show IntAt wa sy by' m2 k2 zs Y from (VS.out _ (.tail _ (.head _))).it) (by omega) (by omega) (by omega)).mono ?_
    rintro e wc1 ⟨sxo, axo, nxo, cpxo, zxo, P1, rfl, ixo, f1, gxo, hbwc1⟩
    have Ixo := Lib.hid ixo
    clear ixo
    have F1 := Lib.hid f1
    clear f1
    replace VS := Lib.hid (VS.out.below hbwc1)
    replace HW := Lib.hid (HW.out.trans (hbwc1.mono HW.out.size))
    clear hbwc1
    obtain ⟨Xc0, Xc1, -, -, Xl⟩ := VS.out _ (.head _)
    dsimp only at Xc0 Xc1 Xl
    obtain ⟨Yc0, Yc1, -, -, Yl⟩ := VS.out _ (.tail _ (.head _))
    dsimp only at Yc0 Yc1 Yl
    go_wp2_with fail
    obtain ⟨wg2, hwg2⟩ : ∃ wg2, wg2 = wc1.alloc (.cells #[.bool sxo, .slice axo nxo cpxo] 28) := ⟨_, rfl⟩
    have bwg2 : Below wc1.heap.size wc1 wg2 := by rw [hwg2]; go_grown
    have nwg2 : BAt wg2 ⟨wc1.heap.size, sxo, axo, nxo, cpxo, zxo, P1⟩ := by rw [hwg2]; exact BAt.new Ixo.out (by omega)
    rw [← hwg2]
    clear hwg2
    obtain ⟨xop, hxop⟩ : ∃ p, p = wc1.heap.size := ⟨_, rfl⟩
    rw [← hxop] at nwg2 ⊢
    replace VS := Lib.hid ((VS.out.below bwg2).push nwg2)
    replace HW := Lib.hid (HW.out.trans (bwg2.mono HW.out.size))
    clear Xc0 Xc1 Xl
    clear Yc0 Yc1 Yl
    clear nwg2 bwg2 hxop Ixo
    refine (boole_bits _ _ _ _ _ _ _ _ _ _ _ _ _ 8 (show IntAt wg2 sx bx m1 k1 zr X from (VS.out _ (.tail _ (.head _))).it) (show IntAt wg2 sy by' m2 k2 zs Y from (VS.out _ (.tail _ (.tail _ (.head _)))).it) (by omega) (by omega) (by omega)).mono ?_
    rintro e wc3 ⟨san, aan, nan, cpan, zan, P2, rfl, ian, f2, gan, hbwc3⟩
    have Ian := Lib.hid ian
    clear ian
    have F2 := Lib.hid f2
    clear f2
    replace VS := Lib.hid (VS.out.below hbwc3)
    replace HW := Lib.hid (HW.out.trans (hbwc3.mono HW.out.size))
    clear hbwc3
    obtain ⟨Xc0, Xc1, -, -, Xl⟩ := VS.out _ (.tail _ (.head _))
    dsimp only at Xc0 Xc1 Xl
    go_wp2_with fail
    obtain ⟨wg4, hwg4⟩ : ∃ wg4, wg4 = wc3.alloc (.cells #[.bool san, .slice aan nan cpan] 28) := ⟨_, rfl⟩
    have bwg4 : Below wc3.heap.size wc3 wg4 := by rw [hwg4]; go_grown
    have nwg4 : BAt wg4 ⟨wc3.heap.size, san, aan, nan, cpan, zan, P2⟩ := by rw [hwg4]; exact BAt.new Ian.out (by omega)
    rw [← hwg4]
    clear hwg4
    obtain ⟨anp, hanp⟩ : ∃ p, p = wc3.heap.size := ⟨_, rfl⟩
    rw [← hanp] at nwg4 ⊢
    replace VS := Lib.hid ((VS.out.below bwg4).push nwg4)
    replace HW := Lib.hid (HW.out.trans (bwg4.mono HW.out.size))
    clear Xc0 Xc1 Xl
    clear nwg4 bwg4 hanp Ian
    have HX4 := Lib.hid (show IntAt wg4 sx bx m1 k1 zr X from (VS.out _ (.tail _ (.tail _ (.head _)))).it)
    obtain ⟨Xc0, Xc1, -, -, Xl⟩ := VS.out _ (.tail _ (.tail _ (.head _)))
    dsimp only at Xc0 Xc1 Xl
    have HKP : Hid (∀ w', Below wg4.heap.size wg4 w' → (w'.cell? ⟨b1, 0, none⟩ = some (.bool sx) ∧ w'.cell? ⟨b1, 1, none⟩ = some (.slice bx m1 k1))) := Lib.hid (fun w' hb => ⟨(hb.cell (p := ⟨b1, 0, none⟩) Xl).trans Xc0, (hb.cell (p := ⟨b1, 1, none⟩) Xl).trans Xc1⟩)
    clear Xc0 Xc1 Xl
    go_cut [22] (fun p wx => ∃ (b : Nat) (neg : Bool) (ao : Option Addr) (n cp : Nat) (z : List Int), p = .pointer (some ⟨b, 0, none⟩) ∧ BAt wx ⟨b, neg, ao, n, cp, z, -1 - X⟩ ∧ Below wg4.heap.size wg4 wx)
    case first =>
      as_aux_lemma =>
        refine wp_region_noPanic ?_
        refine wp_region_held_drew (S := (fun w' => w'.cell? ⟨b1, 0, none⟩ = some (.bool sx) ∧ w'.cell? ⟨b1, 1, none⟩ = some (.slice bx m1 k1))) (by kernel_rfl) ?_ (fun hH0 => ?_)
        · exact HKP.out _ (Below.refl _ _).drew
        refine wpAnyH_take (i := 1) (oi := ({ dst := some 70, op := Op.load 28 (Operand.tmp 14), type := 28, pos := "more.go:103", after := #[], guard := none } : Oper)) (v := ?_) rfl (by kernel_rfl) (by kernel_rfl) (by kernel_rfl) (fun _ _ _ h => h) (Or.inl ⟨by rfl, ?_⟩) (by assumption) ?_
        rotate_left
        · (intro w hSw; (try dsimp only at hSw); go_simp; try with_reducible rfl)
        (try simp only [Act.put, List.setIfInBounds_toArray, List.set_cons_zero, List.set_cons_succ])
        refine wpAnyH_ready (rs := [0, 3]) (by kernel_rfl) (by simp) ?_
        refine (AllReadyH.cons (o := ({ dst := some 69, op := Op.call { callee := Callee.value (Operand.func 17), args := #[Operand.const (Value.int IntKind.i64 (-1))], argTypes := #[2] }, type := 28, pos := "more.go:103", after := #[], guard := none } : Oper)) rfl (fun K hK => ?_) (AllReadyH.cons (o := ({ dst := some 22, op := Op.alloc 28, type := 0, pos := "more.go:103", after := #[], guard := none } : Oper)) rfl (fun K hK => ?_) AllReadyH.nil))
        · go_simp
          refine (new_int _ (-1) (by omega) (by omega)).mono ?_
          rintro e v1 ⟨nA, aA, kA, cA, zA, rfl, iA, gA, uA⟩
          have X1 : Below wg4.heap.size wg4 v1 := Below.trans (Below.refl _ _).drew (uA.mono (by first | exact Nat.le_refl _ | simp))
          have IA := Lib.hid iA
          clear iA uA
          refine hK.out _ _ ?_ (fun hH1 => ?_)
          · exact HKP.out _ X1
          clear hK K hH0
          (try simp only [Act.put, List.setIfInBounds_toArray, List.set_cons_zero, List.set_cons_succ])
          refine wpAnyH_ready (rs := [2, 3]) (by kernel_rfl) (by simp) ?_
          refine (AllReadyH.cons (o := ({ dst := some 71, op := Op.call { callee := Callee.value (Operand.func 40), args := #[Operand.tmp 69, Operand.tmp 70], argTypes := #[28, 28] }, type := 28, pos := "more.go:103", after := #[{ on := 0, ground := Ground.data }, { on := 1, ground := Ground.data }, { on := 0, ground := Ground.chain }], guard := none } : Oper)) rfl (fun K hK => ?_) (AllReadyH.cons (o := ({ dst := some 22, op := Op.alloc 28, type := 0, pos := "more.go:103", after := #[], guard := none } : Oper)) rfl (fun K hK => ?_) AllReadyH.nil))
          · go_simp
            refine (sub_int _ _ _ _ _ _ _ _ _ _ _ (-1) X (IA.out) (HX4.out.below X1) (by omega) (by omega)).mono ?_
            rintro e v2 ⟨nB, aB, kB, cB, zB, rfl, iB, gB, uB⟩
            have X2 : Below wg4.heap.size wg4 v2 := X1.trans (uB.mono X1.size)
            have IB := Lib.hid iB
            clear iB uB
            refine hK.out _ _ ?_ (fun hH2 => ?_)
            · exact HKP.out _ X2
            clear hK K hH1
            (try simp only [Act.put, List.setIfInBounds_toArray, List.set_cons_zero, List.set_cons_succ])
            refine wpAnyH_ready (rs := [3]) (by kernel_rfl) (by simp) ?_
            refine (AllReadyH.cons (o := ({ dst := some 22, op := Op.alloc 28, type := 0, pos := "more.go:103", after := #[], guard := none } : Oper)) rfl (fun K hK => ?_) AllReadyH.nil)
            go_simp
            refine hK.out _ _ ?_ (fun hH3 => ?_)
            · exact HKP.out _ (X2.alloc X2.size _)
            clear hK K hH2
            (try simp only [Act.put, List.setIfInBounds_toArray, List.set_cons_zero, List.set_cons_succ])
            refine wpAnyH_ready (rs := [4]) (by kernel_rfl) (by simp) ?_
            refine (AllReadyH.cons (o := ({ dst := none, op := Op.store 28 (Operand.tmp 22) (Operand.tmp 71), type := 0, pos := "more.go:103", after := #[{ on := 3, ground := Ground.data }, { on := 2, ground := Ground.data }, { on := 2, ground := Ground.chain }, { on := 0, ground := Ground.phase }, { on := 1, ground := Ground.phase }, { on := 2, ground := Ground.phase }, { on := 3, ground := Ground.phase }], guard := none } : Oper)) rfl (fun K hK => ?_) AllReadyH.nil)
            go_simp
            refine hK.out _ _ ?_ (fun hH4 => ?_)
            · exact HKP.out _ (X2.alloc X2.size _)
            clear hK K hH3
            (try simp only [Act.put, List.setIfInBounds_toArray, List.set_cons_zero, List.set_cons_succ])
            refine wpAnyH_done (by kernel_rfl) ?_ _
            refine NoPanic.normal ?_
            go_wp2
            go_meet
            exact ⟨_, _, _, _, _, _, rfl, BAt.new IB.out (by omega), X2.alloc X2.size _⟩
          · go_simp
            refine hK.out _ _ ?_ (fun hH2 => ?_)
            · exact HKP.out _ (X1.alloc X1.size _)
            clear hK K hH1
            (try simp only [Act.put, List.setIfInBounds_toArray, List.set_cons_zero, List.set_cons_succ])
            refine wpAnyH_ready (rs := [2]) (by kernel_rfl) (by simp) ?_
            refine (AllReadyH.cons (o := ({ dst := some 71, op := Op.call { callee := Callee.value (Operand.func 40), args := #[Operand.tmp 69, Operand.tmp 70], argTypes := #[28, 28] }, type := 28, pos := "more.go:103", after := #[{ on := 0, ground := Ground.data }, { on := 1, ground := Ground.data }, { on := 0, ground := Ground.chain }], guard := none } : Oper)) rfl (fun K hK => ?_) AllReadyH.nil)
            go_simp
            refine (sub_int _ _ _ _ _ _ _ _ _ _ _ (-1) X (IA.out.below ((Below.refl _ _).alloc (Nat.le_refl _) _)) (HX4.out.below (X1.alloc X1.size _)) (by omega) (by omega)).mono ?_
            rintro e v2 ⟨nB, aB, kB, cB, zB, rfl, iB, gB, uB⟩
            have X2 : Below wg4.heap.size wg4 v2 := (X1.alloc X1.size _).trans (uB.mono (X1.alloc X1.size _).size)
            have IB := Lib.hid iB
            have row : v2.heap[v1.heap.size]? = some (.cells #[.bool false, .slice none 0 0] 28 (0, 0)) := (uB.block v1.heap.size (by simp)).trans (heap_alloc_new v1 _)
            obtain ⟨t0, t1, q0, q1⟩ := blk2 row
            clear iB uB
            refine hK.out _ _ ?_ (fun hH3 => ?_)
            · exact HKP.out _ X2
            clear hK K hH2
            (try simp only [Act.put, List.setIfInBounds_toArray, List.set_cons_zero, List.set_cons_succ])
            refine wpAnyH_ready (rs := [4]) (by kernel_rfl) (by simp) ?_
            refine (AllReadyH.cons (o := ({ dst := none, op := Op.store 28 (Operand.tmp 22) (Operand.tmp 71), type := 0, pos := "more.go:103", after := #[{ on := 3, ground := Ground.data }, { on := 2, ground := Ground.data }, { on := 2, ground := Ground.chain }, { on := 0, ground := Ground.phase }, { on := 1, ground := Ground.phase }, { on := 2, ground := Ground.phase }, { on := 3, ground := Ground.phase }], guard := none } : Oper)) rfl (fun K hK => ?_) AllReadyH.nil)
            go_simp
            refine hK.out _ _ ?_ (fun hH4 => ?_)
            · exact HKP.out _ ((X2.setCell (p := ⟨v1.heap.size, 0, none⟩) (X1.size) _).setCell (p := ⟨v1.heap.size, 1, none⟩) (X1.size) _)
            clear hK K hH3
            (try simp only [Act.put, List.setIfInBounds_toArray, List.set_cons_zero, List.set_cons_succ])
            refine wpAnyH_done (by kernel_rfl) ?_ _
            refine NoPanic.normal ?_
            go_wp2
            go_meet
            exact ⟨_, _, _, _, _, _, rfl, BAt.put IB.out (by omega) row, (X2.setCell (p := ⟨v1.heap.size, 0, none⟩) (X1.size) _).setCell (p := ⟨v1.heap.size, 1, none⟩) (X1.size) _⟩
        · go_simp
          refine hK.out _ _ ?_ (fun hH1 => ?_)
          · exact HKP.out _ ((Below.refl _ _).drew.alloc (Nat.le_refl _) _)
          clear hK K hH0
          (try simp only [Act.put, List.setIfInBounds_toArray, List.set_cons_zero, List.set_cons_succ])
          refine wpAnyH_ready (rs := [0]) (by kernel_rfl) (by simp) ?_
          refine (AllReadyH.cons (o := ({ dst := some 69, op := Op.call { callee := Callee.value (Operand.func 17), args := #[Operand.const (Value.int IntKind.i64 (-1))], argTypes := #[2] }, type := 28, pos := "more.go:103", after := #[], guard := none } : Oper)) rfl (fun K hK => ?_) AllReadyH.nil)
          go_simp
          refine (new_int _ (-1) (by omega) (by omega)).mono ?_
          rintro e v1 ⟨nA, aA, kA, cA, zA, rfl, iA, gA, uA⟩
          have X1 : Below wg4.heap.size wg4 v1 := Below.trans ((Below.refl _ _).drew.alloc (Nat.le_refl _) _) (uA.mono (by first | exact Nat.le_refl _ | simp))
          have IA := Lib.hid iA
          have row : v1.heap[wg4.heap.size]? = some (.cells #[.bool false, .slice none 0 0] 28 (0, 0)) := (uA.block wg4.heap.size (by simp)).trans (heap_alloc_new wg4.drew _)
          clear iA uA
          refine hK.out _ _ ?_ (fun hH2 => ?_)
          · exact HKP.out _ X1
          clear hK K hH1
          (try simp only [Act.put, List.setIfInBounds_toArray, List.set_cons_zero, List.set_cons_succ])
          refine wpAnyH_ready (rs := [2]) (by kernel_rfl) (by simp) ?_
          refine (AllReadyH.cons (o := ({ dst := some 71, op := Op.call { callee := Callee.value (Operand.func 40), args := #[Operand.tmp 69, Operand.tmp 70], argTypes := #[28, 28] }, type := 28, pos := "more.go:103", after := #[{ on := 0, ground := Ground.data }, { on := 1, ground := Ground.data }, { on := 0, ground := Ground.chain }], guard := none } : Oper)) rfl (fun K hK => ?_) AllReadyH.nil)
          go_simp
          refine (sub_int _ _ _ _ _ _ _ _ _ _ _ (-1) X (IA.out) (HX4.out.below X1) (by omega) (by omega)).mono ?_
          rintro e v2 ⟨nB, aB, kB, cB, zB, rfl, iB, gB, uB⟩
          have X2 : Below wg4.heap.size wg4 v2 := X1.trans (uB.mono X1.size)
          have IB := Lib.hid iB
          replace row : v2.heap[wg4.heap.size]? = some (.cells #[.bool false, .slice none 0 0] 28 (0, 0)) := (uB.block wg4.heap.size (World.block_lt_of_cell? _ _ (blk2 row).1)).trans row
          obtain ⟨t0, t1, q0, q1⟩ := blk2 row
          clear iB uB
          refine hK.out _ _ ?_ (fun hH3 => ?_)
          · exact HKP.out _ X2
          clear hK K hH2
          (try simp only [Act.put, List.setIfInBounds_toArray, List.set_cons_zero, List.set_cons_succ])
          refine wpAnyH_ready (rs := [4]) (by kernel_rfl) (by simp) ?_
          refine (AllReadyH.cons (o := ({ dst := none, op := Op.store 28 (Operand.tmp 22) (Operand.tmp 71), type := 0, pos := "more.go:103", after := #[{ on := 3, ground := Ground.data }, { on := 2, ground := Ground.data }, { on := 2, ground := Ground.chain }, { on := 0, ground := Ground.phase }, { on := 1, ground := Ground.phase }, { on := 2, ground := Ground.phase }, { on := 3, ground := Ground.phase }], guard := none } : Oper)) rfl (fun K hK => ?_) AllReadyH.nil)
          go_simp
          refine hK.out _ _ ?_ (fun hH4 => ?_)
          · exact HKP.out _ ((X2.setCell (p := ⟨wg4.heap.size, 0, none⟩) (Nat.le_refl _) _).setCell (p := ⟨wg4.heap.size, 1, none⟩) (Nat.le_refl _) _)
          clear hK K hH3
          (try simp only [Act.put, List.setIfInBounds_toArray, List.set_cons_zero, List.set_cons_succ])
          refine wpAnyH_done (by kernel_rfl) ?_ _
          refine NoPanic.normal ?_
          go_wp2
          go_meet
          exact ⟨_, _, _, _, _, _, rfl, BAt.put IB.out (by omega) row, (X2.setCell (p := ⟨wg4.heap.size, 0, none⟩) (Nat.le_refl _) _).setCell (p := ⟨wg4.heap.size, 1, none⟩) (Nat.le_refl _) _⟩
    case rest =>
      obtain ⟨b3, so, ao3, no3, co3, zo3, rfl, hbat, hbw⟩ := hcut
      rename World => wb
      have gno : no3 ≤ 100000 := hbat.small
      replace VS := Lib.hid ((VS.out.below hbw).push hbat)
      replace HW := Lib.hid (HW.out.trans (hbw.mono HW.out.size))
      clear hbat hbw HX4 HKP
      go_wp2_with fail
      go_cut [103] (fun p wx => p = .bool false ∧ Below wb.heap.size wb wx)
      case first =>
        as_aux_lemma =>
          have HKP : Hid (∀ w', Below wb.heap.size wb w' → (w'.cell? ⟨xop, 0, none⟩ = some (.bool sxo) ∧ w'.cell? ⟨xop, 1, none⟩ = some (.slice axo nxo cpxo) ∧ w'.cell? ⟨anp, 0, none⟩ = some (.bool san) ∧ w'.cell? ⟨anp, 1, none⟩ = some (.slice aan nan cpan) ∧ w'.cell? ⟨b1, 0, none⟩ = some (.bool sx) ∧ w'.cell? ⟨b1, 1, none⟩ = some (.slice bx m1 k1) ∧ w'.cell? ⟨b2, 0, none⟩ = some (.bool sy) ∧ w'.cell? ⟨b2, 1, none⟩ = some (.slice by' m2 k2) ∧ w'.cell? ⟨b3, 0, none⟩ = some (.bool so) ∧ w'.cell? ⟨b3, 1, none⟩ = some (.slice ao3 no3 co3))) := Lib.hid (fun w' hb => by
            have hxo := (VS.out _ (.tail _ (.tail _ (.head _)))).below hb
            have han := (VS.out _ (.tail _ (.head _))).below hb
            have hX := (VS.out _ (.tail _ (.tail _ (.tail _ (.head _))))).below hb
            have hY := (VS.out _ (.tail _ (.tail _ (.tail _ (.tail _ (.head _)))))).below hb
            have hot := (VS.out _ (.head _)).below hb
            exact ⟨hxo.c0, hxo.c1, han.c0, han.c1, hX.c0, hX.c1, hY.c0, hY.c1, hot.c0, hot.c1⟩)
          have HXO := Lib.hid (show IntAt wb sxo axo nxo cpxo zxo P1 from (VS.out _ (.tail _ (.tail _ (.head _)))).it)
          have HAN := Lib.hid (show IntAt wb san aan nan cpan zan P2 from (VS.out _ (.tail _ (.head _))).it)
          have HXX := Lib.hid (show IntAt wb sx bx m1 k1 zr X from (VS.out _ (.tail _ (.tail _ (.tail _ (.head _))))).it)
          have HYY := Lib.hid (show IntAt wb sy by' m2 k2 zs Y from (VS.out _ (.tail _ (.tail _ (.tail _ (.tail _ (.head _)))))).it)
          obtain ⟨LX, hLX⟩ : ∃ L, blen (cpl X).toNat = L := ⟨_, rfl⟩
          obtain ⟨CX, hCX⟩ : ∃ C, pops (cpl X).toNat = C := ⟨_, rfl⟩
          have HLO : Hid (∀ w', Below wb.heap.size wb w' → Calls Try.prog 26 #[.agg #[.bool so, .slice ao3 no3 co3]] w' (RetV w' (.int .i64 (LX : Int)))) := Lib.hid (fun w' hb => by have h := length_any w' _ _ _ _ _ _ ((show IntAt wb so ao3 no3 co3 zo3 (-1 - X) from (VS.out _ (.head _)).it).below hb) (by omega); rw [cpl_flip, hLX] at h; exact h)
          have HLX : Hid (∀ w', Below wb.heap.size wb w' → Calls Try.prog 26 #[.agg #[.bool sx, .slice bx m1 k1]] w' (RetV w' (.int .i64 (LX : Int)))) := Lib.hid (fun w' hb => by have h := length_any w' _ _ _ _ _ _ ((show IntAt wb sx bx m1 k1 zr X from (VS.out _ (.tail _ (.tail _ (.tail _ (.head _))))).it).below hb) (by omega); rw [hLX] at h; exact h)
          have HCO : Hid (∀ w', Below wb.heap.size wb w' → Calls Try.prog 28 #[.agg #[.bool so, .slice ao3 no3 co3]] w' (RetV w' (.int .i64 (CX : Int)))) := Lib.hid (fun w' hb => by have h := count_any w' _ _ _ _ _ _ ((show IntAt wb so ao3 no3 co3 zo3 (-1 - X) from (VS.out _ (.head _)).it).below hb) (by omega); rw [cpl_flip, hCX] at h; exact h)
          have HCX : Hid (∀ w', Below wb.heap.size wb w' → Calls Try.prog 28 #[.agg #[.bool sx, .slice bx m1 k1]] w' (RetV w' (.int .i64 (CX : Int)))) := Lib.hid (fun w' hb => by have h := count_any w' _ _ _ _ _ _ ((show IntAt wb sx bx m1 k1 zr X from (VS.out _ (.tail _ (.tail _ (.tail _ (.head _))))).it).below hb) (by omega); rw [hCX] at h; exact h)
          have HXA : Hid (P1 + P2 + P2 = X + Y) := Lib.hid (xor_and F1.out F2.out)
          clear hLX hCX F1 F2
          go_region_held3 (fun w' => w'.cell? ⟨xop, 0, none⟩ = some (.bool sxo) ∧ w'.cell? ⟨xop, 1, none⟩ = some (.slice axo nxo cpxo) ∧ w'.cell? ⟨anp, 0, none⟩ = some (.bool san) ∧ w'.cell? ⟨anp, 1, none⟩ = some (.slice aan nan cpan) ∧ w'.cell? ⟨b1, 0, none⟩ = some (.bool sx) ∧ w'.cell? ⟨b1, 1, none⟩ = some (.slice bx m1 k1) ∧ w'.cell? ⟨b2, 0, none⟩ = some (.bool sy) ∧ w'.cell? ⟨b2, 1, none⟩ = some (.slice by' m2 k2) ∧ w'.cell? ⟨b3, 0, none⟩ = some (.bool so) ∧ w'.cell? ⟨b3, 1, none⟩ = some (.slice ao3 no3 co3)) ((first | exact HKP.out _ Xq8 | exact HKP.out _ Xq7 | exact HKP.out _ Xq6 | exact HKP.out _ Xq5 | exact HKP.out _ Xq4 | exact HKP.out _ Xq3 | exact HKP.out _ Xq2 | exact HKP.out _ Xq1 | exact HKP.out _ (Below.refl _ _).drew))
            (first | (go_at_call 28; have Tq8 := Xq7; clear Tq8; refine (HCX.out _ Xq7).mono ?_; rintro e vq8 ⟨rfl, uq8⟩; have Xq8 : Below wb.heap.size wb vq8 := Xq7.trans (uq8.mono Xq7.size)) | (go_at_call 28; have Tq7 := Xq6; clear Tq7; refine (HCO.out _ Xq6).mono ?_; rintro e vq7 ⟨rfl, uq7⟩; have Xq7 : Below wb.heap.size wb vq7 := Xq6.trans (uq7.mono Xq6.size)) | (go_at_call 26; have Tq6 := Xq5; clear Tq6; refine (HLX.out _ Xq5).mono ?_; rintro e vq6 ⟨rfl, uq6⟩; have Xq6 : Below wb.heap.size wb vq6 := Xq5.trans (uq6.mono Xq5.size)) | (go_at_call 26; have Tq5 := Xq4; clear Tq5; refine (HLO.out _ Xq4).mono ?_; rintro e vq5 ⟨rfl, uq5⟩; have Xq5 : Below wb.heap.size wb vq5 := Xq4.trans (uq5.mono Xq4.size)) | (go_at_call 65; have Tq4 := Xq3; clear Tq4; refine (same_yes (IC2.out.below UC3.out) IC3.out HXA.out).mono ?_; rintro e vq4 ⟨rfl, uq4⟩; have Xq4 : Below wb.heap.size wb vq4 := Xq3.trans (uq4.mono Xq3.size)) | (go_at_call 38; have Tq3 := Xq2; clear Tq3; refine (add_int _ _ _ _ _ _ _ _ _ _ _ X Y (HXX.out.below Xq2) (HYY.out.below Xq2) (by omega) (by omega)).mono ?_; rintro e vq3 ⟨nC3, aC3, kC3, cC3, zC3, rfl, iC3, gC3, uq3⟩; have Xq3 : Below wb.heap.size wb vq3 := Xq2.trans (uq3.mono Xq2.size); have IC3 := Lib.hid iC3; have UC3 := Lib.hid uq3; clear iC3) | (go_at_call 38; have Tq2 := Xq1; clear Tq2; refine (add_int _ _ _ _ _ _ _ _ _ _ _ (P1 + P2) P2 IC1.out (HAN.out.below Xq1) (by omega) (by omega)).mono ?_; rintro e vq2 ⟨nC2, aC2, kC2, cC2, zC2, rfl, iC2, gC2, uq2⟩; have Xq2 : Below wb.heap.size wb vq2 := Xq1.trans (uq2.mono Xq1.size); have IC2 := Lib.hid iC2; have UC2 := Lib.hid uq2; clear iC2) | (go_at_call 38; refine (add_int _ _ _ _ _ _ _ _ _ _ _ P1 P2 (HXO.out.below (Below.refl _ _).drew) (HAN.out.below (Below.refl _ _).drew) (by omega) (by omega)).mono ?_; rintro e vq1 ⟨nC1, aC1, kC1, cC1, zC1, rfl, iC1, gC1, uq1⟩; have Xq1 : Below wb.heap.size wb vq1 := (Below.refl _ _).drew.trans uq1; have IC1 := Lib.hid iC1; have UC1 := Lib.hid uq1; clear iC1))
          go_wp2
          go_meet
          exact ⟨rfl, Xq8⟩
      case rest =>
        obtain ⟨rfl, hbw⟩ := hcut
        rename World => wd
        replace VS := Lib.hid (VS.out.below hbw)
        replace HW := Lib.hid (HW.out.trans (hbw.mono HW.out.size))
        clear hbw
        obtain ⟨o, hoN⟩ : ∃ o : Nat, op % 16 = o := ⟨_, rfl⟩
        have hoI : (op : Int) % 16 = (o : Int) := by omega
        have ho16 : o ≤ 15 := by omega
        clear hoN
        obtain ⟨Xc0, Xc1, -, -, Xl⟩ := VS.out _ (.tail _ (.tail _ (.tail _ (.head _))))
        dsimp only at Xc0 Xc1 Xl
        obtain ⟨Yc0, Yc1, -, -, Yl⟩ := VS.out _ (.tail _ (.tail _ (.tail _ (.tail _ (.head _)))))
        dsimp only at Yc0 Yc1 Yl
        go_wp2_with fail
        clear Xc0 Xc1 Xl
        clear Yc0 Yc1 Yl
        refine (deposit_yes _ _ _ _ _ _ _ _ _ _ _ X Y size at' (show IntAt wd sx bx m1 k1 zr X from (VS.out _ (.tail _ (.tail _ (.tail _ (.head _))))).it) (show IntAt wd sy by' m2 k2 zs Y from (VS.out _ (.tail _ (.tail _ (.tail _ (.tail _ (.head _)))))).it) (by omega) (by omega) (by omega)).mono ?_
        rintro e wc5 ⟨sde, ade, nde, cpde, zde, D1, rfl, ide, f3, gde, hbwc5⟩
        have Ide := Lib.hid ide
        clear ide
        have F3 := Lib.hid f3
        clear f3
        replace VS := Lib.hid (VS.out.below hbwc5)
        replace HW := Lib.hid (HW.out.trans (hbwc5.mono HW.out.size))
        clear hbwc5
        obtain ⟨Xc0, Xc1, -, -, Xl⟩ := VS.out _ (.tail _ (.tail _ (.tail _ (.head _))))
        dsimp only at Xc0 Xc1 Xl
        obtain ⟨Yc0, Yc1, -, -, Yl⟩ := VS.out _ (.tail _ (.tail _ (.tail _ (.tail _ (.head _)))))
        dsimp only at Yc0 Yc1 Yl
        go_wp2_with fail
        obtain ⟨wg6, hwg6⟩ : ∃ wg6, wg6 = wc5.alloc (.cells #[.bool sde, .slice ade nde cpde] 28) := ⟨_, rfl⟩
        have bwg6 : Below wc5.heap.size wc5 wg6 := by rw [hwg6]; go_grown
        have nwg6 : BAt wg6 ⟨wc5.heap.size, sde, ade, nde, cpde, zde, D1⟩ := by rw [hwg6]; exact BAt.new Ide.out (by omega)
        rw [← hwg6]
        clear hwg6
        obtain ⟨dep, hdep⟩ : ∃ p, p = wc5.heap.size := ⟨_, rfl⟩
        rw [← hdep] at nwg6 ⊢
        replace VS := Lib.hid ((VS.out.below bwg6).push nwg6)
        replace HW := Lib.hid (HW.out.trans (bwg6.mono HW.out.size))
        clear Xc0 Xc1 Xl
        clear Yc0 Yc1 Yl
        clear nwg6 bwg6 hdep Ide
        refine (field_yes _ _ _ _ _ _ D1 size at' (show IntAt wg6 sde ade nde cpde zde D1 from (VS.out _ (.head _)).it) (by omega) (by omega)).mono ?_
        rintro e wc7 ⟨sua, aua, nua, cpua, zua, rfl, iua, gua, hbwc7⟩
        have Iua := Lib.hid iua
        clear iua
        replace VS := Lib.hid (VS.out.below hbwc7)
        replace HW := Lib.hid (HW.out.trans (hbwc7.mono HW.out.size))
        clear hbwc7
        obtain ⟨Yc0, Yc1, -, -, Yl⟩ := VS.out _ (.tail _ (.tail _ (.tail _ (.tail _ (.tail _ (.head _))))))
        dsimp only at Yc0 Yc1 Yl
        go_wp2_with fail
        obtain ⟨wg8, hwg8⟩ : ∃ wg8, wg8 = wc7.alloc (.cells #[.bool sua, .slice aua nua cpua] 28) := ⟨_, rfl⟩
        have bwg8 : Below wc7.heap.size wc7 wg8 := by rw [hwg8]; go_grown
        have nwg8 : BAt wg8 ⟨wc7.heap.size, sua, aua, nua, cpua, zua, (D1 / 2 ^ at' % 2 ^ size)⟩ := by rw [hwg8]; exact BAt.new Iua.out (by omega)
        rw [← hwg8]
        clear hwg8
        obtain ⟨uap, huap⟩ : ∃ p, p = wc7.heap.size := ⟨_, rfl⟩
        rw [← huap] at nwg8 ⊢
        replace VS := Lib.hid ((VS.out.below bwg8).push nwg8)
        replace HW := Lib.hid (HW.out.trans (bwg8.mono HW.out.size))
        clear Yc0 Yc1 Yl
        clear nwg8 bwg8 huap Iua
        refine (field_yes _ _ _ _ _ _ Y size 0 (show IntAt wg8 sy by' m2 k2 zs Y from (VS.out _ (.tail _ (.tail _ (.tail _ (.tail _ (.tail _ (.tail _ (.head _)))))))).it) (by omega) (by omega)).mono ?_
        rintro e wc9 ⟨sva, ava, nva, cpva, zva, rfl, iva, gva, hbwc9⟩
        have Iva := Lib.hid iva
        clear iva
        replace VS := Lib.hid (VS.out.below hbwc9)
        replace HW := Lib.hid (HW.out.trans (hbwc9.mono HW.out.size))
        clear hbwc9
        obtain ⟨Xc0, Xc1, -, -, Xl⟩ := VS.out _ (.tail _ (.tail _ (.tail _ (.tail _ (.tail _ (.head _))))))
        dsimp only at Xc0 Xc1 Xl
        go_wp2_with fail
        obtain ⟨wg10, hwg10⟩ : ∃ wg10, wg10 = wc9.alloc (.cells #[.bool sva, .slice ava nva cpva] 28) := ⟨_, rfl⟩
        have bwg10 : Below wc9.heap.size wc9 wg10 := by rw [hwg10]; go_grown
        have nwg10 : BAt wg10 ⟨wc9.heap.size, sva, ava, nva, cpva, zva, (Y / 2 ^ 0 % 2 ^ size)⟩ := by rw [hwg10]; exact BAt.new Iva.out (by omega)
        rw [← hwg10]
        clear hwg10
        obtain ⟨vap, hvap⟩ : ∃ p, p = wc9.heap.size := ⟨_, rfl⟩
        rw [← hvap] at nwg10 ⊢
        replace VS := Lib.hid ((VS.out.below bwg10).push nwg10)
        replace HW := Lib.hid (HW.out.trans (bwg10.mono HW.out.size))
        clear Xc0 Xc1 Xl
        clear nwg10 bwg10 hvap Iva
        refine (field_yes _ _ _ _ _ _ X size at' (show IntAt wg10 sx bx m1 k1 zr X from (VS.out _ (.tail _ (.tail _ (.tail _ (.tail _ (.tail _ (.tail _ (.head _)))))))).it) (by omega) (by omega)).mono ?_
        rintro e wc11 ⟨sow, aow, now, cpow, zow, rfl, iow, gow, hbwc11⟩
        have Iow := Lib.hid iow
        clear iow
        replace VS := Lib.hid (VS.out.below hbwc11)
        replace HW := Lib.hid (HW.out.trans (hbwc11.mono HW.out.size))
        clear hbwc11
        obtain ⟨Xc0, Xc1, -, -, Xl⟩ := VS.out _ (.tail _ (.tail _ (.tail _ (.tail _ (.tail _ (.tail _ (.head _)))))))
        dsimp only at Xc0 Xc1 Xl
        go_wp2_with fail
        obtain ⟨wg12, hwg12⟩ : ∃ wg12, wg12 = wc11.alloc (.cells #[.bool sow, .slice aow now cpow] 28) := ⟨_, rfl⟩
        have bwg12 : Below wc11.heap.size wc11 wg12 := by rw [hwg12]; go_grown
        have nwg12 : BAt wg12 ⟨wc11.heap.size, sow, aow, now, cpow, zow, (X / 2 ^ at' % 2 ^ size)⟩ := by rw [hwg12]; exact BAt.new Iow.out (by omega)
        rw [← hwg12]
        clear hwg12
        obtain ⟨owp, howp⟩ : ∃ p, p = wc11.heap.size := ⟨_, rfl⟩
        rw [← howp] at nwg12 ⊢
        replace VS := Lib.hid ((VS.out.below bwg12).push nwg12)
        replace HW := Lib.hid (HW.out.trans (bwg12.mono HW.out.size))
        clear Xc0 Xc1 Xl
        clear nwg12 bwg12 howp Iow
        refine (deposit_yes _ _ _ _ _ _ _ _ _ _ _ X (X / 2 ^ at' % 2 ^ size) size at' (show IntAt wg12 sx bx m1 k1 zr X from (VS.out _ (.tail _ (.tail _ (.tail _ (.tail _ (.tail _ (.tail _ (.tail _ (.head _))))))))).it) (show IntAt wg12 sow aow now cpow zow (X / 2 ^ at' % 2 ^ size) from (VS.out _ (.head _)).it) (by omega) (by omega) (by omega)).mono ?_
        rintro e wc13 ⟨sba, aba, nba, cpba, zba, D2, rfl, iba, f4, gba, hbwc13⟩
        have Iba := Lib.hid iba
        clear iba
        have F4 := Lib.hid f4
        clear f4
        replace VS := Lib.hid (VS.out.below hbwc13)
        replace HW := Lib.hid (HW.out.trans (hbwc13.mono HW.out.size))
        clear hbwc13
        obtain ⟨Xc0, Xc1, -, -, Xl⟩ := VS.out _ (.tail _ (.tail _ (.tail _ (.tail _ (.tail _ (.tail _ (.tail _ (.head _))))))))
        dsimp only at Xc0 Xc1 Xl
        obtain ⟨Yc0, Yc1, -, -, Yl⟩ := VS.out _ (.tail _ (.tail _ (.tail _ (.tail _ (.tail _ (.tail _ (.tail _ (.tail _ (.head _)))))))))
        dsimp only at Yc0 Yc1 Yl
        go_wp2_with fail
        obtain ⟨wg14, hwg14⟩ : ∃ wg14, wg14 = wc13.alloc (.cells #[.bool sba, .slice aba nba cpba] 28) := ⟨_, rfl⟩
        have bwg14 : Below wc13.heap.size wc13 wg14 := by rw [hwg14]; go_grown
        have nwg14 : BAt wg14 ⟨wc13.heap.size, sba, aba, nba, cpba, zba, D2⟩ := by rw [hwg14]; exact BAt.new Iba.out (by omega)
        rw [← hwg14]
        clear hwg14
        obtain ⟨bap, hbap⟩ : ∃ p, p = wc13.heap.size := ⟨_, rfl⟩
        rw [← hbap] at nwg14 ⊢
        replace VS := Lib.hid ((VS.out.below bwg14).push nwg14)
        replace HW := Lib.hid (HW.out.trans (bwg14.mono HW.out.size))
        clear Xc0 Xc1 Xl
        clear Yc0 Yc1 Yl
        clear nwg14 bwg14 hbap Iba
        refine (boole_bits _ _ _ _ _ _ _ _ _ _ _ _ _ o (show IntAt wg14 sx bx m1 k1 zr X from (VS.out _ (.tail _ (.tail _ (.tail _ (.tail _ (.tail _ (.tail _ (.tail _ (.tail _ (.head _)))))))))).it) (show IntAt wg14 sy by' m2 k2 zs Y from (VS.out _ (.tail _ (.tail _ (.tail _ (.tail _ (.tail _ (.tail _ (.tail _ (.tail _ (.tail _ (.head _))))))))))).it) (by omega) (by omega) (by omega)).mono ?_
        rintro e wc15 ⟨sze, aze, nze, cpze, zze, P3, rfl, ize, f5, gze, hbwc15⟩
        have Ize := Lib.hid ize
        clear ize
        have F5 := Lib.hid f5
        clear f5
        replace VS := Lib.hid (VS.out.below hbwc15)
        replace HW := Lib.hid (HW.out.trans (hbwc15.mono HW.out.size))
        clear hbwc15
        have hmax : ∀ v : World, (Builtin.max_ #[44, 44, 44, 44, 44, 44] 44 #[.int .i64 0, .int .i64 0, .int .i64 0, .int .i64 0, .int .i64 0, .int .i64 0]).run Try.prog v = .ok (.int .i64 0) v := fun _ => by kernel_rfl
        obtain ⟨uac0, uac1, -, -, ual⟩ := VS.out _ (.tail _ (.tail _ (.tail _ (.head _))))
        dsimp only at uac0 uac1 ual
        obtain ⟨vac0, vac1, -, -, val⟩ := VS.out _ (.tail _ (.tail _ (.head _)))
        dsimp only at vac0 vac1 val
        go_wp2_with fail
        obtain ⟨wg16, hwg16⟩ : ∃ wg16, wg16 = wc15.alloc (.cells #[.bool sze, .slice aze nze cpze] 28) := ⟨_, rfl⟩
        have bwg16 : Below wc15.heap.size wc15 wg16 := by rw [hwg16]; go_grown
        have nwg16 : BAt wg16 ⟨wc15.heap.size, sze, aze, nze, cpze, zze, P3⟩ := by rw [hwg16]; exact BAt.new Ize.out (by omega)
        rw [← hwg16]
        clear hwg16
        obtain ⟨zep, hzep⟩ : ∃ p, p = wc15.heap.size := ⟨_, rfl⟩
        rw [← hzep] at nwg16 ⊢
        replace VS := Lib.hid ((VS.out.below bwg16).push nwg16)
        replace HW := Lib.hid (HW.out.trans (bwg16.mono HW.out.size))
        clear uac0 uac1 ual
        clear vac0 vac1 val
        clear nwg16 bwg16 hzep Ize
        refine (same_yes (show IntAt wg16 sua aua nua cpua zua (D1 / 2 ^ at' % 2 ^ size) from (VS.out _ (.tail _ (.tail _ (.tail _ (.tail _ (.head _)))))).it) (show IntAt wg16 sva ava nva cpva zva (Y / 2 ^ 0 % 2 ^ size) from (VS.out _ (.tail _ (.tail _ (.tail _ (.head _))))).it) (dep_field F3.out)).mono ?_
        rintro e wc17 ⟨rfl, hbwc17⟩
        replace VS := Lib.hid (VS.out.below hbwc17)
        replace HW := Lib.hid (HW.out.trans (hbwc17.mono HW.out.size))
        clear hbwc17
        obtain ⟨bac0, bac1, -, -, bal⟩ := VS.out _ (.tail _ (.head _))
        dsimp only at bac0 bac1 bal
        obtain ⟨Xc0, Xc1, -, -, Xl⟩ := VS.out _ (.tail _ (.tail _ (.tail _ (.tail _ (.tail _ (.tail _ (.tail _ (.tail _ (.tail _ (.head _))))))))))
        dsimp only at Xc0 Xc1 Xl
        go_wp2_with fail
        clear bac0 bac1 bal
        clear Xc0 Xc1 Xl
        refine (same_yes (show IntAt wc17 sba aba nba cpba zba D2 from (VS.out _ (.tail _ (.head _))).it) (show IntAt wc17 sx bx m1 k1 zr X from (VS.out _ (.tail _ (.tail _ (.tail _ (.tail _ (.tail _ (.tail _ (.tail _ (.tail _ (.tail _ (.head _))))))))))).it) (dep_own F4.out)).mono ?_
        rintro e wc18 ⟨rfl, hbwc18⟩
        replace VS := Lib.hid (VS.out.below hbwc18)
        replace HW := Lib.hid (HW.out.trans (hbwc18.mono HW.out.size))
        clear hbwc18
        obtain ⟨N, hNN⟩ : ∃ N : Nat, bit % 300 = N := ⟨_, rfl⟩
        have hNI : (bit : Int) % 300 = (N : Int) := by omega
        have hN3 : N ≤ 299 := by omega
        clear hNN
        obtain ⟨bX, hbX⟩ : ∃ b, bitZ X N = b := ⟨_, rfl⟩
        obtain ⟨bY, hbY⟩ : ∃ b, bitZ Y N = b := ⟨_, rfl⟩
        have HBX := Lib.hid hbX
        have HBY := Lib.hid hbY
        clear hbX hbY
        obtain ⟨Xc0, Xc1, -, -, Xl⟩ := VS.out _ (.tail _ (.tail _ (.tail _ (.tail _ (.tail _ (.tail _ (.tail _ (.tail _ (.tail _ (.head _))))))))))
        dsimp only at Xc0 Xc1 Xl
        go_wp2_with fail
        clear Xc0 Xc1 Xl
        refine (bit_nat _ _ _ _ _ _ X N (show IntAt wc18 sx bx m1 k1 zr X from (VS.out _ (.tail _ (.tail _ (.tail _ (.tail _ (.tail _ (.tail _ (.tail _ (.tail _ (.tail _ (.head _))))))))))).it) (by omega) (by omega) HBX.out).mono ?_
        rintro e wc19 ⟨rfl, hbwc19⟩
        replace VS := Lib.hid (VS.out.below hbwc19)
        replace HW := Lib.hid (HW.out.trans (hbwc19.mono HW.out.size))
        clear hbwc19
        go_upto_if 174 with (fail)
        obtain ⟨pX, hpX⟩ : ∃ p : Nat, p = 2 * bX.toNat := ⟨_, rfl⟩
        have hpX2 : pX ≤ 2 := by rw [hpX]; cases bX <;> decide
        have HPX := Lib.hid hpX
        clear hpX
        go_cut [34] (fun p wx => p = .int .i64 (pX : Int) ∧ Below wc19.heap.size wc19 wx)
        case first =>
          as_aux_lemma =>
            cases bX <;> (go_wp2; go_meet; exact ⟨by rw [HPX.out]; rfl, .refl _ _⟩)
        case rest =>
          obtain ⟨rfl, hbw⟩ := hcut
          rename World => wx20
          replace VS := Lib.hid (VS.out.below hbw)
          replace HW := Lib.hid (HW.out.trans (hbw.mono HW.out.size))
          clear hbw
          obtain ⟨Yc0, Yc1, -, -, Yl⟩ := VS.out _ (.tail _ (.tail _ (.tail _ (.tail _ (.tail _ (.tail _ (.tail _ (.tail _ (.tail _ (.tail _ (.head _)))))))))))
          dsimp only at Yc0 Yc1 Yl
          go_wp2_with fail
          clear Yc0 Yc1 Yl
          refine (bit_nat _ _ _ _ _ _ Y N (show IntAt wx20 sy by' m2 k2 zs Y from (VS.out _ (.tail _ (.tail _ (.tail _ (.tail _ (.tail _ (.tail _ (.tail _ (.tail _ (.tail _ (.tail _ (.head _)))))))))))).it) (by omega) (by omega) HBY.out).mono ?_
          rintro e wc21 ⟨rfl, hbwc21⟩
          replace VS := Lib.hid (VS.out.below hbwc21)
          replace HW := Lib.hid (HW.out.trans (hbwc21.mono HW.out.size))
          clear hbwc21
          go_upto_if 177 with (fail)
          obtain ⟨pr, hpr⟩ : ∃ p : Nat, p = 2 * bX.toNat + bY.toNat := ⟨_, rfl⟩
          have hpr2 : pr ≤ 3 := by rw [hpr]; cases bX <;> cases bY <;> decide
          have HPR := Lib.hid hpr
          clear hpr
          go_cut [34] (fun p wx => p = .int .i64 (pr : Int) ∧ Below wc21.heap.size wc21 wx)
          case first =>
            as_aux_lemma =>
              cases bY <;> (go_wp2; go_meet; exact ⟨by rw [HPR.out, HPX.out]; rfl, .refl _ _⟩)
          case rest =>
            obtain ⟨rfl, hbw⟩ := hcut
            rename World => wx22
            replace VS := Lib.hid (VS.out.below hbw)
            replace HW := Lib.hid (HW.out.trans (hbw.mono HW.out.size))
            clear hbw
            go_wp2_with fail
            have HKP : Hid (∀ w', Below wx22.heap.size wx22 w' → (w'.cell? ⟨dep, 0, none⟩ = some (.bool sde) ∧ w'.cell? ⟨dep, 1, none⟩ = some (.slice ade nde cpde) ∧ w'.cell? ⟨b1, 0, none⟩ = some (.bool sx) ∧ w'.cell? ⟨b1, 1, none⟩ = some (.slice bx m1 k1) ∧ w'.cell? ⟨zep, 0, none⟩ = some (.bool sze) ∧ w'.cell? ⟨zep, 1, none⟩ = some (.slice aze nze cpze))) := Lib.hid (fun w' hb => by
              have hde := (VS.out _ (.tail _ (.tail _ (.tail _ (.tail _ (.tail _ (.head _))))))).below hb
              have hX := (VS.out _ (.tail _ (.tail _ (.tail _ (.tail _ (.tail _ (.tail _ (.tail _ (.tail _ (.tail _ (.head _))))))))))).below hb
              have hze := (VS.out _ (.head _)).below hb
              exact ⟨hde.c0, hde.c1, hX.c0, hX.c1, hze.c0, hze.c1⟩)
            have HZB : Hid (bitZ P3 N = tb o bX bY) := Lib.hid (by rw [F5.out N, HBX.out, HBY.out])
            obtain ⟨d, hand, hdb⟩ := tb_shift (o := o) HPR.out ho16
            obtain ⟨bZ', hbZ⟩ : ∃ b, tb o bX bY = b := ⟨_, rfl⟩
            rw [hbZ] at hdb HZB
            have hor : o ≤ 15 := ho16
            have hot : (op : Int).tmod 16 = (o : Int) := by rw [Int.tmod_eq_emod_of_nonneg (by omega)]; exact hoI
            have how : IntKind.i64.wrap (o : Int) = (o : Int) := by rw [IntKind.wrap_i64]; omega
            have hwr : IntKind.i64.wrap ((at' : Int) + size) = (at' : Int) + size := by rw [IntKind.wrap_i64]; omega
            have HC3 : Hid (∀ w', Below wx22.heap.size wx22 w' → Calls Try.prog 53 #[.agg #[.bool sze, .slice aze nze cpze], .int .i64 (N : Int)] w' (RetV w' (.bool bZ'))) := Lib.hid (fun w' hb => bit_nat w' _ _ _ _ _ P3 N ((show IntAt wx22 sze aze nze cpze zze P3 from (VS.out _ (.head _)).it).below hb) (by omega) (by omega) HZB.out)
            have HC2 : Hid (∀ w', Below wx22.heap.size wx22 w' → Calls Try.prog 53 #[.agg #[.bool sx, .slice bx m1 k1], .int .i64 (N : Int)] w' (RetV w' (.bool bX))) := Lib.hid (fun w' hb => bit_nat w' _ _ _ _ _ X N ((show IntAt wx22 sx bx m1 k1 zr X from (VS.out _ (.tail _ (.tail _ (.tail _ (.tail _ (.tail _ (.tail _ (.tail _ (.tail _ (.tail _ (.head _))))))))))).it).below hb) (by omega) (by omega) HBX.out)
            have HC1 : Hid ((N < at' ∨ at' + size ≤ N) → ∀ w', Below wx22.heap.size wx22 w' → Calls Try.prog 53 #[.agg #[.bool sde, .slice ade nde cpde], .int .i64 (N : Int)] w' (RetV w' (.bool bX))) := Lib.hid (fun ho w' hb => bit_nat w' _ _ _ _ _ D1 N ((show IntAt wx22 sde ade nde cpde zde D1 from (VS.out _ (.tail _ (.tail _ (.tail _ (.tail _ (.tail _ (.head _))))))).it).below hb) (by omega) (by omega) ((dep_out F3.out ho).trans HBX.out))
            clear hbZ
            go_cut [211] (fun p wx => p = .bool false ∧ Below wx22.heap.size wx22 wx)
            case first =>
              as_aux_lemma =>
                rcases Nat.lt_or_ge N at' with hA | hB
                · have hA1 : (N : Int) < at' := by omega
                  have hout : N < at' ∨ at' + size ≤ N := .inl hA
                  clear hA
                  as_aux_lemma =>
                    refine wp_region_noPanic ?_
                    refine wp_region_held_drew (S := (fun w' => w'.cell? ⟨dep, 0, none⟩ = some (.bool sde) ∧ w'.cell? ⟨dep, 1, none⟩ = some (.slice ade nde cpde) ∧ w'.cell? ⟨b1, 0, none⟩ = some (.bool sx) ∧ w'.cell? ⟨b1, 1, none⟩ = some (.slice bx m1 k1) ∧ w'.cell? ⟨zep, 0, none⟩ = some (.bool sze) ∧ w'.cell? ⟨zep, 1, none⟩ = some (.slice aze nze cpze))) (by kernel_rfl) ?_ (fun hH0 => ?_)
                    · exact HKP.out _ (Below.refl _ _).drew
                    refine wpAnyH_take (i := 0) (oi := ({ dst := some 180, op := Op.move (Operand.tmp 33), type := 3, pos := "more.go:124", after := #[], guard := none } : Oper)) (v := ?_) rfl (by kernel_rfl) (by kernel_rfl) (by kernel_rfl) (fun _ _ _ h => h) (Or.inl ⟨by rfl, ?_⟩) (by assumption) ?_
                    rotate_left
                    · (intro w hSw; (try dsimp only at hSw); go_simp; try with_reducible rfl)
                    (try simp only [Act.put, List.setIfInBounds_toArray, List.set_cons_zero, List.set_cons_succ])
                    refine wpAnyH_take (i := 1) (oi := ({ dst := some 181, op := Op.move (Operand.tmp 17), type := 3, pos := "more.go:124", after := #[], guard := none } : Oper)) (v := ?_) rfl (by kernel_rfl) (by kernel_rfl) (by kernel_rfl) (fun _ _ _ h => h) (Or.inl ⟨by rfl, ?_⟩) (by assumption) ?_
                    rotate_left
                    · (intro w hSw; (try dsimp only at hSw); go_simp; try with_reducible rfl)
                    (try simp only [Act.put, List.setIfInBounds_toArray, List.set_cons_zero, List.set_cons_succ])
                    refine wpAnyH_take (i := 2) (oi := ({ dst := some 182, op := Op.binOp BinOp.lss 3 (Operand.tmp 180) (Operand.tmp 181) 3, type := 4, pos := "more.go:124", after := #[{ on := 0, ground := Ground.data }, { on := 1, ground := Ground.data }], guard := none } : Oper)) (v := ?_) rfl (by kernel_rfl) (by kernel_rfl) (by kernel_rfl) (fun _ _ _ h => h) (Or.inl ⟨by rfl, ?_⟩) (by assumption) ?_
                    rotate_left
                    · (intro w hSw; (try dsimp only at hSw); go_simp; try with_reducible rfl)
                    (try simp only [Act.put, List.setIfInBounds_toArray, List.set_cons_zero, List.set_cons_succ])
                    refine wpAnyH_take (i := 3) (oi := ({ dst := some 183, op := Op.move (Operand.tmp 182), type := 4, pos := "more.go:124", after := #[{ on := 2, ground := Ground.data }], guard := none } : Oper)) (v := ?_) rfl (by kernel_rfl) (by kernel_rfl) (by kernel_rfl) (fun _ _ _ h => h) (Or.inl ⟨by rfl, ?_⟩) (by assumption) ?_
                    rotate_left
                    · (intro w hSw; (try dsimp only at hSw); go_simp; try with_reducible rfl)
                    (try simp only [Act.put, List.setIfInBounds_toArray, List.set_cons_zero, List.set_cons_succ])
                    refine wpAnyH_take (i := 4) (oi := ({ dst := some 184, op := Op.move (Operand.tmp 33), type := 3, pos := "more.go:124", after := #[{ on := 3, ground := Ground.guard }], guard := some (3, false) } : Oper)) (v := undef) rfl (by kernel_rfl) (by kernel_rfl) (by kernel_rfl) (fun _ _ _ h => h) (Or.inr ⟨by rfl, rfl⟩) (by assumption) ?_
                    (try simp only [Act.put, List.setIfInBounds_toArray, List.set_cons_zero, List.set_cons_succ])
                    refine wpAnyH_take (i := 5) (oi := ({ dst := some 185, op := Op.move (Operand.tmp 17), type := 3, pos := "more.go:124", after := #[{ on := 3, ground := Ground.guard }], guard := some (3, false) } : Oper)) (v := undef) rfl (by kernel_rfl) (by kernel_rfl) (by kernel_rfl) (fun _ _ _ h => h) (Or.inr ⟨by rfl, rfl⟩) (by assumption) ?_
                    (try simp only [Act.put, List.setIfInBounds_toArray, List.set_cons_zero, List.set_cons_succ])
                    refine wpAnyH_take (i := 6) (oi := ({ dst := some 186, op := Op.move (Operand.tmp 16), type := 3, pos := "more.go:124", after := #[{ on := 3, ground := Ground.guard }], guard := some (3, false) } : Oper)) (v := undef) rfl (by kernel_rfl) (by kernel_rfl) (by kernel_rfl) (fun _ _ _ h => h) (Or.inr ⟨by rfl, rfl⟩) (by assumption) ?_
                    (try simp only [Act.put, List.setIfInBounds_toArray, List.set_cons_zero, List.set_cons_succ])
                    refine wpAnyH_take (i := 7) (oi := ({ dst := some 187, op := Op.binOp BinOp.add 3 (Operand.tmp 185) (Operand.tmp 186) 3, type := 3, pos := "more.go:124", after := #[{ on := 5, ground := Ground.data }, { on := 6, ground := Ground.data }, { on := 3, ground := Ground.guard }], guard := some (3, false) } : Oper)) (v := undef) rfl (by kernel_rfl) (by kernel_rfl) (by kernel_rfl) (fun _ _ _ h => h) (Or.inr ⟨by rfl, rfl⟩) (by assumption) ?_
                    (try simp only [Act.put, List.setIfInBounds_toArray, List.set_cons_zero, List.set_cons_succ])
                    refine wpAnyH_take (i := 8) (oi := ({ dst := some 188, op := Op.binOp BinOp.geq 3 (Operand.tmp 184) (Operand.tmp 187) 3, type := 4, pos := "more.go:124", after := #[{ on := 4, ground := Ground.data }, { on := 7, ground := Ground.data }, { on := 3, ground := Ground.guard }], guard := some (3, false) } : Oper)) (v := undef) rfl (by kernel_rfl) (by kernel_rfl) (by kernel_rfl) (fun _ _ _ h => h) (Or.inr ⟨by rfl, rfl⟩) (by assumption) ?_
                    (try simp only [Act.put, List.setIfInBounds_toArray, List.set_cons_zero, List.set_cons_succ])
                    refine wpAnyH_take (i := 9) (oi := ({ dst := some 189, op := Op.pick (Operand.tmp 183) (Operand.const (Value.bool true)) (Operand.tmp 188), type := 4, pos := "more.go:124", after := #[{ on := 3, ground := Ground.data }, { on := 8, ground := Ground.data }], guard := none } : Oper)) (v := ?_) rfl (by kernel_rfl) (by kernel_rfl) (by kernel_rfl) (fun _ _ _ h => h) (Or.inl ⟨by rfl, ?_⟩) (by assumption) ?_
                    rotate_left
                    · (intro w hSw; (try dsimp only at hSw); go_simp; try with_reducible rfl)
                    (try simp only [Act.put, List.setIfInBounds_toArray, List.set_cons_zero, List.set_cons_succ])
                    refine wpAnyH_take (i := 10) (oi := ({ dst := some 190, op := Op.move (Operand.tmp 189), type := 4, pos := "more.go:124", after := #[{ on := 9, ground := Ground.data }, { on := 3, ground := Ground.chain }], guard := none } : Oper)) (v := ?_) rfl (by kernel_rfl) (by kernel_rfl) (by kernel_rfl) (fun _ _ _ h => h) (Or.inl ⟨by rfl, ?_⟩) (by assumption) ?_
                    rotate_left
                    · (intro w hSw; (try dsimp only at hSw); go_simp; try with_reducible rfl)
                    (try simp only [Act.put, List.setIfInBounds_toArray, List.set_cons_zero, List.set_cons_succ])
                    refine wpAnyH_take (i := 11) (oi := ({ dst := some 191, op := Op.load 28 (Operand.tmp 23), type := 28, pos := "more.go:124", after := #[{ on := 10, ground := Ground.guard }], guard := some (10, true) } : Oper)) (v := ?_) rfl (by kernel_rfl) (by kernel_rfl) (by kernel_rfl) (fun _ _ _ h => h) (Or.inl ⟨by rfl, ?_⟩) (by assumption) ?_
                    rotate_left
                    · (intro w hSw; (try dsimp only at hSw); go_simp; try with_reducible rfl)
                    (try simp only [Act.put, List.setIfInBounds_toArray, List.set_cons_zero, List.set_cons_succ])
                    refine wpAnyH_take (i := 12) (oi := ({ dst := some 192, op := Op.move (Operand.tmp 33), type := 3, pos := "more.go:124", after := #[{ on := 10, ground := Ground.guard }], guard := some (10, true) } : Oper)) (v := ?_) rfl (by kernel_rfl) (by kernel_rfl) (by kernel_rfl) (fun _ _ _ h => h) (Or.inl ⟨by rfl, ?_⟩) (by assumption) ?_
                    rotate_left
                    · (intro w hSw; (try dsimp only at hSw); go_simp; try with_reducible rfl)
                    (try simp only [Act.put, List.setIfInBounds_toArray, List.set_cons_zero, List.set_cons_succ])
                    refine wpAnyH_take (i := 14) (oi := ({ dst := some 194, op := Op.load 28 (Operand.tmp 14), type := 28, pos := "more.go:124", after := #[{ on := 10, ground := Ground.guard }], guard := some (10, true) } : Oper)) (v := ?_) rfl (by kernel_rfl) (by kernel_rfl) (by kernel_rfl) (fun _ _ _ h => h) (Or.inl ⟨by rfl, ?_⟩) (by assumption) ?_
                    rotate_left
                    · (intro w hSw; (try dsimp only at hSw); go_simp; try with_reducible rfl)
                    (try simp only [Act.put, List.setIfInBounds_toArray, List.set_cons_zero, List.set_cons_succ])
                    refine wpAnyH_take (i := 15) (oi := ({ dst := some 195, op := Op.move (Operand.tmp 33), type := 3, pos := "more.go:124", after := #[{ on := 10, ground := Ground.guard }], guard := some (10, true) } : Oper)) (v := ?_) rfl (by kernel_rfl) (by kernel_rfl) (by kernel_rfl) (fun _ _ _ h => h) (Or.inl ⟨by rfl, ?_⟩) (by assumption) ?_
                    rotate_left
                    · (intro w hSw; (try dsimp only at hSw); go_simp; try with_reducible rfl)
                    (try simp only [Act.put, List.setIfInBounds_toArray, List.set_cons_zero, List.set_cons_succ])
                    refine wpAnyH_ready (rs := [13]) (by kernel_rfl) (by simp) ?_
                    refine (AllReadyH.cons (o := ({ dst := some 193, op := Op.call { callee := Callee.value (Operand.func 53), args := #[Operand.tmp 191, Operand.tmp 192], argTypes := #[28, 3] }, type := 4, pos := "more.go:124", after := #[{ on := 11, ground := Ground.data }, { on := 12, ground := Ground.data }, { on := 10, ground := Ground.chain }, { on := 10, ground := Ground.guard }], guard := some (10, true) } : Oper)) rfl (fun K hK => ?_) AllReadyH.nil)
                    refine ite_prop_pos (by rfl) ?_; go_simp
                    refine (HC1.out hout _ (Below.refl _ _).drew).mono ?_
                    rintro e v1 ⟨rfl, u1⟩
                    have X1 : Below wx22.heap.size wx22 v1 := (Below.refl _ _).drew.trans u1
                    refine hK.out _ _ ?_ (fun hH1 => ?_)
                    · exact HKP.out _ X1
                    clear hK K hH0
                    (try simp only [Act.put, List.setIfInBounds_toArray, List.set_cons_zero, List.set_cons_succ])
                    refine wpAnyH_ready (rs := [16]) (by kernel_rfl) (by simp) ?_
                    refine (AllReadyH.cons (o := ({ dst := some 196, op := Op.call { callee := Callee.value (Operand.func 53), args := #[Operand.tmp 194, Operand.tmp 195], argTypes := #[28, 3] }, type := 4, pos := "more.go:124", after := #[{ on := 14, ground := Ground.data }, { on := 15, ground := Ground.data }, { on := 13, ground := Ground.chain }, { on := 10, ground := Ground.guard }], guard := some (10, true) } : Oper)) rfl (fun K hK => ?_) AllReadyH.nil)
                    refine ite_prop_pos (by rfl) ?_; go_simp
                    refine (HC2.out _ X1).mono ?_
                    rintro e v2 ⟨rfl, u2⟩
                    have X2 : Below wx22.heap.size wx22 v2 := X1.trans (u2.mono X1.size)
                    refine hK.out _ _ ?_ (fun hH2 => ?_)
                    · exact HKP.out _ X2
                    clear hK K hH1
                    (try simp only [Act.put, List.setIfInBounds_toArray, List.set_cons_zero, List.set_cons_succ])
                    refine wpAnyH_take (i := 17) (oi := ({ dst := some 197, op := Op.binOp BinOp.neq 4 (Operand.tmp 193) (Operand.tmp 196) 4, type := 4, pos := "more.go:124", after := #[{ on := 13, ground := Ground.data }, { on := 16, ground := Ground.data }, { on := 10, ground := Ground.guard }], guard := some (10, true) } : Oper)) (v := ?_) rfl (by kernel_rfl) (by kernel_rfl) (by kernel_rfl) (fun _ _ _ h => h) (Or.inl ⟨by rfl, ?_⟩) (by assumption) ?_
                    rotate_left
                    · (intro w hSw; (try dsimp only at hSw); go_simp; try with_reducible rfl)
                    (try simp only [Act.put, List.setIfInBounds_toArray, List.set_cons_zero, List.set_cons_succ])
                    refine wpAnyH_take (i := 18) (oi := ({ dst := some 198, op := Op.pick (Operand.tmp 190) (Operand.tmp 197) (Operand.const (Value.bool false)), type := 4, pos := "more.go:124", after := #[{ on := 10, ground := Ground.data }, { on := 17, ground := Ground.data }], guard := none } : Oper)) (v := ?_) rfl (by kernel_rfl) (by kernel_rfl) (by kernel_rfl) (fun _ _ _ h => h) (Or.inl ⟨by rfl, ?_⟩) (by assumption) ?_
                    rotate_left
                    · (intro w hSw; (try dsimp only at hSw); go_simp; try with_reducible rfl)
                    (try simp only [Act.put, List.setIfInBounds_toArray, List.set_cons_zero, List.set_cons_succ])
                    refine wpAnyH_take (i := 19) (oi := ({ dst := some 199, op := Op.move (Operand.tmp 198), type := 4, pos := "more.go:124", after := #[{ on := 18, ground := Ground.data }, { on := 16, ground := Ground.chain }], guard := none } : Oper)) (v := ?_) rfl (by kernel_rfl) (by kernel_rfl) (by kernel_rfl) (fun _ _ _ h => h) (Or.inl ⟨by rfl, ?_⟩) (by assumption) ?_
                    rotate_left
                    · (intro w hSw; (try dsimp only at hSw); go_simp; try with_reducible rfl)
                    (try simp only [Act.put, List.setIfInBounds_toArray, List.set_cons_zero, List.set_cons_succ])
                    refine wpAnyH_take (i := 20) (oi := ({ dst := some 200, op := Op.load 28 (Operand.tmp 31), type := 28, pos := "more.go:124", after := #[{ on := 19, ground := Ground.guard }], guard := some (19, false) } : Oper)) (v := ?_) rfl (by kernel_rfl) (by kernel_rfl) (by kernel_rfl) (fun _ _ _ h => h) (Or.inl ⟨by rfl, ?_⟩) (by assumption) ?_
                    rotate_left
                    · (intro w hSw; (try dsimp only at hSw); go_simp; try with_reducible rfl)
                    (try simp only [Act.put, List.setIfInBounds_toArray, List.set_cons_zero, List.set_cons_succ])
                    refine wpAnyH_take (i := 21) (oi := ({ dst := some 201, op := Op.move (Operand.tmp 33), type := 3, pos := "more.go:124", after := #[{ on := 19, ground := Ground.guard }], guard := some (19, false) } : Oper)) (v := ?_) rfl (by kernel_rfl) (by kernel_rfl) (by kernel_rfl) (fun _ _ _ h => h) (Or.inl ⟨by rfl, ?_⟩) (by assumption) ?_
                    rotate_left
                    · (intro w hSw; (try dsimp only at hSw); go_simp; try with_reducible rfl)
                    (try simp only [Act.put, List.setIfInBounds_toArray, List.set_cons_zero, List.set_cons_succ])
                    refine wpAnyH_take (i := 23) (oi := ({ dst := some 203, op := Op.move (Operand.tmp 2), type := 5, pos := "more.go:124", after := #[{ on := 19, ground := Ground.guard }], guard := some (19, false) } : Oper)) (v := ?_) rfl (by kernel_rfl) (by kernel_rfl) (by kernel_rfl) (fun _ _ _ h => h) (Or.inl ⟨by rfl, ?_⟩) (by assumption) ?_
                    rotate_left
                    · (intro w hSw; (try dsimp only at hSw); go_simp; try with_reducible rfl)
                    (try simp only [Act.put, List.setIfInBounds_toArray, List.set_cons_zero, List.set_cons_succ])
                    refine wpAnyH_take (i := 24) (oi := ({ dst := some 204, op := Op.binOp BinOp.rem 5 (Operand.tmp 203) (Operand.const (Value.int IntKind.u8 16)) 5, type := 5, pos := "more.go:124", after := #[{ on := 23, ground := Ground.data }, { on := 19, ground := Ground.guard }], guard := some (19, false) } : Oper)) (v := ?_) rfl (by kernel_rfl) (by kernel_rfl) (by kernel_rfl) (fun _ _ _ h => h) (Or.inl ⟨by rfl, ?_⟩) (by assumption) ?_
                    rotate_left
                    · (intro w hSw; (try dsimp only at hSw); go_simp; try with_reducible rfl)
                    (try simp only [Act.put, List.setIfInBounds_toArray, List.set_cons_zero, List.set_cons_succ])
                    refine wpAnyH_take (i := 25) (oi := ({ dst := some 205, op := Op.convert 5 3 (Operand.tmp 204), type := 3, pos := "more.go:124", after := #[{ on := 24, ground := Ground.data }, { on := 19, ground := Ground.guard }], guard := some (19, false) } : Oper)) (v := ?_) rfl (by kernel_rfl) (by kernel_rfl) (by kernel_rfl) (fun _ _ _ h => h) (Or.inl ⟨by rfl, ?_⟩) (by assumption) ?_
                    rotate_left
                    · (intro w hSw; (try dsimp only at hSw); go_simp; try with_reducible rfl)
                    (try simp only [Act.put, List.setIfInBounds_toArray, List.set_cons_zero, List.set_cons_succ])
                    refine wpAnyH_take (i := 26) (oi := ({ dst := some 206, op := Op.move (Operand.tmp 34), type := 3, pos := "more.go:124", after := #[{ on := 19, ground := Ground.guard }], guard := some (19, false) } : Oper)) (v := ?_) rfl (by kernel_rfl) (by kernel_rfl) (by kernel_rfl) (fun _ _ _ h => h) (Or.inl ⟨by rfl, ?_⟩) (by assumption) ?_
                    rotate_left
                    · (intro w hSw; (try dsimp only at hSw); go_simp; try with_reducible rfl)
                    (try simp only [Act.put, List.setIfInBounds_toArray, List.set_cons_zero, List.set_cons_succ])
                    refine wpAnyH_take (i := 27) (oi := ({ dst := some 207, op := Op.binOp BinOp.shr 3 (Operand.tmp 205) (Operand.tmp 206) 3, type := 3, pos := "more.go:124", after := #[{ on := 25, ground := Ground.data }, { on := 26, ground := Ground.data }, { on := 19, ground := Ground.guard }], guard := some (19, false) } : Oper)) (v := ?_) rfl (by kernel_rfl) (by kernel_rfl) (by kernel_rfl) (fun _ _ _ h => h) (Or.inl ⟨by rfl, ?_⟩) (by assumption) ?_
                    rotate_left
                    · (intro w hSw; (try dsimp only at hSw); go_simp; try with_reducible rfl)
                    (try simp only [Act.put, List.setIfInBounds_toArray, List.set_cons_zero, List.set_cons_succ])
                    refine wpAnyH_take (i := 28) (oi := ({ dst := some 208, op := Op.binOp BinOp.and 3 (Operand.tmp 207) (Operand.const (Value.int IntKind.i64 1)) 3, type := 3, pos := "more.go:124", after := #[{ on := 27, ground := Ground.data }, { on := 19, ground := Ground.guard }], guard := some (19, false) } : Oper)) (v := ?_) rfl (by kernel_rfl) (by kernel_rfl) (by kernel_rfl) (fun _ _ _ h => h) (Or.inl ⟨by rfl, ?_⟩) (by assumption) ?_
                    rotate_left
                    · (intro w hSw; (try dsimp only at hSw); go_simp; try with_reducible rfl)
                    (try simp only [Act.put, List.setIfInBounds_toArray, List.set_cons_zero, List.set_cons_succ])
                    refine wpAnyH_take (i := 29) (oi := ({ dst := some 209, op := Op.binOp BinOp.eql 3 (Operand.tmp 208) (Operand.const (Value.int IntKind.i64 1)) 3, type := 4, pos := "more.go:124", after := #[{ on := 28, ground := Ground.data }, { on := 19, ground := Ground.guard }], guard := some (19, false) } : Oper)) (v := ?_) rfl (by kernel_rfl) (by kernel_rfl) (by kernel_rfl) (fun _ _ _ h => h) (Or.inl ⟨by rfl, ?_⟩) (by assumption) ?_
                    rotate_left
                    · (intro w hSw; (try dsimp only at hSw); go_simp; try with_reducible rfl)
                    (try simp only [Act.put, List.setIfInBounds_toArray, List.set_cons_zero, List.set_cons_succ])
                    refine wpAnyH_ready (rs := [22]) (by kernel_rfl) (by simp) ?_
                    refine (AllReadyH.cons (o := ({ dst := some 202, op := Op.call { callee := Callee.value (Operand.func 53), args := #[Operand.tmp 200, Operand.tmp 201], argTypes := #[28, 3] }, type := 4, pos := "more.go:124", after := #[{ on := 20, ground := Ground.data }, { on := 21, ground := Ground.data }, { on := 19, ground := Ground.chain }, { on := 19, ground := Ground.guard }], guard := some (19, false) } : Oper)) rfl (fun K hK => ?_) AllReadyH.nil)
                    refine ite_prop_pos (by rfl) ?_; go_simp
                    refine (HC3.out _ X2).mono ?_
                    rintro e v3 ⟨rfl, u3⟩
                    have X3 : Below wx22.heap.size wx22 v3 := X2.trans (u3.mono X2.size)
                    refine hK.out _ _ ?_ (fun hH3 => ?_)
                    · exact HKP.out _ X3
                    clear hK K hH2
                    (try simp only [Act.put, List.setIfInBounds_toArray, List.set_cons_zero, List.set_cons_succ])
                    refine wpAnyH_take (i := 30) (oi := ({ dst := some 210, op := Op.binOp BinOp.neq 4 (Operand.tmp 202) (Operand.tmp 209) 4, type := 4, pos := "more.go:124", after := #[{ on := 22, ground := Ground.data }, { on := 29, ground := Ground.data }, { on := 19, ground := Ground.guard }], guard := some (19, false) } : Oper)) (v := ?_) rfl (by kernel_rfl) (by kernel_rfl) (by kernel_rfl) (fun _ _ _ h => h) (Or.inl ⟨by rfl, ?_⟩) (by assumption) ?_
                    rotate_left
                    · (intro w hSw; (try dsimp only at hSw); go_simp; try with_reducible rfl)
                    (try simp only [Act.put, List.setIfInBounds_toArray, List.set_cons_zero, List.set_cons_succ])
                    refine wpAnyH_take (i := 31) (oi := ({ dst := some 211, op := Op.pick (Operand.tmp 199) (Operand.const (Value.bool true)) (Operand.tmp 210), type := 4, pos := "more.go:124", after := #[{ on := 19, ground := Ground.data }, { on := 30, ground := Ground.data }], guard := none } : Oper)) (v := ?_) rfl (by kernel_rfl) (by kernel_rfl) (by kernel_rfl) (fun _ _ _ h => h) (Or.inl ⟨by rfl, ?_⟩) (by assumption) ?_
                    rotate_left
                    · (intro w hSw; (try dsimp only at hSw); go_simp; try with_reducible rfl)
                    (try simp only [Act.put, List.setIfInBounds_toArray, List.set_cons_zero, List.set_cons_succ])
                    refine wpAnyH_done (by kernel_rfl) ?_ _
                    refine NoPanic.normal ?_
                    go_wp2
                    go_meet
                    exact ⟨rfl, X3⟩
                · rcases Nat.lt_or_ge N (at' + size) with hC | hD
                  · have hB1 : ¬ (N : Int) < at' := by omega
                    have hC1 : ¬ ((at' : Int) + size) ≤ N := by omega
                    clear hB hC HC1
                    as_aux_lemma =>
                      refine wp_region_noPanic ?_
                      refine wp_region_held_drew (S := (fun w' => w'.cell? ⟨dep, 0, none⟩ = some (.bool sde) ∧ w'.cell? ⟨dep, 1, none⟩ = some (.slice ade nde cpde) ∧ w'.cell? ⟨b1, 0, none⟩ = some (.bool sx) ∧ w'.cell? ⟨b1, 1, none⟩ = some (.slice bx m1 k1) ∧ w'.cell? ⟨zep, 0, none⟩ = some (.bool sze) ∧ w'.cell? ⟨zep, 1, none⟩ = some (.slice aze nze cpze))) (by kernel_rfl) ?_ (fun hH0 => ?_)
                      · exact HKP.out _ (Below.refl _ _).drew
                      refine wpAnyH_take (i := 0) (oi := ({ dst := some 180, op := Op.move (Operand.tmp 33), type := 3, pos := "more.go:124", after := #[], guard := none } : Oper)) (v := ?_) rfl (by kernel_rfl) (by kernel_rfl) (by kernel_rfl) (fun _ _ _ h => h) (Or.inl ⟨by rfl, ?_⟩) (by assumption) ?_
                      rotate_left
                      · (intro w hSw; (try dsimp only at hSw); go_simp; try with_reducible rfl)
                      (try simp only [Act.put, List.setIfInBounds_toArray, List.set_cons_zero, List.set_cons_succ])
                      refine wpAnyH_take (i := 1) (oi := ({ dst := some 181, op := Op.move (Operand.tmp 17), type := 3, pos := "more.go:124", after := #[], guard := none } : Oper)) (v := ?_) rfl (by kernel_rfl) (by kernel_rfl) (by kernel_rfl) (fun _ _ _ h => h) (Or.inl ⟨by rfl, ?_⟩) (by assumption) ?_
                      rotate_left
                      · (intro w hSw; (try dsimp only at hSw); go_simp; try with_reducible rfl)
                      (try simp only [Act.put, List.setIfInBounds_toArray, List.set_cons_zero, List.set_cons_succ])
                      refine wpAnyH_take (i := 2) (oi := ({ dst := some 182, op := Op.binOp BinOp.lss 3 (Operand.tmp 180) (Operand.tmp 181) 3, type := 4, pos := "more.go:124", after := #[{ on := 0, ground := Ground.data }, { on := 1, ground := Ground.data }], guard := none } : Oper)) (v := ?_) rfl (by kernel_rfl) (by kernel_rfl) (by kernel_rfl) (fun _ _ _ h => h) (Or.inl ⟨by rfl, ?_⟩) (by assumption) ?_
                      rotate_left
                      · (intro w hSw; (try dsimp only at hSw); go_simp; try with_reducible rfl)
                      (try simp only [Act.put, List.setIfInBounds_toArray, List.set_cons_zero, List.set_cons_succ])
                      refine wpAnyH_take (i := 3) (oi := ({ dst := some 183, op := Op.move (Operand.tmp 182), type := 4, pos := "more.go:124", after := #[{ on := 2, ground := Ground.data }], guard := none } : Oper)) (v := ?_) rfl (by kernel_rfl) (by kernel_rfl) (by kernel_rfl) (fun _ _ _ h => h) (Or.inl ⟨by rfl, ?_⟩) (by assumption) ?_
                      rotate_left
                      · (intro w hSw; (try dsimp only at hSw); go_simp; try with_reducible rfl)
                      (try simp only [Act.put, List.setIfInBounds_toArray, List.set_cons_zero, List.set_cons_succ])
                      refine wpAnyH_take (i := 4) (oi := ({ dst := some 184, op := Op.move (Operand.tmp 33), type := 3, pos := "more.go:124", after := #[{ on := 3, ground := Ground.guard }], guard := some (3, false) } : Oper)) (v := ?_) rfl (by kernel_rfl) (by kernel_rfl) (by kernel_rfl) (fun _ _ _ h => h) (Or.inl ⟨by rfl, ?_⟩) (by assumption) ?_
                      rotate_left
                      · (intro w hSw; (try dsimp only at hSw); go_simp; try with_reducible rfl)
                      (try simp only [Act.put, List.setIfInBounds_toArray, List.set_cons_zero, List.set_cons_succ])
                      refine wpAnyH_take (i := 5) (oi := ({ dst := some 185, op := Op.move (Operand.tmp 17), type := 3, pos := "more.go:124", after := #[{ on := 3, ground := Ground.guard }], guard := some (3, false) } : Oper)) (v := ?_) rfl (by kernel_rfl) (by kernel_rfl) (by kernel_rfl) (fun _ _ _ h => h) (Or.inl ⟨by rfl, ?_⟩) (by assumption) ?_
                      rotate_left
                      · (intro w hSw; (try dsimp only at hSw); go_simp; try with_reducible rfl)
                      (try simp only [Act.put, List.setIfInBounds_toArray, List.set_cons_zero, List.set_cons_succ])
                      refine wpAnyH_take (i := 6) (oi := ({ dst := some 186, op := Op.move (Operand.tmp 16), type := 3, pos := "more.go:124", after := #[{ on := 3, ground := Ground.guard }], guard := some (3, false) } : Oper)) (v := ?_) rfl (by kernel_rfl) (by kernel_rfl) (by kernel_rfl) (fun _ _ _ h => h) (Or.inl ⟨by rfl, ?_⟩) (by assumption) ?_
                      rotate_left
                      · (intro w hSw; (try dsimp only at hSw); go_simp; try with_reducible rfl)
                      (try simp only [Act.put, List.setIfInBounds_toArray, List.set_cons_zero, List.set_cons_succ])
                      refine wpAnyH_take (i := 7) (oi := ({ dst := some 187, op := Op.binOp BinOp.add 3 (Operand.tmp 185) (Operand.tmp 186) 3, type := 3, pos := "more.go:124", after := #[{ on := 5, ground := Ground.data }, { on := 6, ground := Ground.data }, { on := 3, ground := Ground.guard }], guard := some (3, false) } : Oper)) (v := ?_) rfl (by kernel_rfl) (by kernel_rfl) (by kernel_rfl) (fun _ _ _ h => h) (Or.inl ⟨by rfl, ?_⟩) (by assumption) ?_
                      rotate_left
                      · (intro w hSw; (try dsimp only at hSw); go_simp; try with_reducible rfl)
                      (try simp only [Act.put, List.setIfInBounds_toArray, List.set_cons_zero, List.set_cons_succ])
                      refine wpAnyH_take (i := 8) (oi := ({ dst := some 188, op := Op.binOp BinOp.geq 3 (Operand.tmp 184) (Operand.tmp 187) 3, type := 4, pos := "more.go:124", after := #[{ on := 4, ground := Ground.data }, { on := 7, ground := Ground.data }, { on := 3, ground := Ground.guard }], guard := some (3, false) } : Oper)) (v := ?_) rfl (by kernel_rfl) (by kernel_rfl) (by kernel_rfl) (fun _ _ _ h => h) (Or.inl ⟨by rfl, ?_⟩) (by assumption) ?_
                      rotate_left
                      · (intro w hSw; (try dsimp only at hSw); go_simp; try with_reducible rfl)
                      (try simp only [Act.put, List.setIfInBounds_toArray, List.set_cons_zero, List.set_cons_succ])
                      refine wpAnyH_take (i := 9) (oi := ({ dst := some 189, op := Op.pick (Operand.tmp 183) (Operand.const (Value.bool true)) (Operand.tmp 188), type := 4, pos := "more.go:124", after := #[{ on := 3, ground := Ground.data }, { on := 8, ground := Ground.data }], guard := none } : Oper)) (v := ?_) rfl (by kernel_rfl) (by kernel_rfl) (by kernel_rfl) (fun _ _ _ h => h) (Or.inl ⟨by rfl, ?_⟩) (by assumption) ?_
                      rotate_left
                      · (intro w hSw; (try dsimp only at hSw); go_simp; try with_reducible rfl)
                      (try simp only [Act.put, List.setIfInBounds_toArray, List.set_cons_zero, List.set_cons_succ])
                      refine wpAnyH_take (i := 10) (oi := ({ dst := some 190, op := Op.move (Operand.tmp 189), type := 4, pos := "more.go:124", after := #[{ on := 9, ground := Ground.data }, { on := 3, ground := Ground.chain }], guard := none } : Oper)) (v := ?_) rfl (by kernel_rfl) (by kernel_rfl) (by kernel_rfl) (fun _ _ _ h => h) (Or.inl ⟨by rfl, ?_⟩) (by assumption) ?_
                      rotate_left
                      · (intro w hSw; (try dsimp only at hSw); go_simp; try with_reducible rfl)
                      (try simp only [Act.put, List.setIfInBounds_toArray, List.set_cons_zero, List.set_cons_succ])
                      refine wpAnyH_take (i := 11) (oi := ({ dst := some 191, op := Op.load 28 (Operand.tmp 23), type := 28, pos := "more.go:124", after := #[{ on := 10, ground := Ground.guard }], guard := some (10, true) } : Oper)) (v := undef) rfl (by kernel_rfl) (by kernel_rfl) (by kernel_rfl) (fun _ _ _ h => h) (Or.inr ⟨by rfl, rfl⟩) (by assumption) ?_
                      (try simp only [Act.put, List.setIfInBounds_toArray, List.set_cons_zero, List.set_cons_succ])
                      refine wpAnyH_take (i := 12) (oi := ({ dst := some 192, op := Op.move (Operand.tmp 33), type := 3, pos := "more.go:124", after := #[{ on := 10, ground := Ground.guard }], guard := some (10, true) } : Oper)) (v := undef) rfl (by kernel_rfl) (by kernel_rfl) (by kernel_rfl) (fun _ _ _ h => h) (Or.inr ⟨by rfl, rfl⟩) (by assumption) ?_
                      (try simp only [Act.put, List.setIfInBounds_toArray, List.set_cons_zero, List.set_cons_succ])
                      refine wpAnyH_take (i := 13) (oi := ({ dst := some 193, op := Op.call { callee := Callee.value (Operand.func 53), args := #[Operand.tmp 191, Operand.tmp 192], argTypes := #[28, 3] }, type := 4, pos := "more.go:124", after := #[{ on := 11, ground := Ground.data }, { on := 12, ground := Ground.data }, { on := 10, ground := Ground.chain }, { on := 10, ground := Ground.guard }], guard := some (10, true) } : Oper)) (v := undef) rfl (by kernel_rfl) (by kernel_rfl) (by kernel_rfl) (fun _ _ _ h => h) (Or.inr ⟨by rfl, rfl⟩) (by assumption) ?_
                      (try simp only [Act.put, List.setIfInBounds_toArray, List.set_cons_zero, List.set_cons_succ])
                      refine wpAnyH_take (i := 14) (oi := ({ dst := some 194, op := Op.load 28 (Operand.tmp 14), type := 28, pos := "more.go:124", after := #[{ on := 10, ground := Ground.guard }], guard := some (10, true) } : Oper)) (v := undef) rfl (by kernel_rfl) (by kernel_rfl) (by kernel_rfl) (fun _ _ _ h => h) (Or.inr ⟨by rfl, rfl⟩) (by assumption) ?_
                      (try simp only [Act.put, List.setIfInBounds_toArray, List.set_cons_zero, List.set_cons_succ])
                      refine wpAnyH_take (i := 15) (oi := ({ dst := some 195, op := Op.move (Operand.tmp 33), type := 3, pos := "more.go:124", after := #[{ on := 10, ground := Ground.guard }], guard := some (10, true) } : Oper)) (v := undef) rfl (by kernel_rfl) (by kernel_rfl) (by kernel_rfl) (fun _ _ _ h => h) (Or.inr ⟨by rfl, rfl⟩) (by assumption) ?_
                      (try simp only [Act.put, List.setIfInBounds_toArray, List.set_cons_zero, List.set_cons_succ])
                      refine wpAnyH_take (i := 16) (oi := ({ dst := some 196, op := Op.call { callee := Callee.value (Operand.func 53), args := #[Operand.tmp 194, Operand.tmp 195], argTypes := #[28, 3] }, type := 4, pos := "more.go:124", after := #[{ on := 14, ground := Ground.data }, { on := 15, ground := Ground.data }, { on := 13, ground := Ground.chain }, { on := 10, ground := Ground.guard }], guard := some (10, true) } : Oper)) (v := undef) rfl (by kernel_rfl) (by kernel_rfl) (by kernel_rfl) (fun _ _ _ h => h) (Or.inr ⟨by rfl, rfl⟩) (by assumption) ?_
                      (try simp only [Act.put, List.setIfInBounds_toArray, List.set_cons_zero, List.set_cons_succ])
                      refine wpAnyH_take (i := 17) (oi := ({ dst := some 197, op := Op.binOp BinOp.neq 4 (Operand.tmp 193) (Operand.tmp 196) 4, type := 4, pos := "more.go:124", after := #[{ on := 13, ground := Ground.data }, { on := 16, ground := Ground.data }, { on := 10, ground := Ground.guard }], guard := some (10, true) } : Oper)) (v := undef) rfl (by kernel_rfl) (by kernel_rfl) (by kernel_rfl) (fun _ _ _ h => h) (Or.inr ⟨by rfl, rfl⟩) (by assumption) ?_
                      (try simp only [Act.put, List.setIfInBounds_toArray, List.set_cons_zero, List.set_cons_succ])
                      refine wpAnyH_take (i := 18) (oi := ({ dst := some 198, op := Op.pick (Operand.tmp 190) (Operand.tmp 197) (Operand.const (Value.bool false)), type := 4, pos := "more.go:124", after := #[{ on := 10, ground := Ground.data }, { on := 17, ground := Ground.data }], guard := none } : Oper)) (v := ?_) rfl (by kernel_rfl) (by kernel_rfl) (by kernel_rfl) (fun _ _ _ h => h) (Or.inl ⟨by rfl, ?_⟩) (by assumption) ?_
                      rotate_left
                      · (intro w hSw; (try dsimp only at hSw); go_simp; try with_reducible rfl)
                      (try simp only [Act.put, List.setIfInBounds_toArray, List.set_cons_zero, List.set_cons_succ])
                      refine wpAnyH_take (i := 19) (oi := ({ dst := some 199, op := Op.move (Operand.tmp 198), type := 4, pos := "more.go:124", after := #[{ on := 18, ground := Ground.data }, { on := 16, ground := Ground.chain }], guard := none } : Oper)) (v := ?_) rfl (by kernel_rfl) (by kernel_rfl) (by kernel_rfl) (fun _ _ _ h => h) (Or.inl ⟨by rfl, ?_⟩) (by assumption) ?_
                      rotate_left
                      · (intro w hSw; (try dsimp only at hSw); go_simp; try with_reducible rfl)
                      (try simp only [Act.put, List.setIfInBounds_toArray, List.set_cons_zero, List.set_cons_succ])
                      refine wpAnyH_take (i := 20) (oi := ({ dst := some 200, op := Op.load 28 (Operand.tmp 31), type := 28, pos := "more.go:124", after := #[{ on := 19, ground := Ground.guard }], guard := some (19, false) } : Oper)) (v := ?_) rfl (by kernel_rfl) (by kernel_rfl) (by kernel_rfl) (fun _ _ _ h => h) (Or.inl ⟨by rfl, ?_⟩) (by assumption) ?_
                      rotate_left
                      · (intro w hSw; (try dsimp only at hSw); go_simp; try with_reducible rfl)
                      (try simp only [Act.put, List.setIfInBounds_toArray, List.set_cons_zero, List.set_cons_succ])
                      refine wpAnyH_take (i := 21) (oi := ({ dst := some 201, op := Op.move (Operand.tmp 33), type := 3, pos := "more.go:124", after := #[{ on := 19, ground := Ground.guard }], guard := some (19, false) } : Oper)) (v := ?_) rfl (by kernel_rfl) (by kernel_rfl) (by kernel_rfl) (fun _ _ _ h => h) (Or.inl ⟨by rfl, ?_⟩) (by assumption) ?_
                      rotate_left
                      · (intro w hSw; (try dsimp only at hSw); go_simp; try with_reducible rfl)
                      (try simp only [Act.put, List.setIfInBounds_toArray, List.set_cons_zero, List.set_cons_succ])
                      refine wpAnyH_take (i := 23) (oi := ({ dst := some 203, op := Op.move (Operand.tmp 2), type := 5, pos := "more.go:124", after := #[{ on := 19, ground := Ground.guard }], guard := some (19, false) } : Oper)) (v := ?_) rfl (by kernel_rfl) (by kernel_rfl) (by kernel_rfl) (fun _ _ _ h => h) (Or.inl ⟨by rfl, ?_⟩) (by assumption) ?_
                      rotate_left
                      · (intro w hSw; (try dsimp only at hSw); go_simp; try with_reducible rfl)
                      (try simp only [Act.put, List.setIfInBounds_toArray, List.set_cons_zero, List.set_cons_succ])
                      refine wpAnyH_take (i := 24) (oi := ({ dst := some 204, op := Op.binOp BinOp.rem 5 (Operand.tmp 203) (Operand.const (Value.int IntKind.u8 16)) 5, type := 5, pos := "more.go:124", after := #[{ on := 23, ground := Ground.data }, { on := 19, ground := Ground.guard }], guard := some (19, false) } : Oper)) (v := ?_) rfl (by kernel_rfl) (by kernel_rfl) (by kernel_rfl) (fun _ _ _ h => h) (Or.inl ⟨by rfl, ?_⟩) (by assumption) ?_
                      rotate_left
                      · (intro w hSw; (try dsimp only at hSw); go_simp; try with_reducible rfl)
                      (try simp only [Act.put, List.setIfInBounds_toArray, List.set_cons_zero, List.set_cons_succ])
                      refine wpAnyH_take (i := 25) (oi := ({ dst := some 205, op := Op.convert 5 3 (Operand.tmp 204), type := 3, pos := "more.go:124", after := #[{ on := 24, ground := Ground.data }, { on := 19, ground := Ground.guard }], guard := some (19, false) } : Oper)) (v := ?_) rfl (by kernel_rfl) (by kernel_rfl) (by kernel_rfl) (fun _ _ _ h => h) (Or.inl ⟨by rfl, ?_⟩) (by assumption) ?_
                      rotate_left
                      · (intro w hSw; (try dsimp only at hSw); go_simp; try with_reducible rfl)
                      (try simp only [Act.put, List.setIfInBounds_toArray, List.set_cons_zero, List.set_cons_succ])
                      refine wpAnyH_take (i := 26) (oi := ({ dst := some 206, op := Op.move (Operand.tmp 34), type := 3, pos := "more.go:124", after := #[{ on := 19, ground := Ground.guard }], guard := some (19, false) } : Oper)) (v := ?_) rfl (by kernel_rfl) (by kernel_rfl) (by kernel_rfl) (fun _ _ _ h => h) (Or.inl ⟨by rfl, ?_⟩) (by assumption) ?_
                      rotate_left
                      · (intro w hSw; (try dsimp only at hSw); go_simp; try with_reducible rfl)
                      (try simp only [Act.put, List.setIfInBounds_toArray, List.set_cons_zero, List.set_cons_succ])
                      refine wpAnyH_take (i := 27) (oi := ({ dst := some 207, op := Op.binOp BinOp.shr 3 (Operand.tmp 205) (Operand.tmp 206) 3, type := 3, pos := "more.go:124", after := #[{ on := 25, ground := Ground.data }, { on := 26, ground := Ground.data }, { on := 19, ground := Ground.guard }], guard := some (19, false) } : Oper)) (v := ?_) rfl (by kernel_rfl) (by kernel_rfl) (by kernel_rfl) (fun _ _ _ h => h) (Or.inl ⟨by rfl, ?_⟩) (by assumption) ?_
                      rotate_left
                      · (intro w hSw; (try dsimp only at hSw); go_simp; try with_reducible rfl)
                      (try simp only [Act.put, List.setIfInBounds_toArray, List.set_cons_zero, List.set_cons_succ])
                      refine wpAnyH_take (i := 28) (oi := ({ dst := some 208, op := Op.binOp BinOp.and 3 (Operand.tmp 207) (Operand.const (Value.int IntKind.i64 1)) 3, type := 3, pos := "more.go:124", after := #[{ on := 27, ground := Ground.data }, { on := 19, ground := Ground.guard }], guard := some (19, false) } : Oper)) (v := ?_) rfl (by kernel_rfl) (by kernel_rfl) (by kernel_rfl) (fun _ _ _ h => h) (Or.inl ⟨by rfl, ?_⟩) (by assumption) ?_
                      rotate_left
                      · (intro w hSw; (try dsimp only at hSw); go_simp; try with_reducible rfl)
                      (try simp only [Act.put, List.setIfInBounds_toArray, List.set_cons_zero, List.set_cons_succ])
                      refine wpAnyH_take (i := 29) (oi := ({ dst := some 209, op := Op.binOp BinOp.eql 3 (Operand.tmp 208) (Operand.const (Value.int IntKind.i64 1)) 3, type := 4, pos := "more.go:124", after := #[{ on := 28, ground := Ground.data }, { on := 19, ground := Ground.guard }], guard := some (19, false) } : Oper)) (v := ?_) rfl (by kernel_rfl) (by kernel_rfl) (by kernel_rfl) (fun _ _ _ h => h) (Or.inl ⟨by rfl, ?_⟩) (by assumption) ?_
                      rotate_left
                      · (intro w hSw; (try dsimp only at hSw); go_simp; try with_reducible rfl)
                      (try simp only [Act.put, List.setIfInBounds_toArray, List.set_cons_zero, List.set_cons_succ])
                      refine wpAnyH_ready (rs := [22]) (by kernel_rfl) (by simp) ?_
                      refine (AllReadyH.cons (o := ({ dst := some 202, op := Op.call { callee := Callee.value (Operand.func 53), args := #[Operand.tmp 200, Operand.tmp 201], argTypes := #[28, 3] }, type := 4, pos := "more.go:124", after := #[{ on := 20, ground := Ground.data }, { on := 21, ground := Ground.data }, { on := 19, ground := Ground.chain }, { on := 19, ground := Ground.guard }], guard := some (19, false) } : Oper)) rfl (fun K hK => ?_) AllReadyH.nil)
                      refine ite_prop_pos (by rfl) ?_; go_simp
                      refine (HC3.out _ (Below.refl _ _).drew).mono ?_
                      rintro e v1 ⟨rfl, u1⟩
                      have X1 : Below wx22.heap.size wx22 v1 := (Below.refl _ _).drew.trans u1
                      refine hK.out _ _ ?_ (fun hH1 => ?_)
                      · exact HKP.out _ X1
                      clear hK K hH0
                      (try simp only [Act.put, List.setIfInBounds_toArray, List.set_cons_zero, List.set_cons_succ])
                      refine wpAnyH_take (i := 30) (oi := ({ dst := some 210, op := Op.binOp BinOp.neq 4 (Operand.tmp 202) (Operand.tmp 209) 4, type := 4, pos := "more.go:124", after := #[{ on := 22, ground := Ground.data }, { on := 29, ground := Ground.data }, { on := 19, ground := Ground.guard }], guard := some (19, false) } : Oper)) (v := ?_) rfl (by kernel_rfl) (by kernel_rfl) (by kernel_rfl) (fun _ _ _ h => h) (Or.inl ⟨by rfl, ?_⟩) (by assumption) ?_
                      rotate_left
                      · (intro w hSw; (try dsimp only at hSw); go_simp; try with_reducible rfl)
                      (try simp only [Act.put, List.setIfInBounds_toArray, List.set_cons_zero, List.set_cons_succ])
                      refine wpAnyH_take (i := 31) (oi := ({ dst := some 211, op := Op.pick (Operand.tmp 199) (Operand.const (Value.bool true)) (Operand.tmp 210), type := 4, pos := "more.go:124", after := #[{ on := 19, ground := Ground.data }, { on := 30, ground := Ground.data }], guard := none } : Oper)) (v := ?_) rfl (by kernel_rfl) (by kernel_rfl) (by kernel_rfl) (fun _ _ _ h => h) (Or.inl ⟨by rfl, ?_⟩) (by assumption) ?_
                      rotate_left
                      · (intro w hSw; (try dsimp only at hSw); go_simp; try with_reducible rfl)
                      (try simp only [Act.put, List.setIfInBounds_toArray, List.set_cons_zero, List.set_cons_succ])
                      refine wpAnyH_done (by kernel_rfl) ?_ _
                      refine NoPanic.normal ?_
                      go_wp2
                      go_meet
                      exact ⟨rfl, X1⟩
                  · have hB1 : ¬ (N : Int) < at' := by omega
                    have hD1 : ((at' : Int) + size) ≤ N := by omega
                    have hout : N < at' ∨ at' + size ≤ N := .inr hD
                    clear hB hD
                    as_aux_lemma =>
                      refine wp_region_noPanic ?_
                      refine wp_region_held_drew (S := (fun w' => w'.cell? ⟨dep, 0, none⟩ = some (.bool sde) ∧ w'.cell? ⟨dep, 1, none⟩ = some (.slice ade nde cpde) ∧ w'.cell? ⟨b1, 0, none⟩ = some (.bool sx) ∧ w'.cell? ⟨b1, 1, none⟩ = some (.slice bx m1 k1) ∧ w'.cell? ⟨zep, 0, none⟩ = some (.bool sze) ∧ w'.cell? ⟨zep, 1, none⟩ = some (.slice aze nze cpze))) (by kernel_rfl) ?_ (fun hH0 => ?_)
                      · exact HKP.out _ (Below.refl _ _).drew
                      refine wpAnyH_take (i := 0) (oi := ({ dst := some 180, op := Op.move (Operand.tmp 33), type := 3, pos := "more.go:124", after := #[], guard := none } : Oper)) (v := ?_) rfl (by kernel_rfl) (by kernel_rfl) (by kernel_rfl) (fun _ _ _ h => h) (Or.inl ⟨by rfl, ?_⟩) (by assumption) ?_
                      rotate_left
                      · (intro w hSw; (try dsimp only at hSw); go_simp; try with_reducible rfl)
                      (try simp only [Act.put, List.setIfInBounds_toArray, List.set_cons_zero, List.set_cons_succ])
                      refine wpAnyH_take (i := 1) (oi := ({ dst := some 181, op := Op.move (Operand.tmp 17), type := 3, pos := "more.go:124", after := #[], guard := none } : Oper)) (v := ?_) rfl (by kernel_rfl) (by kernel_rfl) (by kernel_rfl) (fun _ _ _ h => h) (Or.inl ⟨by rfl, ?_⟩) (by assumption) ?_
                      rotate_left
                      · (intro w hSw; (try dsimp only at hSw); go_simp; try with_reducible rfl)
                      (try simp only [Act.put, List.setIfInBounds_toArray, List.set_cons_zero, List.set_cons_succ])
                      refine wpAnyH_take (i := 2) (oi := ({ dst := some 182, op := Op.binOp BinOp.lss 3 (Operand.tmp 180) (Operand.tmp 181) 3, type := 4, pos := "more.go:124", after := #[{ on := 0, ground := Ground.data }, { on := 1, ground := Ground.data }], guard := none } : Oper)) (v := ?_) rfl (by kernel_rfl) (by kernel_rfl) (by kernel_rfl) (fun _ _ _ h => h) (Or.inl ⟨by rfl, ?_⟩) (by assumption) ?_
                      rotate_left
                      · (intro w hSw; (try dsimp only at hSw); go_simp; try with_reducible rfl)
                      (try simp only [Act.put, List.setIfInBounds_toArray, List.set_cons_zero, List.set_cons_succ])
                      refine wpAnyH_take (i := 3) (oi := ({ dst := some 183, op := Op.move (Operand.tmp 182), type := 4, pos := "more.go:124", after := #[{ on := 2, ground := Ground.data }], guard := none } : Oper)) (v := ?_) rfl (by kernel_rfl) (by kernel_rfl) (by kernel_rfl) (fun _ _ _ h => h) (Or.inl ⟨by rfl, ?_⟩) (by assumption) ?_
                      rotate_left
                      · (intro w hSw; (try dsimp only at hSw); go_simp; try with_reducible rfl)
                      (try simp only [Act.put, List.setIfInBounds_toArray, List.set_cons_zero, List.set_cons_succ])
                      refine wpAnyH_take (i := 4) (oi := ({ dst := some 184, op := Op.move (Operand.tmp 33), type := 3, pos := "more.go:124", after := #[{ on := 3, ground := Ground.guard }], guard := some (3, false) } : Oper)) (v := ?_) rfl (by kernel_rfl) (by kernel_rfl) (by kernel_rfl) (fun _ _ _ h => h) (Or.inl ⟨by rfl, ?_⟩) (by assumption) ?_
                      rotate_left
                      · (intro w hSw; (try dsimp only at hSw); go_simp; try with_reducible rfl)
                      (try simp only [Act.put, List.setIfInBounds_toArray, List.set_cons_zero, List.set_cons_succ])
                      refine wpAnyH_take (i := 5) (oi := ({ dst := some 185, op := Op.move (Operand.tmp 17), type := 3, pos := "more.go:124", after := #[{ on := 3, ground := Ground.guard }], guard := some (3, false) } : Oper)) (v := ?_) rfl (by kernel_rfl) (by kernel_rfl) (by kernel_rfl) (fun _ _ _ h => h) (Or.inl ⟨by rfl, ?_⟩) (by assumption) ?_
                      rotate_left
                      · (intro w hSw; (try dsimp only at hSw); go_simp; try with_reducible rfl)
                      (try simp only [Act.put, List.setIfInBounds_toArray, List.set_cons_zero, List.set_cons_succ])
                      refine wpAnyH_take (i := 6) (oi := ({ dst := some 186, op := Op.move (Operand.tmp 16), type := 3, pos := "more.go:124", after := #[{ on := 3, ground := Ground.guard }], guard := some (3, false) } : Oper)) (v := ?_) rfl (by kernel_rfl) (by kernel_rfl) (by kernel_rfl) (fun _ _ _ h => h) (Or.inl ⟨by rfl, ?_⟩) (by assumption) ?_
                      rotate_left
                      · (intro w hSw; (try dsimp only at hSw); go_simp; try with_reducible rfl)
                      (try simp only [Act.put, List.setIfInBounds_toArray, List.set_cons_zero, List.set_cons_succ])
                      refine wpAnyH_take (i := 7) (oi := ({ dst := some 187, op := Op.binOp BinOp.add 3 (Operand.tmp 185) (Operand.tmp 186) 3, type := 3, pos := "more.go:124", after := #[{ on := 5, ground := Ground.data }, { on := 6, ground := Ground.data }, { on := 3, ground := Ground.guard }], guard := some (3, false) } : Oper)) (v := ?_) rfl (by kernel_rfl) (by kernel_rfl) (by kernel_rfl) (fun _ _ _ h => h) (Or.inl ⟨by rfl, ?_⟩) (by assumption) ?_
                      rotate_left
                      · (intro w hSw; (try dsimp only at hSw); go_simp; try with_reducible rfl)
                      (try simp only [Act.put, List.setIfInBounds_toArray, List.set_cons_zero, List.set_cons_succ])
                      refine wpAnyH_take (i := 8) (oi := ({ dst := some 188, op := Op.binOp BinOp.geq 3 (Operand.tmp 184) (Operand.tmp 187) 3, type := 4, pos := "more.go:124", after := #[{ on := 4, ground := Ground.data }, { on := 7, ground := Ground.data }, { on := 3, ground := Ground.guard }], guard := some (3, false) } : Oper)) (v := ?_) rfl (by kernel_rfl) (by kernel_rfl) (by kernel_rfl) (fun _ _ _ h => h) (Or.inl ⟨by rfl, ?_⟩) (by assumption) ?_
                      rotate_left
                      · (intro w hSw; (try dsimp only at hSw); go_simp; try with_reducible rfl)
                      (try simp only [Act.put, List.setIfInBounds_toArray, List.set_cons_zero, List.set_cons_succ])
                      refine wpAnyH_take (i := 9) (oi := ({ dst := some 189, op := Op.pick (Operand.tmp 183) (Operand.const (Value.bool true)) (Operand.tmp 188), type := 4, pos := "more.go:124", after := #[{ on := 3, ground := Ground.data }, { on := 8, ground := Ground.data }], guard := none } : Oper)) (v := ?_) rfl (by kernel_rfl) (by kernel_rfl) (by kernel_rfl) (fun _ _ _ h => h) (Or.inl ⟨by rfl, ?_⟩) (by assumption) ?_
                      rotate_left
                      · (intro w hSw; (try dsimp only at hSw); go_simp; try with_reducible rfl)
                      (try simp only [Act.put, List.setIfInBounds_toArray, List.set_cons_zero, List.set_cons_succ])
                      refine wpAnyH_take (i := 10) (oi := ({ dst := some 190, op := Op.move (Operand.tmp 189), type := 4, pos := "more.go:124", after := #[{ on := 9, ground := Ground.data }, { on := 3, ground := Ground.chain }], guard := none } : Oper)) (v := ?_) rfl (by kernel_rfl) (by kernel_rfl) (by kernel_rfl) (fun _ _ _ h => h) (Or.inl ⟨by rfl, ?_⟩) (by assumption) ?_
                      rotate_left
                      · (intro w hSw; (try dsimp only at hSw); go_simp; try with_reducible rfl)
                      (try simp only [Act.put, List.setIfInBounds_toArray, List.set_cons_zero, List.set_cons_succ])
                      refine wpAnyH_take (i := 11) (oi := ({ dst := some 191, op := Op.load 28 (Operand.tmp 23), type := 28, pos := "more.go:124", after := #[{ on := 10, ground := Ground.guard }], guard := some (10, true) } : Oper)) (v := ?_) rfl (by kernel_rfl) (by kernel_rfl) (by kernel_rfl) (fun _ _ _ h => h) (Or.inl ⟨by rfl, ?_⟩) (by assumption) ?_
                      rotate_left
                      · (intro w hSw; (try dsimp only at hSw); go_simp; try with_reducible rfl)
                      (try simp only [Act.put, List.setIfInBounds_toArray, List.set_cons_zero, List.set_cons_succ])
                      refine wpAnyH_take (i := 12) (oi := ({ dst := some 192, op := Op.move (Operand.tmp 33), type := 3, pos := "more.go:124", after := #[{ on := 10, ground := Ground.guard }], guard := some (10, true) } : Oper)) (v := ?_) rfl (by kernel_rfl) (by kernel_rfl) (by kernel_rfl) (fun _ _ _ h => h) (Or.inl ⟨by rfl, ?_⟩) (by assumption) ?_
                      rotate_left
                      · (intro w hSw; (try dsimp only at hSw); go_simp; try with_reducible rfl)
                      (try simp only [Act.put, List.setIfInBounds_toArray, List.set_cons_zero, List.set_cons_succ])
                      refine wpAnyH_take (i := 14) (oi := ({ dst := some 194, op := Op.load 28 (Operand.tmp 14), type := 28, pos := "more.go:124", after := #[{ on := 10, ground := Ground.guard }], guard := some (10, true) } : Oper)) (v := ?_) rfl (by kernel_rfl) (by kernel_rfl) (by kernel_rfl) (fun _ _ _ h => h) (Or.inl ⟨by rfl, ?_⟩) (by assumption) ?_
                      rotate_left
                      · (intro w hSw; (try dsimp only at hSw); go_simp; try with_reducible rfl)
                      (try simp only [Act.put, List.setIfInBounds_toArray, List.set_cons_zero, List.set_cons_succ])
                      refine wpAnyH_take (i := 15) (oi := ({ dst := some 195, op := Op.move (Operand.tmp 33), type := 3, pos := "more.go:124", after := #[{ on := 10, ground := Ground.guard }], guard := some (10, true) } : Oper)) (v := ?_) rfl (by kernel_rfl) (by kernel_rfl) (by kernel_rfl) (fun _ _ _ h => h) (Or.inl ⟨by rfl, ?_⟩) (by assumption) ?_
                      rotate_left
                      · (intro w hSw; (try dsimp only at hSw); go_simp; try with_reducible rfl)
                      (try simp only [Act.put, List.setIfInBounds_toArray, List.set_cons_zero, List.set_cons_succ])
                      refine wpAnyH_ready (rs := [13]) (by kernel_rfl) (by simp) ?_
                      refine (AllReadyH.cons (o := ({ dst := some 193, op := Op.call { callee := Callee.value (Operand.func 53), args := #[Operand.tmp 191, Operand.tmp 192], argTypes := #[28, 3] }, type := 4, pos := "more.go:124", after := #[{ on := 11, ground := Ground.data }, { on := 12, ground := Ground.data }, { on := 10, ground := Ground.chain }, { on := 10, ground := Ground.guard }], guard := some (10, true) } : Oper)) rfl (fun K hK => ?_) AllReadyH.nil)
                      refine ite_prop_pos (by rfl) ?_; go_simp
                      refine (HC1.out hout _ (Below.refl _ _).drew).mono ?_
                      rintro e v1 ⟨rfl, u1⟩
                      have X1 : Below wx22.heap.size wx22 v1 := (Below.refl _ _).drew.trans u1
                      refine hK.out _ _ ?_ (fun hH1 => ?_)
                      · exact HKP.out _ X1
                      clear hK K hH0
                      (try simp only [Act.put, List.setIfInBounds_toArray, List.set_cons_zero, List.set_cons_succ])
                      refine wpAnyH_ready (rs := [16]) (by kernel_rfl) (by simp) ?_
                      refine (AllReadyH.cons (o := ({ dst := some 196, op := Op.call { callee := Callee.value (Operand.func 53), args := #[Operand.tmp 194, Operand.tmp 195], argTypes := #[28, 3] }, type := 4, pos := "more.go:124", after := #[{ on := 14, ground := Ground.data }, { on := 15, ground := Ground.data }, { on := 13, ground := Ground.chain }, { on := 10, ground := Ground.guard }], guard := some (10, true) } : Oper)) rfl (fun K hK => ?_) AllReadyH.nil)
                      refine ite_prop_pos (by rfl) ?_; go_simp
                      refine (HC2.out _ X1).mono ?_
                      rintro e v2 ⟨rfl, u2⟩
                      have X2 : Below wx22.heap.size wx22 v2 := X1.trans (u2.mono X1.size)
                      refine hK.out _ _ ?_ (fun hH2 => ?_)
                      · exact HKP.out _ X2
                      clear hK K hH1
                      (try simp only [Act.put, List.setIfInBounds_toArray, List.set_cons_zero, List.set_cons_succ])
                      refine wpAnyH_take (i := 17) (oi := ({ dst := some 197, op := Op.binOp BinOp.neq 4 (Operand.tmp 193) (Operand.tmp 196) 4, type := 4, pos := "more.go:124", after := #[{ on := 13, ground := Ground.data }, { on := 16, ground := Ground.data }, { on := 10, ground := Ground.guard }], guard := some (10, true) } : Oper)) (v := ?_) rfl (by kernel_rfl) (by kernel_rfl) (by kernel_rfl) (fun _ _ _ h => h) (Or.inl ⟨by rfl, ?_⟩) (by assumption) ?_
                      rotate_left
                      · (intro w hSw; (try dsimp only at hSw); go_simp; try with_reducible rfl)
                      (try simp only [Act.put, List.setIfInBounds_toArray, List.set_cons_zero, List.set_cons_succ])
                      refine wpAnyH_take (i := 18) (oi := ({ dst := some 198, op := Op.pick (Operand.tmp 190) (Operand.tmp 197) (Operand.const (Value.bool false)), type := 4, pos := "more.go:124", after := #[{ on := 10, ground := Ground.data }, { on := 17, ground := Ground.data }], guard := none } : Oper)) (v := ?_) rfl (by kernel_rfl) (by kernel_rfl) (by kernel_rfl) (fun _ _ _ h => h) (Or.inl ⟨by rfl, ?_⟩) (by assumption) ?_
                      rotate_left
                      · (intro w hSw; (try dsimp only at hSw); go_simp; try with_reducible rfl)
                      (try simp only [Act.put, List.setIfInBounds_toArray, List.set_cons_zero, List.set_cons_succ])
                      refine wpAnyH_take (i := 19) (oi := ({ dst := some 199, op := Op.move (Operand.tmp 198), type := 4, pos := "more.go:124", after := #[{ on := 18, ground := Ground.data }, { on := 16, ground := Ground.chain }], guard := none } : Oper)) (v := ?_) rfl (by kernel_rfl) (by kernel_rfl) (by kernel_rfl) (fun _ _ _ h => h) (Or.inl ⟨by rfl, ?_⟩) (by assumption) ?_
                      rotate_left
                      · (intro w hSw; (try dsimp only at hSw); go_simp; try with_reducible rfl)
                      (try simp only [Act.put, List.setIfInBounds_toArray, List.set_cons_zero, List.set_cons_succ])
                      refine wpAnyH_take (i := 20) (oi := ({ dst := some 200, op := Op.load 28 (Operand.tmp 31), type := 28, pos := "more.go:124", after := #[{ on := 19, ground := Ground.guard }], guard := some (19, false) } : Oper)) (v := ?_) rfl (by kernel_rfl) (by kernel_rfl) (by kernel_rfl) (fun _ _ _ h => h) (Or.inl ⟨by rfl, ?_⟩) (by assumption) ?_
                      rotate_left
                      · (intro w hSw; (try dsimp only at hSw); go_simp; try with_reducible rfl)
                      (try simp only [Act.put, List.setIfInBounds_toArray, List.set_cons_zero, List.set_cons_succ])
                      refine wpAnyH_take (i := 21) (oi := ({ dst := some 201, op := Op.move (Operand.tmp 33), type := 3, pos := "more.go:124", after := #[{ on := 19, ground := Ground.guard }], guard := some (19, false) } : Oper)) (v := ?_) rfl (by kernel_rfl) (by kernel_rfl) (by kernel_rfl) (fun _ _ _ h => h) (Or.inl ⟨by rfl, ?_⟩) (by assumption) ?_
                      rotate_left
                      · (intro w hSw; (try dsimp only at hSw); go_simp; try with_reducible rfl)
                      (try simp only [Act.put, List.setIfInBounds_toArray, List.set_cons_zero, List.set_cons_succ])
                      refine wpAnyH_take (i := 23) (oi := ({ dst := some 203, op := Op.move (Operand.tmp 2), type := 5, pos := "more.go:124", after := #[{ on := 19, ground := Ground.guard }], guard := some (19, false) } : Oper)) (v := ?_) rfl (by kernel_rfl) (by kernel_rfl) (by kernel_rfl) (fun _ _ _ h => h) (Or.inl ⟨by rfl, ?_⟩) (by assumption) ?_
                      rotate_left
                      · (intro w hSw; (try dsimp only at hSw); go_simp; try with_reducible rfl)
                      (try simp only [Act.put, List.setIfInBounds_toArray, List.set_cons_zero, List.set_cons_succ])
                      refine wpAnyH_take (i := 24) (oi := ({ dst := some 204, op := Op.binOp BinOp.rem 5 (Operand.tmp 203) (Operand.const (Value.int IntKind.u8 16)) 5, type := 5, pos := "more.go:124", after := #[{ on := 23, ground := Ground.data }, { on := 19, ground := Ground.guard }], guard := some (19, false) } : Oper)) (v := ?_) rfl (by kernel_rfl) (by kernel_rfl) (by kernel_rfl) (fun _ _ _ h => h) (Or.inl ⟨by rfl, ?_⟩) (by assumption) ?_
                      rotate_left
                      · (intro w hSw; (try dsimp only at hSw); go_simp; try with_reducible rfl)
                      (try simp only [Act.put, List.setIfInBounds_toArray, List.set_cons_zero, List.set_cons_succ])
                      refine wpAnyH_take (i := 25) (oi := ({ dst := some 205, op := Op.convert 5 3 (Operand.tmp 204), type := 3, pos := "more.go:124", after := #[{ on := 24, ground := Ground.data }, { on := 19, ground := Ground.guard }], guard := some (19, false) } : Oper)) (v := ?_) rfl (by kernel_rfl) (by kernel_rfl) (by kernel_rfl) (fun _ _ _ h => h) (Or.inl ⟨by rfl, ?_⟩) (by assumption) ?_
                      rotate_left
                      · (intro w hSw; (try dsimp only at hSw); go_simp; try with_reducible rfl)
                      (try simp only [Act.put, List.setIfInBounds_toArray, List.set_cons_zero, List.set_cons_succ])
                      refine wpAnyH_take (i := 26) (oi := ({ dst := some 206, op := Op.move (Operand.tmp 34), type := 3, pos := "more.go:124", after := #[{ on := 19, ground := Ground.guard }], guard := some (19, false) } : Oper)) (v := ?_) rfl (by kernel_rfl) (by kernel_rfl) (by kernel_rfl) (fun _ _ _ h => h) (Or.inl ⟨by rfl, ?_⟩) (by assumption) ?_
                      rotate_left
                      · (intro w hSw; (try dsimp only at hSw); go_simp; try with_reducible rfl)
                      (try simp only [Act.put, List.setIfInBounds_toArray, List.set_cons_zero, List.set_cons_succ])
                      refine wpAnyH_take (i := 27) (oi := ({ dst := some 207, op := Op.binOp BinOp.shr 3 (Operand.tmp 205) (Operand.tmp 206) 3, type := 3, pos := "more.go:124", after := #[{ on := 25, ground := Ground.data }, { on := 26, ground := Ground.data }, { on := 19, ground := Ground.guard }], guard := some (19, false) } : Oper)) (v := ?_) rfl (by kernel_rfl) (by kernel_rfl) (by kernel_rfl) (fun _ _ _ h => h) (Or.inl ⟨by rfl, ?_⟩) (by assumption) ?_
                      rotate_left
                      · (intro w hSw; (try dsimp only at hSw); go_simp; try with_reducible rfl)
                      (try simp only [Act.put, List.setIfInBounds_toArray, List.set_cons_zero, List.set_cons_succ])
                      refine wpAnyH_take (i := 28) (oi := ({ dst := some 208, op := Op.binOp BinOp.and 3 (Operand.tmp 207) (Operand.const (Value.int IntKind.i64 1)) 3, type := 3, pos := "more.go:124", after := #[{ on := 27, ground := Ground.data }, { on := 19, ground := Ground.guard }], guard := some (19, false) } : Oper)) (v := ?_) rfl (by kernel_rfl) (by kernel_rfl) (by kernel_rfl) (fun _ _ _ h => h) (Or.inl ⟨by rfl, ?_⟩) (by assumption) ?_
                      rotate_left
                      · (intro w hSw; (try dsimp only at hSw); go_simp; try with_reducible rfl)
                      (try simp only [Act.put, List.setIfInBounds_toArray, List.set_cons_zero, List.set_cons_succ])
                      refine wpAnyH_take (i := 29) (oi := ({ dst := some 209, op := Op.binOp BinOp.eql 3 (Operand.tmp 208) (Operand.const (Value.int IntKind.i64 1)) 3, type := 4, pos := "more.go:124", after := #[{ on := 28, ground := Ground.data }, { on := 19, ground := Ground.guard }], guard := some (19, false) } : Oper)) (v := ?_) rfl (by kernel_rfl) (by kernel_rfl) (by kernel_rfl) (fun _ _ _ h => h) (Or.inl ⟨by rfl, ?_⟩) (by assumption) ?_
                      rotate_left
                      · (intro w hSw; (try dsimp only at hSw); go_simp; try with_reducible rfl)
                      (try simp only [Act.put, List.setIfInBounds_toArray, List.set_cons_zero, List.set_cons_succ])
                      refine wpAnyH_ready (rs := [22]) (by kernel_rfl) (by simp) ?_
                      refine (AllReadyH.cons (o := ({ dst := some 202, op := Op.call { callee := Callee.value (Operand.func 53), args := #[Operand.tmp 200, Operand.tmp 201], argTypes := #[28, 3] }, type := 4, pos := "more.go:124", after := #[{ on := 20, ground := Ground.data }, { on := 21, ground := Ground.data }, { on := 19, ground := Ground.chain }, { on := 19, ground := Ground.guard }], guard := some (19, false) } : Oper)) rfl (fun K hK => ?_) AllReadyH.nil)
                      refine ite_prop_pos (by rfl) ?_; go_simp
                      refine (HC3.out _ X2).mono ?_
                      rintro e v3 ⟨rfl, u3⟩
                      have X3 : Below wx22.heap.size wx22 v3 := X2.trans (u3.mono X2.size)
                      refine hK.out _ _ ?_ (fun hH3 => ?_)
                      · exact HKP.out _ X3
                      clear hK K hH2
                      (try simp only [Act.put, List.setIfInBounds_toArray, List.set_cons_zero, List.set_cons_succ])
                      refine wpAnyH_take (i := 30) (oi := ({ dst := some 210, op := Op.binOp BinOp.neq 4 (Operand.tmp 202) (Operand.tmp 209) 4, type := 4, pos := "more.go:124", after := #[{ on := 22, ground := Ground.data }, { on := 29, ground := Ground.data }, { on := 19, ground := Ground.guard }], guard := some (19, false) } : Oper)) (v := ?_) rfl (by kernel_rfl) (by kernel_rfl) (by kernel_rfl) (fun _ _ _ h => h) (Or.inl ⟨by rfl, ?_⟩) (by assumption) ?_
                      rotate_left
                      · (intro w hSw; (try dsimp only at hSw); go_simp; try with_reducible rfl)
                      (try simp only [Act.put, List.setIfInBounds_toArray, List.set_cons_zero, List.set_cons_succ])
                      refine wpAnyH_take (i := 31) (oi := ({ dst := some 211, op := Op.pick (Operand.tmp 199) (Operand.const (Value.bool true)) (Operand.tmp 210), type := 4, pos := "more.go:124", after := #[{ on := 19, ground := Ground.data }, { on := 30, ground := Ground.data }], guard := none } : Oper)) (v := ?_) rfl (by kernel_rfl) (by kernel_rfl) (by kernel_rfl) (fun _ _ _ h => h) (Or.inl ⟨by rfl, ?_⟩) (by assumption) ?_
                      rotate_left
                      · (intro w hSw; (try dsimp only at hSw); go_simp; try with_reducible rfl)
                      (try simp only [Act.put, List.setIfInBounds_toArray, List.set_cons_zero, List.set_cons_succ])
                      refine wpAnyH_done (by kernel_rfl) ?_ _
                      refine NoPanic.normal ?_
                      go_wp2
                      go_meet
                      exact ⟨rfl, X3⟩
            case rest =>
              obtain ⟨rfl, hbw⟩ := hcut
              rename World => wx23
              replace VS := Lib.hid (VS.out.below hbw)
              replace HW := Lib.hid (HW.out.trans (hbw.mono HW.out.size))
              clear hbw
              clear HC1 HC2 HC3 HKP HZB hand hdb
              obtain ⟨Xc0, Xc1, -, -, Xl⟩ := VS.out _ (.tail _ (.tail _ (.tail _ (.tail _ (.tail _ (.tail _ (.tail _ (.tail _ (.tail _ (.head _))))))))))
              dsimp only at Xc0 Xc1 Xl
              go_wp2_with fail
              clear Xc0 Xc1 Xl
              refine (shift_nonneg _ _ _ _ _ _ X size (show IntAt wx23 sx bx m1 k1 zr X from (VS.out _ (.tail _ (.tail _ (.tail _ (.tail _ (.tail _ (.tail _ (.tail _ (.tail _ (.tail _ (.head _))))))))))).it) (by omega) (by omega)).mono ?_
              rintro e wc24 ⟨sup, aup, nup, cpup, zup, rfl, iup, gup, hbwc24⟩
              have Iup := Lib.hid iup
              clear iup
              replace VS := Lib.hid (VS.out.below hbwc24)
              replace HW := Lib.hid (HW.out.trans (hbwc24.mono HW.out.size))
              clear hbwc24
              go_wp2_with fail
              obtain ⟨wg25, hwg25⟩ : ∃ wg25, wg25 = wc24.alloc (.cells #[.bool sup, .slice aup nup cpup] 28) := ⟨_, rfl⟩
              have bwg25 : Below wc24.heap.size wc24 wg25 := by rw [hwg25]; go_grown
              have nwg25 : BAt wg25 ⟨wc24.heap.size, sup, aup, nup, cpup, zup, (X * 2 ^ size)⟩ := by rw [hwg25]; exact BAt.new Iup.out (by omega)
              rw [← hwg25]
              clear hwg25
              obtain ⟨upp, hupp⟩ : ∃ p, p = wc24.heap.size := ⟨_, rfl⟩
              rw [← hupp] at nwg25 ⊢
              replace VS := Lib.hid ((VS.out.below bwg25).push nwg25)
              replace HW := Lib.hid (HW.out.trans (bwg25.mono HW.out.size))
              clear nwg25 bwg25 hupp Iup
              refine (shift_down _ _ _ _ _ _ (X * 2 ^ size) size (show IntAt wg25 sup aup nup cpup zup (X * 2 ^ size) from (VS.out _ (.head _)).it) (by omega) (by omega)).mono ?_
              rintro e wc26 ⟨sdn, adn, ndn, cpdn, zdn, rfl, idn, gdn, hbwc26⟩
              have Idn := Lib.hid idn
              clear idn
              replace VS := Lib.hid (VS.out.below hbwc26)
              replace HW := Lib.hid (HW.out.trans (hbwc26.mono HW.out.size))
              clear hbwc26
              obtain ⟨Xc0, Xc1, -, -, Xl⟩ := VS.out _ (.tail _ (.tail _ (.tail _ (.tail _ (.tail _ (.tail _ (.tail _ (.tail _ (.tail _ (.tail _ (.head _)))))))))))
              dsimp only at Xc0 Xc1 Xl
              go_wp2_with fail
              obtain ⟨wg27, hwg27⟩ : ∃ wg27, wg27 = wc26.alloc (.cells #[.bool sdn, .slice adn ndn cpdn] 28) := ⟨_, rfl⟩
              have bwg27 : Below wc26.heap.size wc26 wg27 := by rw [hwg27]; go_grown
              have nwg27 : BAt wg27 ⟨wc26.heap.size, sdn, adn, ndn, cpdn, zdn, (X * 2 ^ size / 2 ^ size)⟩ := by rw [hwg27]; exact BAt.new Idn.out (by omega)
              rw [← hwg27]
              clear hwg27
              obtain ⟨dnp, hdnp⟩ : ∃ p, p = wc26.heap.size := ⟨_, rfl⟩
              rw [← hdnp] at nwg27 ⊢
              replace VS := Lib.hid ((VS.out.below bwg27).push nwg27)
              replace HW := Lib.hid (HW.out.trans (bwg27.mono HW.out.size))
              clear Xc0 Xc1 Xl
              clear nwg27 bwg27 hdnp Idn
              refine (same_yes (show IntAt wg27 sdn adn ndn cpdn zdn (X * 2 ^ size / 2 ^ size) from (VS.out _ (.head _)).it) (show IntAt wg27 sx bx m1 k1 zr X from (VS.out _ (.tail _ (.tail _ (.tail _ (.tail _ (.tail _ (.tail _ (.tail _ (.tail _ (.tail _ (.tail _ (.tail _ (.head _))))))))))))).it) (Int.mul_ediv_cancel _ (Int.ne_of_gt (Int.pow_pos (by omega))))).mono ?_
              rintro e wc28 ⟨rfl, hbwc28⟩
              replace VS := Lib.hid (VS.out.below hbwc28)
              replace HW := Lib.hid (HW.out.trans (hbwc28.mono HW.out.size))
              clear hbwc28
              go_wp2_with fail
              refine (awake_any _).mono ?_
              rintro e we ⟨rfl, hbe⟩
              go_wp2_with fail
              go_ret
              exact ⟨rfl, HW.out.trans (hbe.mono HW.out.size)⟩

theorem pat_law (w : World) (nx ny : Bool) (ax ay : Option Addr) (n1 c1 n2 c2 : Nat) (zx zy : List Int) (op size at' bit : Int) (hx : Sl w ax n1 c1 zx) (lx : Lim zx) (hy : Sl w ay n2 c2 zy) (ly : Lim zy)
    (ho0 : 0 ≤ op) (ho : op ≤ 255) (hs0 : 0 ≤ size) (hs : size ≤ 255) (ha0 : 0 ≤ at') (ha : at' ≤ 255) (hb0 : 0 ≤ bit) (hb : bit ≤ 65535) :
    Calls Try.prog 13 #[.agg #[.bool nx, .slice ax n1 c1], .agg #[.bool ny, .slice ay n2 c2], .int .u8 op, .int .u8 size, .int .u8 at', .int .u16 bit] w (RetV w (.bool true)) := by
  obtain ⟨op, rfl⟩ := Int.eq_ofNat_of_zero_le ho0
  obtain ⟨size, rfl⟩ := Int.eq_ofNat_of_zero_le hs0
  obtain ⟨at', rfl⟩ := Int.eq_ofNat_of_zero_le ha0
  obtain ⟨bit, rfl⟩ := Int.eq_ofNat_of_zero_le hb0
  by_cases h : n1 ≤ 6 ∧ n2 ≤ 6
  · exact pat_short w nx ny ax ay n1 c1 n2 c2 op size at' bit zx zy hx lx hy ly (by omega) (by omega) (by omega) (by omega) h
  · exact pat_long w nx ny ax ay n1 c1 n2 c2 op size at' bit h

end Go.Proofs.Ytipjbknoeoajnaa
