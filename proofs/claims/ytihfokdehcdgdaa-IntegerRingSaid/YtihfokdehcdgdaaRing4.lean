/- IntegerRing comes out true. -/
import Derived.Test.YtihfokdehcdgdaaRing
import Derived.Deep.DeepCutAuto
namespace Go.Proofs.Ytihfokdehcdgdaa
open Go.RowKit
set_option autoImplicit false
set_option linter.unusedVariables false

theorem IntAt.drew {w : World} {neg : Bool} {ao : Option Addr} {n cap : Nat} {zs : List Int} {x : Int} (h : IntAt w neg ao n cap zs x) : IntAt w.drew neg ao n cap zs x := ⟨h.sl.drew, h.lim, h.top, h.sign, h.val⟩

theorem same_true (w : World) (nx ny : Bool) (ao bo : Option Addr) (n m capa capb : Nat) (xs ys : List Int) (x y : Int) (hx : IntAt w nx ao n capa xs x) (hy : IntAt w ny bo m capb ys y) (h : x = y) :
    Calls Try.prog 65 #[.agg #[.bool nx, .slice ao n capa], .agg #[.bool ny, .slice bo m capb]] w (RetV w (.bool true)) := by
  have := same_int w nx ny ao bo n m capa capb xs ys x y hx hy
  rw [decide_eq_true h] at this
  exact this

theorem cmp_eq {c : Int} (w : World) (nx ny : Bool) (ao bo : Option Addr) (n m capa capb : Nat) (xs ys : List Int) (x y : Int) (hx : IntAt w nx ao n capa xs x) (hy : IntAt w ny bo m capb ys y) (h : cmpI x y = c) :
    Calls Try.prog 32 #[.agg #[.bool nx, .slice ao n capa], .agg #[.bool ny, .slice bo m capb]] w (RetV w (.int .i64 c)) := by
  rw [← h]
  exact cmp_int w nx ny ao bo n m capa capb xs ys x y hx hy

theorem sign_eq {c : Int} (w : World) (nx : Bool) (ao : Option Addr) (n capa : Nat) (xs : List Int) (x : Int) (hx : IntAt w nx ao n capa xs x) (h : cmpI x 0 = c) :
    Calls Try.prog 22 #[.agg #[.bool nx, .slice ao n capa]] w (RetV w (.int .i64 c)) := by
  rw [← h]
  exact sign_int w nx ao n capa xs x hx

theorem int_zero (w : World) : IntAt w false none 0 0 [] 0 :=
  ⟨⟨rfl, Nat.le_refl _, by unfold maxLen; omega, fun _ => rfl, .inl rfl⟩, by intro z hz; simp at hz, .inl rfl, by intro h; simp at h, by simp [sgn, val]⟩

theorem cmp_back (x y : Int) : IntKind.i64.wrap (- cmpI y x) = cmpI x y := by
  unfold cmpI
  by_cases h1 : x < y <;> by_cases h2 : y < x <;> simp [h1, h2] <;> first | rfl | omega

theorem cmp_add (x y z : Int) : cmpI (x + z) (y + z) = cmpI x y := by
  unfold cmpI
  by_cases h1 : x < y <;> by_cases h2 : y < x <;> simp [h1, h2]

theorem cmp_pos {z : Int} (h : 0 < cmpI z 0) : 0 < z := by
  unfold cmpI at h
  by_cases h1 : z < 0
  · simp [h1] at h
  · by_cases h2 : 0 < z
    · exact h2
    · simp [h1, h2] at h

theorem cmp_mul (x y z : Int) (h : 0 < z) : cmpI (x * z) (y * z) = cmpI x y := by
  unfold cmpI
  simp only [Int.mul_lt_mul_right h]

theorem cmp_trans (x y z : Int) (h1 : cmpI x y ≤ 0) (h2 : cmpI y z ≤ 0) : ¬ 0 < cmpI x z := by
  have k1 : ¬ y < x := fun h => by rw [cmpI_gt h] at h1; omega
  have k2 : ¬ z < y := fun h => by rw [cmpI_gt h] at h2; omega
  have k3 : ¬ z < x := by omega
  unfold cmpI
  by_cases h : x < z
  · simp [h]
  · simp [h, k3]

theorem cell_top (w : World) (a b : Obj) (u v : Value) (t : TypeId) : (W3 w a b (.cells #[u, v] t)).drew.cell? ⟨w.heap.size + 1 + 1, 0, none⟩ = some u ∧ (W3 w a b (.cells #[u, v] t)).drew.cell? ⟨w.heap.size + 1 + 1, 1, none⟩ = some v :=
  ⟨cell_of_row (W3 w a b (.cells #[u, v] t)).drew (w.heap.size + 1 + 1) 0 #[u, v] t (0, 0) (heap_alloc3 w a b _), cell_of_row (W3 w a b (.cells #[u, v] t)).drew (w.heap.size + 1 + 1) 1 #[u, v] t (0, 0) (heap_alloc3 w a b _)⟩

set_option maxRecDepth 100000 in
set_option maxHeartbeats 40000000 in
theorem ring_short (w : World) (nx ny nz : Bool) (ax ay az : Option Addr) (n1 c1 n2 c2 n3 c3 : Nat) (zx zy zz : List Int) (hx : Sl w ax n1 c1 zx) (lx : Lim zx) (hy : Sl w ay n2 c2 zy) (ly : Lim zy) (hz : Sl w az n3 c3 zz) (lz : Lim zz) (h : n1 ≤ 8 ∧ n2 ≤ 8 ∧ n3 ≤ 8) :
    Calls Try.prog 10 #[.agg #[.bool nx, .slice ax n1 c1], .agg #[.bool ny, .slice ay n2 c2], .agg #[.bool nz, .slice az n3 c3]] w (RetV w (.bool true)) := by
  have hd : decide (n1 ≤ 8 ∧ n2 ≤ 8 ∧ n3 ≤ 8) = true := decide_eq_true h
  have HD := Lib.hid hd
  have HX := Lib.hid hx
  have HY := Lib.hid hy
  have HZ := Lib.hid hz
  clear hd hx hy hz
  go_enter Try.func10, Try.ntmps10
  go_wp2_with fail
  refine (short3 _ _ ⟨nx, ax, n1, c1⟩ ⟨ny, ay, n2, c2⟩ ⟨nz, az, n3, c3⟩ 8 (heap_alloc4 _ _ _ _ _)).mono ?_
  rintro e w1 ⟨rfl, hb1⟩
  rw [show decide (Num.n ⟨nx, ax, n1, c1⟩ ≤ 8 ∧ Num.n ⟨ny, ay, n2, c2⟩ ≤ 8 ∧ Num.n ⟨nz, az, n3, c3⟩ ≤ 8) = true from HD.out]
  have hf := FourO.below (show FourO w.heap.size ((((w.alloc (.cells #[.bool nx, .slice ax n1 c1] 24)).alloc (.cells #[.bool ny, .slice ay n2 c2] 24)).alloc (.cells #[.bool nz, .slice az n3 c3] 24)).alloc (.cells #[.bool nx, .slice ax n1 c1, .bool ny, .slice ay n2 c2, .bool nz, .slice az n3 c3] 24)) _ _ _ _ from FourO.made w _ _ _ _) hb1 (by go_size)
  have x0 := cell_of_row _ _ 0 _ 24 (0, 0) hf.1
  have x1 := cell_of_row _ _ 1 _ 24 (0, 0) hf.1
  have y0 := cell_of_row _ _ 0 _ 24 (0, 0) hf.2.1
  have y1 := cell_of_row _ _ 1 _ 24 (0, 0) hf.2.1
  have z0 := cell_of_row _ _ 0 _ 24 (0, 0) hf.2.2.1
  have z1 := cell_of_row _ _ 1 _ 24 (0, 0) hf.2.2.1
  simp at x0 x1 y0 y1 z0 z1
  clear hf
  have hb2 : Below w.heap.size w w1 := Below.trans (by go_grown) (hb1.mono (by go_size))
  clear hb1
  go_wp2_with fail
  refine (made3 _ w1.heap.size ⟨nx, ax, n1, c1⟩ ⟨ny, ay, n2, c2⟩ ⟨nz, az, n3, c3⟩ _ _ _ zx zy zz (heap_alloc_new _ _) ⟨HX.out.below (hb2.alloc hb2.size _), lx, rfl, by dsimp only; omega⟩ ⟨HY.out.below (hb2.alloc hb2.size _), ly, rfl, by dsimp only; omega⟩ ⟨HZ.out.below (hb2.alloc hb2.size _), lz, rfl, by dsimp only; omega⟩).mono ?_
  rintro e w2 ⟨g, cap, ⟨sx, bx, m1, k1⟩, ⟨sy, by', m2, k2⟩, ⟨sz, bz, m3, k3⟩, zr, zs, zt, rfl, hcap, hmx, ⟨g0, g1, g2, g3, g4, g5⟩, ix, iy, iz, lx1, ly1, lz1, hb3⟩
  dsimp only at g0 g1 g2 g3 g4 g5 ix iy iz lx1 ly1 lz1
  obtain ⟨X, hX⟩ : ∃ X, X = sgn nx (val zx) := ⟨_, rfl⟩
  obtain ⟨Y, hY⟩ : ∃ Y, Y = sgn ny (val zy) := ⟨_, rfl⟩
  obtain ⟨Z, hZ⟩ : ∃ Z, Z = sgn nz (val zz) := ⟨_, rfl⟩
  rw [← hX] at ix
  rw [← hY] at iy
  rw [← hZ] at iz
  have IX := Lib.hid ix
  have IY := Lib.hid iy
  have IZ := Lib.hid iz
  have HW := Lib.hid (show Below w.heap.size w w2 from (hb2.alloc hb2.size _).trans (hb3.mono (by have := hb2.size; simp; omega)))
  have hm1 : m1 ≤ 8 := by omega
  have hm2 : m2 ≤ 8 := by omega
  have hm3 : m3 ≤ 8 := by omega
  clear ix iy iz hX hY hZ hb2 hb3 x0 x1 y0 y1 z0 z1 HX HY HZ HD lx1 ly1 lz1 h
  go_wp2_with fail
  have hg : g < w2.heap.size := World.block_lt_of_cell? w2 _ g0
  have e0 : g ≠ w2.heap.size := by omega
  have e1 : g ≠ w2.heap.size + 1 := by omega
  have e2 : g ≠ w2.heap.size + 1 + 1 := by omega
  go_cut [8, 9, 10] (fun p q r wx => ∃ b1 b2 b3 : Nat, p = .pointer (some ⟨b1, 0, none⟩) ∧ q = .pointer (some ⟨b2, 0, none⟩) ∧ r = .pointer (some ⟨b3, 0, none⟩) ∧
    (wx.cell? ⟨b1, 0, none⟩ = some (.bool sx) ∧ wx.cell? ⟨b1, 1, none⟩ = some (.slice bx m1 k1) ∧ wx.cell? ⟨b2, 0, none⟩ = some (.bool sy) ∧ wx.cell? ⟨b2, 1, none⟩ = some (.slice by' m2 k2) ∧
      wx.cell? ⟨b3, 0, none⟩ = some (.bool sz) ∧ wx.cell? ⟨b3, 1, none⟩ = some (.slice bz m3 k3)) ∧ Below w2.heap.size w2 wx)
  case first =>
    go_region_held3 (fun w' => w'.cell? ⟨g, 0, none⟩ = some (.bool sx) ∧ w'.cell? ⟨g, 1, none⟩ = some (.slice bx m1 k1) ∧ w'.cell? ⟨g, 2, none⟩ = some (.bool sy) ∧ w'.cell? ⟨g, 3, none⟩ = some (.slice by' m2 k2) ∧ w'.cell? ⟨g, 4, none⟩ = some (.bool sz) ∧ w'.cell? ⟨g, 5, none⟩ = some (.slice bz m3 k3)) (((try dsimp only); (repeat' apply And.intro) <;> (first | (go_keep; done) | (simp (maxDischargeDepth := 12) [*, World.cell?_alloc_some, World.cell?_setCell_far]; done) | (simp (maxDischargeDepth := 12) [g0, g1, g2, g3, g4, g5, e0, e1, e2, e0.symm, e1.symm, e2.symm, World.cell?_alloc_some, World.cell?_setCell_far]; done)))) (fail)
    all_goals (go_wp2; go_meet; (refine ⟨_, _, _, rfl, rfl, rfl, ⟨?_, ?_, ?_, ?_, ?_, ?_⟩, ?_⟩ <;> first | (exact (cell_top _ _ _ _ _ _).1) | (exact (cell_top _ _ _ _ _ _).2) | (go_keep; done) | (exact ent3D _ _ _ _)))
  case rest =>
    obtain ⟨b1, b2, b3, rfl, rfl, rfl, ⟨q0a, q1a, q2a, q3a, q4a, q5a⟩, hbwa⟩ := hcut
    rename World => wa
    have IXa := Lib.hid (IX.out.below hbwa)
    have IYa := Lib.hid (IY.out.below hbwa)
    have IZa := Lib.hid (IZ.out.below hbwa)
    have IOa := Lib.hid (int_zero wa)
    have hl1a : b1 < wa.heap.size := World.block_lt_of_cell? wa _ q0a
    have hl2a : b2 < wa.heap.size := World.block_lt_of_cell? wa _ q2a
    have hl3a : b3 < wa.heap.size := World.block_lt_of_cell? wa _ q4a
    have HKPa : Hid (∀ w', Below wa.heap.size wa w' → (w'.cell? ⟨b1, 0, none⟩ = some (.bool sx) ∧ w'.cell? ⟨b1, 1, none⟩ = some (.slice bx m1 k1) ∧ w'.cell? ⟨b2, 0, none⟩ = some (.bool sy) ∧ w'.cell? ⟨b2, 1, none⟩ = some (.slice by' m2 k2) ∧ w'.cell? ⟨b3, 0, none⟩ = some (.bool sz) ∧ w'.cell? ⟨b3, 1, none⟩ = some (.slice bz m3 k3))) := Lib.hid (fun w' hb => ⟨(hb.cell hl1a).trans q0a, (hb.cell hl1a).trans q1a, (hb.cell hl2a).trans q2a, (hb.cell hl2a).trans q3a, (hb.cell hl3a).trans q4a, (hb.cell hl3a).trans q5a⟩)
    have HBWa := Lib.hid hbwa
    clear q0a q1a q2a q3a q4a q5a hl1a hl2a hl3a hbwa
    clear g0 g1 g2 g3 g4 g5 hg e0 e1 e2
    go_upto_region 5 with fail
    go_cut [77] (fun c wx => c = .bool false ∧ (wx.cell? ⟨b1, 0, none⟩ = some (.bool sx) ∧ wx.cell? ⟨b1, 1, none⟩ = some (.slice bx m1 k1) ∧ wx.cell? ⟨b2, 0, none⟩ = some (.bool sy) ∧ wx.cell? ⟨b2, 1, none⟩ = some (.slice by' m2 k2) ∧ wx.cell? ⟨b3, 0, none⟩ = some (.bool sz) ∧ wx.cell? ⟨b3, 1, none⟩ = some (.slice bz m3 k3)) ∧ Below w2.heap.size w2 wx)
    case first =>
      as_aux_lemma =>
        go_region_held3 (fun w' => (w'.cell? ⟨b1, 0, none⟩ = some (.bool sx) ∧ w'.cell? ⟨b1, 1, none⟩ = some (.slice bx m1 k1) ∧ w'.cell? ⟨b2, 0, none⟩ = some (.bool sy) ∧ w'.cell? ⟨b2, 1, none⟩ = some (.slice by' m2 k2) ∧ w'.cell? ⟨b3, 0, none⟩ = some (.bool sz) ∧ w'.cell? ⟨b3, 1, none⟩ = some (.slice bz m3 k3))) ((first | exact HKPa.out _ Xa16 | exact HKPa.out _ Xa15 | exact HKPa.out _ Xa14 | exact HKPa.out _ Xa13 | exact HKPa.out _ Xa12 | exact HKPa.out _ Xa11 | exact HKPa.out _ Xa10 | exact HKPa.out _ Xa9 | exact HKPa.out _ Xa8 | exact HKPa.out _ Xa7 | exact HKPa.out _ Xa6 | exact HKPa.out _ Xa5 | exact HKPa.out _ Xa4 | exact HKPa.out _ Xa3 | exact HKPa.out _ Xa2 | exact HKPa.out _ Xa1 | exact HKPa.out _ (Below.refl _ _).drew))
      (first | (go_at_call 65; have Ta16 := Xa15; clear Ta16; refine (same_true _ sa13 sa15 aa13 aa15 na13 na15 ca13 ca15 za13 za15 (((X) * (Y)) * (Z)) ((X) * ((Y) * (Z))) Ranx15.out Rajx15.out (Int.mul_assoc _ _ _)).mono ?_; rintro e va16 ⟨rfl, ua16⟩; have Xa16 : Below wa.heap.size wa va16 := Xa15.trans (ua16.mono Xa15.size); have Za16 := ua16.size) | (go_at_call 42; have Ta15 := Xa14; clear Ta15; refine (mul_int _ sx sa14 bx aa14 m1 na14 k1 ca14 zr za14 (X) ((Y) * (Z)) (IXa.out.below Xa14) Rao1x14.out (by omega) (by omega)).mono ?_; rintro e va15 ⟨sa15, aa15, na15, ca15, za15, rfl, ga15, pa15, ua15⟩; have qa15 : na15 ≤ 24 := (by omega); clear pa15; have Rajx15 := Lib.hid ga15; clear ga15; have Xa15 : Below wa.heap.size wa va15 := Xa14.trans (ua15.mono Xa14.size); have Za15 := ua15.size; have Ranx15 := Lib.hid (Ranx14.out.below ua15); clear Ranx14) | (go_at_call 42; have Ta14 := Xa13; clear Ta14; refine (mul_int _ sy sz by' bz m2 m3 k2 k3 zs zt (Y) (Z) (IYa.out.below Xa13) (IZa.out.below Xa13) (by omega) (by omega)).mono ?_; rintro e va14 ⟨sa14, aa14, na14, ca14, za14, rfl, ga14, pa14, ua14⟩; have qa14 : na14 ≤ 16 := (by omega); clear pa14; have Rao1x14 := Lib.hid ga14; clear ga14; have Xa14 : Below wa.heap.size wa va14 := Xa13.trans (ua14.mono Xa13.size); have Za14 := ua14.size; have Ranx14 := Lib.hid (Ranx13.out.below ua14); clear Ranx13) | (go_at_call 42; have Ta13 := Xa12; clear Ta13; refine (mul_int _ sa12 sz aa12 bz na12 m3 ca12 k3 za12 zt ((X) * (Y)) (Z) Ramx12.out (IZa.out.below Xa12) (by omega) (by omega)).mono ?_; rintro e va13 ⟨sa13, aa13, na13, ca13, za13, rfl, ga13, pa13, ua13⟩; have qa13 : na13 ≤ 24 := (by omega); clear pa13; have Ranx13 := Lib.hid ga13; clear ga13; have Xa13 : Below wa.heap.size wa va13 := Xa12.trans (ua13.mono Xa12.size); have Za13 := ua13.size) | (go_at_call 42; have Ta12 := Xa11; clear Ta12; refine (mul_int _ sx sy bx by' m1 m2 k1 k2 zr zs (X) (Y) (IXa.out.below Xa11) (IYa.out.below Xa11) (by omega) (by omega)).mono ?_; rintro e va12 ⟨sa12, aa12, na12, ca12, za12, rfl, ga12, pa12, ua12⟩; have qa12 : na12 ≤ 16 := (by omega); clear pa12; have Ramx12 := Lib.hid ga12; clear ga12; have Xa12 : Below wa.heap.size wa va12 := Xa11.trans (ua12.mono Xa11.size); have Za12 := ua12.size) | (go_at_call 65; have Ta11 := Xa10; clear Ta11; refine (same_true _ sa8 sa10 aa8 aa10 na8 na10 ca8 ca10 za8 za10 (((X) + (Y)) + (Z)) ((X) + ((Y) + (Z))) Raux10.out Ralx10.out (by omega)).mono ?_; rintro e va11 ⟨rfl, ua11⟩; have Xa11 : Below wa.heap.size wa va11 := Xa10.trans (ua11.mono Xa10.size); have Za11 := ua11.size) | (go_at_call 38; have Ta10 := Xa9; clear Ta10; refine (add_int _ sx sa9 bx aa9 m1 na9 k1 ca9 zr za9 (X) ((Y) + (Z)) (IXa.out.below Xa9) Rakx9.out (by omega) (by omega)).mono ?_; rintro e va10 ⟨sa10, aa10, na10, ca10, za10, rfl, ga10, pa10, ua10⟩; have qa10 : na10 ≤ 10 := (by omega); clear pa10; have Ralx10 := Lib.hid ga10; clear ga10; have Xa10 : Below wa.heap.size wa va10 := Xa9.trans (ua10.mono Xa9.size); have Za10 := ua10.size; have Raux10 := Lib.hid (Raux9.out.below ua10); clear Raux9) | (go_at_call 38; have Ta9 := Xa8; clear Ta9; refine (add_int _ sy sz by' bz m2 m3 k2 k3 zs zt (Y) (Z) (IYa.out.below Xa8) (IZa.out.below Xa8) (by omega) (by omega)).mono ?_; rintro e va9 ⟨sa9, aa9, na9, ca9, za9, rfl, ga9, pa9, ua9⟩; have qa9 : na9 ≤ 9 := (by omega); clear pa9; have Rakx9 := Lib.hid ga9; clear ga9; have Xa9 : Below wa.heap.size wa va9 := Xa8.trans (ua9.mono Xa8.size); have Za9 := ua9.size; have Raux9 := Lib.hid (Raux8.out.below ua9); clear Raux8) | (go_at_call 38; have Ta8 := Xa7; clear Ta8; refine (add_int _ sa7 sz aa7 bz na7 m3 ca7 k3 za7 zt ((X) + (Y)) (Z) Ratx7.out (IZa.out.below Xa7) (by omega) (by omega)).mono ?_; rintro e va8 ⟨sa8, aa8, na8, ca8, za8, rfl, ga8, pa8, ua8⟩; have qa8 : na8 ≤ 10 := (by omega); clear pa8; have Raux8 := Lib.hid ga8; clear ga8; have Xa8 : Below wa.heap.size wa va8 := Xa7.trans (ua8.mono Xa7.size); have Za8 := ua8.size) | (go_at_call 38; have Ta7 := Xa6; clear Ta7; refine (add_int _ sx sy bx by' m1 m2 k1 k2 zr zs (X) (Y) (IXa.out.below Xa6) (IYa.out.below Xa6) (by omega) (by omega)).mono ?_; rintro e va7 ⟨sa7, aa7, na7, ca7, za7, rfl, ga7, pa7, ua7⟩; have qa7 : na7 ≤ 9 := (by omega); clear pa7; have Ratx7 := Lib.hid ga7; clear ga7; have Xa7 : Below wa.heap.size wa va7 := Xa6.trans (ua7.mono Xa6.size); have Za7 := ua7.size) | (go_at_call 65; have Ta6 := Xa5; clear Ta6; refine (same_true _ sa4 sa5 aa4 aa5 na4 na5 ca4 ca5 za4 za5 ((X) * (Y)) ((Y) * (X)) Rarx5.out Rasx5.out (Int.mul_comm _ _)).mono ?_; rintro e va6 ⟨rfl, ua6⟩; have Xa6 : Below wa.heap.size wa va6 := Xa5.trans (ua6.mono Xa5.size); have Za6 := ua6.size) | (go_at_call 42; have Ta5 := Xa4; clear Ta5; refine (mul_int _ sy sx by' bx m2 m1 k2 k1 zs zr (Y) (X) (IYa.out.below Xa4) (IXa.out.below Xa4) (by omega) (by omega)).mono ?_; rintro e va5 ⟨sa5, aa5, na5, ca5, za5, rfl, ga5, pa5, ua5⟩; have qa5 : na5 ≤ 16 := (by omega); clear pa5; have Rasx5 := Lib.hid ga5; clear ga5; have Xa5 : Below wa.heap.size wa va5 := Xa4.trans (ua5.mono Xa4.size); have Za5 := ua5.size; have Rarx5 := Lib.hid (Rarx4.out.below ua5); clear Rarx4) | (go_at_call 42; have Ta4 := Xa3; clear Ta4; refine (mul_int _ sx sy bx by' m1 m2 k1 k2 zr zs (X) (Y) (IXa.out.below Xa3) (IYa.out.below Xa3) (by omega) (by omega)).mono ?_; rintro e va4 ⟨sa4, aa4, na4, ca4, za4, rfl, ga4, pa4, ua4⟩; have qa4 : na4 ≤ 16 := (by omega); clear pa4; have Rarx4 := Lib.hid ga4; clear ga4; have Xa4 : Below wa.heap.size wa va4 := Xa3.trans (ua4.mono Xa3.size); have Za4 := ua4.size) | (go_at_call 65; have Ta3 := Xa2; clear Ta3; refine (same_true _ sa1 sa2 aa1 aa2 na1 na2 ca1 ca2 za1 za2 ((X) + (Y)) ((Y) + (X)) Rapx2.out Raqx2.out (by omega)).mono ?_; rintro e va3 ⟨rfl, ua3⟩; have Xa3 : Below wa.heap.size wa va3 := Xa2.trans (ua3.mono Xa2.size); have Za3 := ua3.size) | (go_at_call 38; have Ta2 := Xa1; clear Ta2; refine (add_int _ sy sx by' bx m2 m1 k2 k1 zs zr (Y) (X) (IYa.out.below Xa1) (IXa.out.below Xa1) (by omega) (by omega)).mono ?_; rintro e va2 ⟨sa2, aa2, na2, ca2, za2, rfl, ga2, pa2, ua2⟩; have qa2 : na2 ≤ 9 := (by omega); clear pa2; have Raqx2 := Lib.hid ga2; clear ga2; have Xa2 : Below wa.heap.size wa va2 := Xa1.trans (ua2.mono Xa1.size); have Za2 := ua2.size; have Rapx2 := Lib.hid (Rapx1.out.below ua2); clear Rapx1) | (go_at_call 38; refine (add_int _ sx sy bx by' m1 m2 k1 k2 zr zs (X) (Y) (IXa.out.drew) (IYa.out.drew) (by omega) (by omega)).mono ?_; rintro e va1 ⟨sa1, aa1, na1, ca1, za1, rfl, ga1, pa1, ua1⟩; have qa1 : na1 ≤ 9 := (by omega); clear pa1; have Rapx1 := Lib.hid ga1; clear ga1; have Xa1 : Below wa.heap.size wa va1 := Below.trans (by go_grown) (ua1.mono (by go_size)); have Za1 : wa.heap.size ≤ va1.heap.size := Xa1.size))
        go_wp2
        go_meet
        exact ⟨rfl, HKPa.out _ Xa16, HBWa.out.trans (Xa16.mono HBWa.out.size)⟩
    case rest =>
      obtain ⟨rfl, ⟨q0b, q1b, q2b, q3b, q4b, q5b⟩, hbwb⟩ := hcut
      rename World => wb
      have IXb := Lib.hid (IX.out.below hbwb)
      have IYb := Lib.hid (IY.out.below hbwb)
      have IZb := Lib.hid (IZ.out.below hbwb)
      have IOb := Lib.hid (int_zero wb)
      have hl1b : b1 < wb.heap.size := World.block_lt_of_cell? wb _ q0b
      have hl2b : b2 < wb.heap.size := World.block_lt_of_cell? wb _ q2b
      have hl3b : b3 < wb.heap.size := World.block_lt_of_cell? wb _ q4b
      have HKPb : Hid (∀ w', Below wb.heap.size wb w' → (w'.cell? ⟨b1, 0, none⟩ = some (.bool sx) ∧ w'.cell? ⟨b1, 1, none⟩ = some (.slice bx m1 k1) ∧ w'.cell? ⟨b2, 0, none⟩ = some (.bool sy) ∧ w'.cell? ⟨b2, 1, none⟩ = some (.slice by' m2 k2) ∧ w'.cell? ⟨b3, 0, none⟩ = some (.bool sz) ∧ w'.cell? ⟨b3, 1, none⟩ = some (.slice bz m3 k3))) := Lib.hid (fun w' hb => ⟨(hb.cell hl1b).trans q0b, (hb.cell hl1b).trans q1b, (hb.cell hl2b).trans q2b, (hb.cell hl2b).trans q3b, (hb.cell hl3b).trans q4b, (hb.cell hl3b).trans q5b⟩)
      have HBWb := Lib.hid hbwb
      clear q0b q1b q2b q3b q4b q5b hl1b hl2b hl3b hbwb
      clear IXa IYa IZa IOa HKPa HBWa
      go_upto_region 7 with fail
      go_cut [109] (fun c wx => c = .bool false ∧ (wx.cell? ⟨b1, 0, none⟩ = some (.bool sx) ∧ wx.cell? ⟨b1, 1, none⟩ = some (.slice bx m1 k1) ∧ wx.cell? ⟨b2, 0, none⟩ = some (.bool sy) ∧ wx.cell? ⟨b2, 1, none⟩ = some (.slice by' m2 k2) ∧ wx.cell? ⟨b3, 0, none⟩ = some (.bool sz) ∧ wx.cell? ⟨b3, 1, none⟩ = some (.slice bz m3 k3)) ∧ Below w2.heap.size w2 wx)
      case first =>
        as_aux_lemma =>
          go_region_held3 (fun w' => (w'.cell? ⟨b1, 0, none⟩ = some (.bool sx) ∧ w'.cell? ⟨b1, 1, none⟩ = some (.slice bx m1 k1) ∧ w'.cell? ⟨b2, 0, none⟩ = some (.bool sy) ∧ w'.cell? ⟨b2, 1, none⟩ = some (.slice by' m2 k2) ∧ w'.cell? ⟨b3, 0, none⟩ = some (.bool sz) ∧ w'.cell? ⟨b3, 1, none⟩ = some (.slice bz m3 k3))) ((first | exact HKPb.out _ Xb11 | exact HKPb.out _ Xb10 | exact HKPb.out _ Xb9 | exact HKPb.out _ Xb8 | exact HKPb.out _ Xb7 | exact HKPb.out _ Xb6 | exact HKPb.out _ Xb5 | exact HKPb.out _ Xb4 | exact HKPb.out _ Xb3 | exact HKPb.out _ Xb2 | exact HKPb.out _ Xb1 | exact HKPb.out _ (Below.refl _ _).drew))
      (first | (go_at_call 65; have Tb11 := Xb10; clear Tb11; refine (same_true _ sb10 false ab10 none nb10 0 cb10 0 zb10 [] ((X) - (X)) (0) Rbkx10.out (IOb.out.below Xb10) (by omega)).mono ?_; rintro e vb11 ⟨rfl, ub11⟩; have Xb11 : Below wb.heap.size wb vb11 := Xb10.trans (ub11.mono Xb10.size); have Zb11 := ub11.size) | (go_at_call 40; have Tb10 := Xb9; clear Tb10; refine (sub_int _ sx sx bx bx m1 m1 k1 k1 zr zr (X) (X) (IXb.out.below Xb9) (IXb.out.below Xb9) (by omega) (by omega)).mono ?_; rintro e vb10 ⟨sb10, ab10, nb10, cb10, zb10, rfl, gb10, pb10, ub10⟩; have qb10 : nb10 ≤ 9 := (by omega); clear pb10; have Rbkx10 := Lib.hid gb10; clear gb10; have Xb10 : Below wb.heap.size wb vb10 := Xb9.trans (ub10.mono Xb9.size); have Zb10 := ub10.size) | (go_at_call 65; have Tb9 := Xb8; clear Tb9; refine (same_true _ sb8 sx ab8 bx nb8 m1 cb8 k1 zb8 zr (((X) + (Y)) - (Y)) (X) Rbvx8.out (IXb.out.below Xb8) (by omega)).mono ?_; rintro e vb9 ⟨rfl, ub9⟩; have Xb9 : Below wb.heap.size wb vb9 := Xb8.trans (ub9.mono Xb8.size); have Zb9 := ub9.size) | (go_at_call 40; have Tb8 := Xb7; clear Tb8; refine (sub_int _ sb7 sy ab7 by' nb7 m2 cb7 k2 zb7 zs ((X) + (Y)) (Y) Rbux7.out (IYb.out.below Xb7) (by omega) (by omega)).mono ?_; rintro e vb8 ⟨sb8, ab8, nb8, cb8, zb8, rfl, gb8, pb8, ub8⟩; have qb8 : nb8 ≤ 10 := (by omega); clear pb8; have Rbvx8 := Lib.hid gb8; clear gb8; have Xb8 : Below wb.heap.size wb vb8 := Xb7.trans (ub8.mono Xb7.size); have Zb8 := ub8.size) | (go_at_call 38; have Tb7 := Xb6; clear Tb7; refine (add_int _ sx sy bx by' m1 m2 k1 k2 zr zs (X) (Y) (IXb.out.below Xb6) (IYb.out.below Xb6) (by omega) (by omega)).mono ?_; rintro e vb7 ⟨sb7, ab7, nb7, cb7, zb7, rfl, gb7, pb7, ub7⟩; have qb7 : nb7 ≤ 9 := (by omega); clear pb7; have Rbux7 := Lib.hid gb7; clear gb7; have Xb7 : Below wb.heap.size wb vb7 := Xb6.trans (ub7.mono Xb6.size); have Zb7 := ub7.size) | (go_at_call 65; have Tb6 := Xb5; clear Tb6; refine (same_true _ sb2 sb5 ab2 ab5 nb2 nb5 cb2 cb5 zb2 zb5 ((X) * ((Y) + (Z))) (((X) * (Y)) + ((X) * (Z))) Rbqx5.out Rbtx5.out (Int.mul_add _ _ _)).mono ?_; rintro e vb6 ⟨rfl, ub6⟩; have Xb6 : Below wb.heap.size wb vb6 := Xb5.trans (ub6.mono Xb5.size); have Zb6 := ub6.size) | (go_at_call 38; have Tb5 := Xb4; clear Tb5; refine (add_int _ sb3 sb4 ab3 ab4 nb3 nb4 cb3 cb4 zb3 zb4 ((X) * (Y)) ((X) * (Z)) Rbrx4.out Rbsx4.out (by omega) (by omega)).mono ?_; rintro e vb5 ⟨sb5, ab5, nb5, cb5, zb5, rfl, gb5, pb5, ub5⟩; have qb5 : nb5 ≤ 17 := (by omega); clear pb5; have Rbtx5 := Lib.hid gb5; clear gb5; have Xb5 : Below wb.heap.size wb vb5 := Xb4.trans (ub5.mono Xb4.size); have Zb5 := ub5.size; have Rbqx5 := Lib.hid (Rbqx4.out.below ub5); clear Rbqx4) | (go_at_call 42; have Tb4 := Xb3; clear Tb4; refine (mul_int _ sx sz bx bz m1 m3 k1 k3 zr zt (X) (Z) (IXb.out.below Xb3) (IZb.out.below Xb3) (by omega) (by omega)).mono ?_; rintro e vb4 ⟨sb4, ab4, nb4, cb4, zb4, rfl, gb4, pb4, ub4⟩; have qb4 : nb4 ≤ 16 := (by omega); clear pb4; have Rbsx4 := Lib.hid gb4; clear gb4; have Xb4 : Below wb.heap.size wb vb4 := Xb3.trans (ub4.mono Xb3.size); have Zb4 := ub4.size; have Rbqx4 := Lib.hid (Rbqx3.out.below ub4); clear Rbqx3; have Rbrx4 := Lib.hid (Rbrx3.out.below ub4); clear Rbrx3) | (go_at_call 42; have Tb3 := Xb2; clear Tb3; refine (mul_int _ sx sy bx by' m1 m2 k1 k2 zr zs (X) (Y) (IXb.out.below Xb2) (IYb.out.below Xb2) (by omega) (by omega)).mono ?_; rintro e vb3 ⟨sb3, ab3, nb3, cb3, zb3, rfl, gb3, pb3, ub3⟩; have qb3 : nb3 ≤ 16 := (by omega); clear pb3; have Rbrx3 := Lib.hid gb3; clear gb3; have Xb3 : Below wb.heap.size wb vb3 := Xb2.trans (ub3.mono Xb2.size); have Zb3 := ub3.size; have Rbqx3 := Lib.hid (Rbqx2.out.below ub3); clear Rbqx2) | (go_at_call 42; have Tb2 := Xb1; clear Tb2; refine (mul_int _ sx sb1 bx ab1 m1 nb1 k1 cb1 zr zb1 (X) ((Y) + (Z)) (IXb.out.below Xb1) Rbpx1.out (by omega) (by omega)).mono ?_; rintro e vb2 ⟨sb2, ab2, nb2, cb2, zb2, rfl, gb2, pb2, ub2⟩; have qb2 : nb2 ≤ 17 := (by omega); clear pb2; have Rbqx2 := Lib.hid gb2; clear gb2; have Xb2 : Below wb.heap.size wb vb2 := Xb1.trans (ub2.mono Xb1.size); have Zb2 := ub2.size) | (go_at_call 38; refine (add_int _ sy sz by' bz m2 m3 k2 k3 zs zt (Y) (Z) (IYb.out.drew) (IZb.out.drew) (by omega) (by omega)).mono ?_; rintro e vb1 ⟨sb1, ab1, nb1, cb1, zb1, rfl, gb1, pb1, ub1⟩; have qb1 : nb1 ≤ 9 := (by omega); clear pb1; have Rbpx1 := Lib.hid gb1; clear gb1; have Xb1 : Below wb.heap.size wb vb1 := Below.trans (by go_grown) (ub1.mono (by go_size)); have Zb1 : wb.heap.size ≤ vb1.heap.size := Xb1.size))
          go_wp2
          go_meet
          exact ⟨rfl, HKPb.out _ Xb11, HBWb.out.trans (Xb11.mono HBWb.out.size)⟩
      case rest =>
        obtain ⟨rfl, ⟨q0c, q1c, q2c, q3c, q4c, q5c⟩, hbwc⟩ := hcut
        rename World => wc
        have IXc := Lib.hid (IX.out.below hbwc)
        have IYc := Lib.hid (IY.out.below hbwc)
        have IZc := Lib.hid (IZ.out.below hbwc)
        have IOc := Lib.hid (int_zero wc)
        have hl1c : b1 < wc.heap.size := World.block_lt_of_cell? wc _ q0c
        have hl2c : b2 < wc.heap.size := World.block_lt_of_cell? wc _ q2c
        have hl3c : b3 < wc.heap.size := World.block_lt_of_cell? wc _ q4c
        have HKPc : Hid (∀ w', Below wc.heap.size wc w' → (w'.cell? ⟨b1, 0, none⟩ = some (.bool sx) ∧ w'.cell? ⟨b1, 1, none⟩ = some (.slice bx m1 k1) ∧ w'.cell? ⟨b2, 0, none⟩ = some (.bool sy) ∧ w'.cell? ⟨b2, 1, none⟩ = some (.slice by' m2 k2) ∧ w'.cell? ⟨b3, 0, none⟩ = some (.bool sz) ∧ w'.cell? ⟨b3, 1, none⟩ = some (.slice bz m3 k3))) := Lib.hid (fun w' hb => ⟨(hb.cell hl1c).trans q0c, (hb.cell hl1c).trans q1c, (hb.cell hl2c).trans q2c, (hb.cell hl2c).trans q3c, (hb.cell hl3c).trans q4c, (hb.cell hl3c).trans q5c⟩)
        have HBWc := Lib.hid hbwc
        clear q0c q1c q2c q3c q4c q5c hl1c hl2c hl3c hbwc
        clear IXb IYb IZb IOb HKPb HBWb
        go_upto_region 9 with fail
        go_cut [166] (fun c wx => c = .bool false ∧ (wx.cell? ⟨b1, 0, none⟩ = some (.bool sx) ∧ wx.cell? ⟨b1, 1, none⟩ = some (.slice bx m1 k1) ∧ wx.cell? ⟨b2, 0, none⟩ = some (.bool sy) ∧ wx.cell? ⟨b2, 1, none⟩ = some (.slice by' m2 k2) ∧ wx.cell? ⟨b3, 0, none⟩ = some (.bool sz) ∧ wx.cell? ⟨b3, 1, none⟩ = some (.slice bz m3 k3)) ∧ Below w2.heap.size w2 wx)
        case first =>
          obtain ⟨cA, hcA⟩ : ∃ c, cmpI X Y = c := ⟨_, rfl⟩
          obtain ⟨cB, hcB⟩ : ∃ c, cmpI Y X = c := ⟨_, rfl⟩
          obtain ⟨cC, hcC⟩ : ∃ c, cmpI Y Z = c := ⟨_, rfl⟩
          obtain ⟨cD, hcD⟩ : ∃ c, cmpI X Z = c := ⟨_, rfl⟩
          obtain ⟨cE, hcE⟩ : ∃ c, cmpI Z 0 = c := ⟨_, rfl⟩
          have hw : IntKind.i64.wrap (-cB) = cA := by rw [← hcA, ← hcB]; exact cmp_back X Y
          have HC6 := Lib.hid (show cmpI (X + Z) (Y + Z) = cA by rw [← hcA]; exact cmp_add X Y Z)
          have HC7 : Hid (0 < cE → cmpI (X * Z) (Y * Z) = cA) := Lib.hid (fun h => by rw [← hcA]; exact cmp_mul X Y Z (cmp_pos (by rw [hcE]; exact h)))
          have HCT : Hid (cA ≤ 0 → cC ≤ 0 → ¬ 0 < cD) := Lib.hid (fun h1 h2 => by rw [← hcD]; exact cmp_trans X Y Z (by rw [hcA]; exact h1) (by rw [hcC]; exact h2))
          have HC1 := Lib.hid hcA
          have HC2 := Lib.hid hcB
          have HC3 := Lib.hid hcC
          have HC4 := Lib.hid hcD
          have HC5 := Lib.hid hcE
          clear hcA hcB hcC hcD hcE
          by_cases hxy : cA ≤ 0
          · have hdxy : decide (cA ≤ 0) = true := decide_eq_true hxy
            by_cases hyz : cC ≤ 0
            · have hdyz : decide (cC ≤ 0) = true := decide_eq_true hyz
              have hdxz : decide (0 < cD) = false := decide_eq_false (HCT.out hxy hyz)
              by_cases hz : 0 < cE
              · have hdz : decide (0 < cE) = true := decide_eq_true hz
                as_aux_lemma =>
                  refine wp_region_noPanic ?_
                  refine wp_region_held_drew (S := fun w' => (w'.cell? ⟨b1, 0, none⟩ = some (.bool sx) ∧ w'.cell? ⟨b1, 1, none⟩ = some (.slice bx m1 k1) ∧ w'.cell? ⟨b2, 0, none⟩ = some (.bool sy) ∧ w'.cell? ⟨b2, 1, none⟩ = some (.slice by' m2 k2) ∧ w'.cell? ⟨b3, 0, none⟩ = some (.bool sz) ∧ w'.cell? ⟨b3, 1, none⟩ = some (.slice bz m3 k3))) (by kernel_rfl) ?_ (fun hHc10 => ?_)
                  · exact HKPc.out _ (Below.refl _ _).drew
                  refine wpAnyH_take (i := 0) (oi := ({ dst := some 110, op := Op.load 28 (Operand.tmp 8), type := 28, pos := "more.go:35", after := #[], guard := none } : Oper)) (v := ?_) rfl (by kernel_rfl) (by kernel_rfl) (by kernel_rfl) (fun _ _ _ h => h) (Or.inl ⟨by rfl, ?_⟩) (by assumption) ?_
                  rotate_left
                  · (intro w hSw; (try dsimp only at hSw); go_simp; try with_reducible rfl)
                  (try simp only [Act.put, List.setIfInBounds_toArray, List.set_cons_zero, List.set_cons_succ])
                  refine wpAnyH_take (i := 1) (oi := ({ dst := some 111, op := Op.load 28 (Operand.tmp 9), type := 28, pos := "more.go:35", after := #[], guard := none } : Oper)) (v := ?_) rfl (by kernel_rfl) (by kernel_rfl) (by kernel_rfl) (fun _ _ _ h => h) (Or.inl ⟨by rfl, ?_⟩) (by assumption) ?_
                  rotate_left
                  · (intro w hSw; (try dsimp only at hSw); go_simp; try with_reducible rfl)
                  (try simp only [Act.put, List.setIfInBounds_toArray, List.set_cons_zero, List.set_cons_succ])
                  refine wpAnyH_take (i := 3) (oi := ({ dst := some 113, op := Op.load 28 (Operand.tmp 9), type := 28, pos := "more.go:35", after := #[], guard := none } : Oper)) (v := ?_) rfl (by kernel_rfl) (by kernel_rfl) (by kernel_rfl) (fun _ _ _ h => h) (Or.inl ⟨by rfl, ?_⟩) (by assumption) ?_
                  rotate_left
                  · (intro w hSw; (try dsimp only at hSw); go_simp; try with_reducible rfl)
                  (try simp only [Act.put, List.setIfInBounds_toArray, List.set_cons_zero, List.set_cons_succ])
                  refine wpAnyH_take (i := 4) (oi := ({ dst := some 114, op := Op.load 28 (Operand.tmp 8), type := 28, pos := "more.go:35", after := #[], guard := none } : Oper)) (v := ?_) rfl (by kernel_rfl) (by kernel_rfl) (by kernel_rfl) (fun _ _ _ h => h) (Or.inl ⟨by rfl, ?_⟩) (by assumption) ?_
                  rotate_left
                  · (intro w hSw; (try dsimp only at hSw); go_simp; try with_reducible rfl)
                  (try simp only [Act.put, List.setIfInBounds_toArray, List.set_cons_zero, List.set_cons_succ])
                  refine wpAnyH_ready (rs := [2]) (by kernel_rfl) (by simp) ?_
                  refine AllReadyH.cons (o := ({ dst := some 112, op := Op.call { callee := Callee.value (Operand.func 32), args := #[Operand.tmp 110, Operand.tmp 111], argTypes := #[28, 28] }, type := 3, pos := "more.go:35", after := #[{ on := 0, ground := Ground.data }, { on := 1, ground := Ground.data }], guard := none } : Oper)) rfl (fun K hK => ?_) AllReadyH.nil
                  go_simp
                  refine (cmp_eq _ sx sy bx by' m1 m2 k1 k2 zr zs (X) (Y) (IXc.out.drew) (IYc.out.drew) HC1.out).mono ?_
                  rintro e vc11 ⟨rfl, uc11⟩
                  have Xc11 : Below wc.heap.size wc vc11 := Below.trans (by go_grown) (uc11.mono (by go_size))
                  have Zc11 : wc.heap.size ≤ vc11.heap.size := Xc11.size
                  refine hK.out _ _ ?_ (fun hHc11 => ?_)
                  · exact HKPc.out _ Xc11
                  clear hK K hHc10
                  (try simp only [Act.put, List.setIfInBounds_toArray, List.set_cons_zero, List.set_cons_succ])
                  refine wpAnyH_ready (rs := [5]) (by kernel_rfl) (by simp) ?_
                  refine AllReadyH.cons (o := ({ dst := some 115, op := Op.call { callee := Callee.value (Operand.func 32), args := #[Operand.tmp 113, Operand.tmp 114], argTypes := #[28, 28] }, type := 3, pos := "more.go:35", after := #[{ on := 3, ground := Ground.data }, { on := 4, ground := Ground.data }, { on := 2, ground := Ground.chain }], guard := none } : Oper)) rfl (fun K hK => ?_) AllReadyH.nil
                  go_simp
                  refine (cmp_eq _ sy sx by' bx m2 m1 k2 k1 zs zr (Y) (X) (IYc.out.below Xc11) (IXc.out.below Xc11) HC2.out).mono ?_
                  rintro e vc12 ⟨rfl, uc12⟩
                  have Xc12 : Below wc.heap.size wc vc12 := Xc11.trans (uc12.mono Xc11.size)
                  have Zc12 := uc12.size
                  refine hK.out _ _ ?_ (fun hHc12 => ?_)
                  · exact HKPc.out _ Xc12
                  clear hK K hHc11
                  (try simp only [Act.put, List.setIfInBounds_toArray, List.set_cons_zero, List.set_cons_succ])
                  refine wpAnyH_take (i := 6) (oi := ({ dst := some 116, op := Op.unOp UnOp.neg 3 (Operand.tmp 115), type := 3, pos := "more.go:35", after := #[{ on := 5, ground := Ground.data }], guard := none } : Oper)) (v := ?_) rfl (by kernel_rfl) (by kernel_rfl) (by kernel_rfl) (fun _ _ _ h => h) (Or.inl ⟨by rfl, ?_⟩) (by assumption) ?_
                  rotate_left
                  · (intro w hSw; (try dsimp only at hSw); go_simp; try with_reducible rfl)
                  (try simp only [Act.put, List.setIfInBounds_toArray, List.set_cons_zero, List.set_cons_succ])
                  refine wpAnyH_take (i := 7) (oi := ({ dst := some 117, op := Op.binOp BinOp.neq 3 (Operand.tmp 112) (Operand.tmp 116) 3, type := 4, pos := "more.go:35", after := #[{ on := 2, ground := Ground.data }, { on := 6, ground := Ground.data }], guard := none } : Oper)) (v := ?_) rfl (by kernel_rfl) (by kernel_rfl) (by kernel_rfl) (fun _ _ _ h => h) (Or.inl ⟨by rfl, ?_⟩) (by assumption) ?_
                  rotate_left
                  · (intro w hSw; (try dsimp only at hSw); go_simp; try with_reducible rfl)
                  (try simp only [Act.put, List.setIfInBounds_toArray, List.set_cons_zero, List.set_cons_succ])
                  refine wpAnyH_take (i := 8) (oi := ({ dst := some 118, op := Op.move (Operand.tmp 117), type := 4, pos := "more.go:35", after := #[{ on := 7, ground := Ground.data }, { on := 5, ground := Ground.chain }], guard := none } : Oper)) (v := ?_) rfl (by kernel_rfl) (by kernel_rfl) (by kernel_rfl) (fun _ _ _ h => h) (Or.inl ⟨by rfl, ?_⟩) (by assumption) ?_
                  rotate_left
                  · (intro w hSw; (try dsimp only at hSw); go_simp; try with_reducible rfl)
                  (try simp only [Act.put, List.setIfInBounds_toArray, List.set_cons_zero, List.set_cons_succ])
                  refine wpAnyH_take (i := 9) (oi := ({ dst := some 119, op := Op.load 28 (Operand.tmp 8), type := 28, pos := "more.go:35", after := #[{ on := 8, ground := Ground.guard }], guard := some (8, false) } : Oper)) (v := ?_) rfl (by kernel_rfl) (by kernel_rfl) (by kernel_rfl) (fun _ _ _ h => h) (Or.inl ⟨by rfl, ?_⟩) (by assumption) ?_
                  rotate_left
                  · (intro w hSw; (try dsimp only at hSw); go_simp; try with_reducible rfl)
                  (try simp only [Act.put, List.setIfInBounds_toArray, List.set_cons_zero, List.set_cons_succ])
                  refine wpAnyH_take (i := 10) (oi := ({ dst := some 120, op := Op.load 28 (Operand.tmp 9), type := 28, pos := "more.go:35", after := #[{ on := 8, ground := Ground.guard }], guard := some (8, false) } : Oper)) (v := ?_) rfl (by kernel_rfl) (by kernel_rfl) (by kernel_rfl) (fun _ _ _ h => h) (Or.inl ⟨by rfl, ?_⟩) (by assumption) ?_
                  rotate_left
                  · (intro w hSw; (try dsimp only at hSw); go_simp; try with_reducible rfl)
                  (try simp only [Act.put, List.setIfInBounds_toArray, List.set_cons_zero, List.set_cons_succ])
                  refine wpAnyH_ready (rs := [11]) (by kernel_rfl) (by simp) ?_
                  refine AllReadyH.cons (o := ({ dst := some 121, op := Op.call { callee := Callee.value (Operand.func 32), args := #[Operand.tmp 119, Operand.tmp 120], argTypes := #[28, 28] }, type := 3, pos := "more.go:35", after := #[{ on := 9, ground := Ground.data }, { on := 10, ground := Ground.data }, { on := 8, ground := Ground.chain }, { on := 8, ground := Ground.guard }], guard := some (8, false) } : Oper)) rfl (fun K hK => ?_) AllReadyH.nil
                  go_simp
                  refine (cmp_eq _ sx sy bx by' m1 m2 k1 k2 zr zs (X) (Y) (IXc.out.below Xc12) (IYc.out.below Xc12) HC1.out).mono ?_
                  rintro e vc13 ⟨rfl, uc13⟩
                  have Xc13 : Below wc.heap.size wc vc13 := Xc12.trans (uc13.mono Xc12.size)
                  have Zc13 := uc13.size
                  refine hK.out _ _ ?_ (fun hHc13 => ?_)
                  · exact HKPc.out _ Xc13
                  clear hK K hHc12
                  (try simp only [Act.put, List.setIfInBounds_toArray, List.set_cons_zero, List.set_cons_succ])
                  refine wpAnyH_take (i := 12) (oi := ({ dst := some 122, op := Op.binOp BinOp.leq 3 (Operand.tmp 121) (Operand.const (Value.int IntKind.i64 0)) 3, type := 4, pos := "more.go:35", after := #[{ on := 11, ground := Ground.data }, { on := 8, ground := Ground.guard }], guard := some (8, false) } : Oper)) (v := ?_) rfl (by kernel_rfl) (by kernel_rfl) (by kernel_rfl) (fun _ _ _ h => h) (Or.inl ⟨by rfl, ?_⟩) (by assumption) ?_
                  rotate_left
                  · (intro w hSw; (try dsimp only at hSw); go_simp; try with_reducible rfl)
                  (try simp only [Act.put, List.setIfInBounds_toArray, List.set_cons_zero, List.set_cons_succ])
                  refine wpAnyH_take (i := 13) (oi := ({ dst := some 123, op := Op.move (Operand.tmp 122), type := 4, pos := "more.go:35", after := #[{ on := 12, ground := Ground.data }, { on := 11, ground := Ground.chain }, { on := 8, ground := Ground.guard }], guard := some (8, false) } : Oper)) (v := ?_) rfl (by kernel_rfl) (by kernel_rfl) (by kernel_rfl) (fun _ _ _ h => h) (Or.inl ⟨by rfl, ?_⟩) (by assumption) ?_
                  rotate_left
                  · (intro w hSw; (try dsimp only at hSw); go_simp; try with_reducible rfl)
                  (try simp only [Act.put, List.setIfInBounds_toArray, List.set_cons_zero, List.set_cons_succ])
                  refine wpAnyH_take (i := 14) (oi := ({ dst := some 124, op := Op.load 28 (Operand.tmp 9), type := 28, pos := "more.go:35", after := #[{ on := 13, ground := Ground.guard }], guard := some (13, true) } : Oper)) (v := ?_) rfl (by kernel_rfl) (by kernel_rfl) (by kernel_rfl) (fun _ _ _ h => h) (Or.inl ⟨by rfl, ?_⟩) (by assumption) ?_
                  rotate_left
                  · (intro w hSw; (try dsimp only at hSw); go_simp; try with_reducible rfl)
                  (try simp only [Act.put, List.setIfInBounds_toArray, List.set_cons_zero, List.set_cons_succ])
                  refine wpAnyH_take (i := 15) (oi := ({ dst := some 125, op := Op.load 28 (Operand.tmp 10), type := 28, pos := "more.go:35", after := #[{ on := 13, ground := Ground.guard }], guard := some (13, true) } : Oper)) (v := ?_) rfl (by kernel_rfl) (by kernel_rfl) (by kernel_rfl) (fun _ _ _ h => h) (Or.inl ⟨by rfl, ?_⟩) (by assumption) ?_
                  rotate_left
                  · (intro w hSw; (try dsimp only at hSw); go_simp; try with_reducible rfl)
                  (try simp only [Act.put, List.setIfInBounds_toArray, List.set_cons_zero, List.set_cons_succ])
                  refine wpAnyH_ready (rs := [16]) (by kernel_rfl) (by simp) ?_
                  refine AllReadyH.cons (o := ({ dst := some 126, op := Op.call { callee := Callee.value (Operand.func 32), args := #[Operand.tmp 124, Operand.tmp 125], argTypes := #[28, 28] }, type := 3, pos := "more.go:35", after := #[{ on := 14, ground := Ground.data }, { on := 15, ground := Ground.data }, { on := 13, ground := Ground.chain }, { on := 13, ground := Ground.guard }], guard := some (13, true) } : Oper)) rfl (fun K hK => ?_) AllReadyH.nil
                  go_simp
                  refine (cmp_eq _ sy sz by' bz m2 m3 k2 k3 zs zt (Y) (Z) (IYc.out.below Xc13) (IZc.out.below Xc13) HC3.out).mono ?_
                  rintro e vc14 ⟨rfl, uc14⟩
                  have Xc14 : Below wc.heap.size wc vc14 := Xc13.trans (uc14.mono Xc13.size)
                  have Zc14 := uc14.size
                  refine hK.out _ _ ?_ (fun hHc14 => ?_)
                  · exact HKPc.out _ Xc14
                  clear hK K hHc13
                  (try simp only [Act.put, List.setIfInBounds_toArray, List.set_cons_zero, List.set_cons_succ])
                  refine wpAnyH_take (i := 17) (oi := ({ dst := some 127, op := Op.binOp BinOp.leq 3 (Operand.tmp 126) (Operand.const (Value.int IntKind.i64 0)) 3, type := 4, pos := "more.go:35", after := #[{ on := 16, ground := Ground.data }, { on := 13, ground := Ground.guard }], guard := some (13, true) } : Oper)) (v := ?_) rfl (by kernel_rfl) (by kernel_rfl) (by kernel_rfl) (fun _ _ _ h => h) (Or.inl ⟨by rfl, ?_⟩) (by assumption) ?_
                  rotate_left
                  · (intro w hSw; (try dsimp only at hSw); go_simp; try with_reducible rfl)
                  (try simp only [Act.put, List.setIfInBounds_toArray, List.set_cons_zero, List.set_cons_succ])
                  refine wpAnyH_take (i := 18) (oi := ({ dst := some 128, op := Op.pick (Operand.tmp 123) (Operand.tmp 127) (Operand.const (Value.bool false)), type := 4, pos := "more.go:35", after := #[{ on := 13, ground := Ground.data }, { on := 17, ground := Ground.data }, { on := 8, ground := Ground.guard }], guard := some (8, false) } : Oper)) (v := ?_) rfl (by kernel_rfl) (by kernel_rfl) (by kernel_rfl) (fun _ _ _ h => h) (Or.inl ⟨by rfl, ?_⟩) (by assumption) ?_
                  rotate_left
                  · (intro w hSw; (try dsimp only at hSw); go_simp; try with_reducible rfl)
                  (try simp only [Act.put, List.setIfInBounds_toArray, List.set_cons_zero, List.set_cons_succ])
                  refine wpAnyH_take (i := 19) (oi := ({ dst := some 129, op := Op.move (Operand.tmp 128), type := 4, pos := "more.go:35", after := #[{ on := 18, ground := Ground.data }, { on := 16, ground := Ground.chain }, { on := 8, ground := Ground.guard }], guard := some (8, false) } : Oper)) (v := ?_) rfl (by kernel_rfl) (by kernel_rfl) (by kernel_rfl) (fun _ _ _ h => h) (Or.inl ⟨by rfl, ?_⟩) (by assumption) ?_
                  rotate_left
                  · (intro w hSw; (try dsimp only at hSw); go_simp; try with_reducible rfl)
                  (try simp only [Act.put, List.setIfInBounds_toArray, List.set_cons_zero, List.set_cons_succ])
                  refine wpAnyH_take (i := 20) (oi := ({ dst := some 130, op := Op.load 28 (Operand.tmp 8), type := 28, pos := "more.go:35", after := #[{ on := 19, ground := Ground.guard }], guard := some (19, true) } : Oper)) (v := ?_) rfl (by kernel_rfl) (by kernel_rfl) (by kernel_rfl) (fun _ _ _ h => h) (Or.inl ⟨by rfl, ?_⟩) (by assumption) ?_
                  rotate_left
                  · (intro w hSw; (try dsimp only at hSw); go_simp; try with_reducible rfl)
                  (try simp only [Act.put, List.setIfInBounds_toArray, List.set_cons_zero, List.set_cons_succ])
                  refine wpAnyH_take (i := 21) (oi := ({ dst := some 131, op := Op.load 28 (Operand.tmp 10), type := 28, pos := "more.go:35", after := #[{ on := 19, ground := Ground.guard }], guard := some (19, true) } : Oper)) (v := ?_) rfl (by kernel_rfl) (by kernel_rfl) (by kernel_rfl) (fun _ _ _ h => h) (Or.inl ⟨by rfl, ?_⟩) (by assumption) ?_
                  rotate_left
                  · (intro w hSw; (try dsimp only at hSw); go_simp; try with_reducible rfl)
                  (try simp only [Act.put, List.setIfInBounds_toArray, List.set_cons_zero, List.set_cons_succ])
                  refine wpAnyH_ready (rs := [22]) (by kernel_rfl) (by simp) ?_
                  refine AllReadyH.cons (o := ({ dst := some 132, op := Op.call { callee := Callee.value (Operand.func 32), args := #[Operand.tmp 130, Operand.tmp 131], argTypes := #[28, 28] }, type := 3, pos := "more.go:35", after := #[{ on := 20, ground := Ground.data }, { on := 21, ground := Ground.data }, { on := 19, ground := Ground.chain }, { on := 19, ground := Ground.guard }], guard := some (19, true) } : Oper)) rfl (fun K hK => ?_) AllReadyH.nil
                  go_simp
                  refine (cmp_eq _ sx sz bx bz m1 m3 k1 k3 zr zt (X) (Z) (IXc.out.below Xc14) (IZc.out.below Xc14) HC4.out).mono ?_
                  rintro e vc15 ⟨rfl, uc15⟩
                  have Xc15 : Below wc.heap.size wc vc15 := Xc14.trans (uc15.mono Xc14.size)
                  have Zc15 := uc15.size
                  refine hK.out _ _ ?_ (fun hHc15 => ?_)
                  · exact HKPc.out _ Xc15
                  clear hK K hHc14
                  (try simp only [Act.put, List.setIfInBounds_toArray, List.set_cons_zero, List.set_cons_succ])
                  refine wpAnyH_take (i := 23) (oi := ({ dst := some 133, op := Op.binOp BinOp.gtr 3 (Operand.tmp 132) (Operand.const (Value.int IntKind.i64 0)) 3, type := 4, pos := "more.go:35", after := #[{ on := 22, ground := Ground.data }, { on := 19, ground := Ground.guard }], guard := some (19, true) } : Oper)) (v := ?_) rfl (by kernel_rfl) (by kernel_rfl) (by kernel_rfl) (fun _ _ _ h => h) (Or.inl ⟨by rfl, ?_⟩) (by assumption) ?_
                  rotate_left
                  · (intro w hSw; (try dsimp only at hSw); go_simp; try with_reducible rfl)
                  (try simp only [Act.put, List.setIfInBounds_toArray, List.set_cons_zero, List.set_cons_succ])
                  refine wpAnyH_take (i := 24) (oi := ({ dst := some 134, op := Op.pick (Operand.tmp 129) (Operand.tmp 133) (Operand.const (Value.bool false)), type := 4, pos := "more.go:35", after := #[{ on := 19, ground := Ground.data }, { on := 23, ground := Ground.data }, { on := 8, ground := Ground.guard }], guard := some (8, false) } : Oper)) (v := ?_) rfl (by kernel_rfl) (by kernel_rfl) (by kernel_rfl) (fun _ _ _ h => h) (Or.inl ⟨by rfl, ?_⟩) (by assumption) ?_
                  rotate_left
                  · (intro w hSw; (try dsimp only at hSw); go_simp; try with_reducible rfl)
                  (try simp only [Act.put, List.setIfInBounds_toArray, List.set_cons_zero, List.set_cons_succ])
                  refine wpAnyH_take (i := 25) (oi := ({ dst := some 135, op := Op.pick (Operand.tmp 118) (Operand.const (Value.bool true)) (Operand.tmp 134), type := 4, pos := "more.go:35", after := #[{ on := 8, ground := Ground.data }, { on := 24, ground := Ground.data }], guard := none } : Oper)) (v := ?_) rfl (by kernel_rfl) (by kernel_rfl) (by kernel_rfl) (fun _ _ _ h => h) (Or.inl ⟨by rfl, ?_⟩) (by assumption) ?_
                  rotate_left
                  · (intro w hSw; (try dsimp only at hSw); go_simp; try with_reducible rfl)
                  (try simp only [Act.put, List.setIfInBounds_toArray, List.set_cons_zero, List.set_cons_succ])
                  refine wpAnyH_take (i := 26) (oi := ({ dst := some 136, op := Op.move (Operand.tmp 135), type := 4, pos := "more.go:35", after := #[{ on := 25, ground := Ground.data }, { on := 22, ground := Ground.chain }], guard := none } : Oper)) (v := ?_) rfl (by kernel_rfl) (by kernel_rfl) (by kernel_rfl) (fun _ _ _ h => h) (Or.inl ⟨by rfl, ?_⟩) (by assumption) ?_
                  rotate_left
                  · (intro w hSw; (try dsimp only at hSw); go_simp; try with_reducible rfl)
                  (try simp only [Act.put, List.setIfInBounds_toArray, List.set_cons_zero, List.set_cons_succ])
                  refine wpAnyH_take (i := 27) (oi := ({ dst := some 137, op := Op.load 28 (Operand.tmp 8), type := 28, pos := "more.go:35", after := #[{ on := 26, ground := Ground.guard }], guard := some (26, false) } : Oper)) (v := ?_) rfl (by kernel_rfl) (by kernel_rfl) (by kernel_rfl) (fun _ _ _ h => h) (Or.inl ⟨by rfl, ?_⟩) (by assumption) ?_
                  rotate_left
                  · (intro w hSw; (try dsimp only at hSw); go_simp; try with_reducible rfl)
                  (try simp only [Act.put, List.setIfInBounds_toArray, List.set_cons_zero, List.set_cons_succ])
                  refine wpAnyH_take (i := 28) (oi := ({ dst := some 138, op := Op.load 28 (Operand.tmp 10), type := 28, pos := "more.go:35", after := #[{ on := 26, ground := Ground.guard }], guard := some (26, false) } : Oper)) (v := ?_) rfl (by kernel_rfl) (by kernel_rfl) (by kernel_rfl) (fun _ _ _ h => h) (Or.inl ⟨by rfl, ?_⟩) (by assumption) ?_
                  rotate_left
                  · (intro w hSw; (try dsimp only at hSw); go_simp; try with_reducible rfl)
                  (try simp only [Act.put, List.setIfInBounds_toArray, List.set_cons_zero, List.set_cons_succ])
                  refine wpAnyH_take (i := 30) (oi := ({ dst := some 140, op := Op.load 28 (Operand.tmp 9), type := 28, pos := "more.go:35", after := #[{ on := 26, ground := Ground.guard }], guard := some (26, false) } : Oper)) (v := ?_) rfl (by kernel_rfl) (by kernel_rfl) (by kernel_rfl) (fun _ _ _ h => h) (Or.inl ⟨by rfl, ?_⟩) (by assumption) ?_
                  rotate_left
                  · (intro w hSw; (try dsimp only at hSw); go_simp; try with_reducible rfl)
                  (try simp only [Act.put, List.setIfInBounds_toArray, List.set_cons_zero, List.set_cons_succ])
                  refine wpAnyH_take (i := 31) (oi := ({ dst := some 141, op := Op.load 28 (Operand.tmp 10), type := 28, pos := "more.go:35", after := #[{ on := 26, ground := Ground.guard }], guard := some (26, false) } : Oper)) (v := ?_) rfl (by kernel_rfl) (by kernel_rfl) (by kernel_rfl) (fun _ _ _ h => h) (Or.inl ⟨by rfl, ?_⟩) (by assumption) ?_
                  rotate_left
                  · (intro w hSw; (try dsimp only at hSw); go_simp; try with_reducible rfl)
                  (try simp only [Act.put, List.setIfInBounds_toArray, List.set_cons_zero, List.set_cons_succ])
                  refine wpAnyH_take (i := 34) (oi := ({ dst := some 144, op := Op.load 28 (Operand.tmp 8), type := 28, pos := "more.go:35", after := #[{ on := 26, ground := Ground.guard }], guard := some (26, false) } : Oper)) (v := ?_) rfl (by kernel_rfl) (by kernel_rfl) (by kernel_rfl) (fun _ _ _ h => h) (Or.inl ⟨by rfl, ?_⟩) (by assumption) ?_
                  rotate_left
                  · (intro w hSw; (try dsimp only at hSw); go_simp; try with_reducible rfl)
                  (try simp only [Act.put, List.setIfInBounds_toArray, List.set_cons_zero, List.set_cons_succ])
                  refine wpAnyH_take (i := 35) (oi := ({ dst := some 145, op := Op.load 28 (Operand.tmp 9), type := 28, pos := "more.go:35", after := #[{ on := 26, ground := Ground.guard }], guard := some (26, false) } : Oper)) (v := ?_) rfl (by kernel_rfl) (by kernel_rfl) (by kernel_rfl) (fun _ _ _ h => h) (Or.inl ⟨by rfl, ?_⟩) (by assumption) ?_
                  rotate_left
                  · (intro w hSw; (try dsimp only at hSw); go_simp; try with_reducible rfl)
                  (try simp only [Act.put, List.setIfInBounds_toArray, List.set_cons_zero, List.set_cons_succ])
                  refine wpAnyH_ready (rs := [29]) (by kernel_rfl) (by simp) ?_
                  refine AllReadyH.cons (o := ({ dst := some 139, op := Op.call { callee := Callee.value (Operand.func 38), args := #[Operand.tmp 137, Operand.tmp 138], argTypes := #[28, 28] }, type := 28, pos := "more.go:35", after := #[{ on := 27, ground := Ground.data }, { on := 28, ground := Ground.data }, { on := 26, ground := Ground.chain }, { on := 26, ground := Ground.guard }], guard := some (26, false) } : Oper)) rfl (fun K hK => ?_) AllReadyH.nil
                  go_simp
                  refine (add_int _ sx sz bx bz m1 m3 k1 k3 zr zt (X) (Z) (IXc.out.below Xc15) (IZc.out.below Xc15) (by omega) (by omega)).mono ?_
                  rintro e vc16 ⟨sc16, ac16, nc16, cc16, zc16, rfl, gc16, pc16, uc16⟩
                  have qc16 : nc16 ≤ 9 := (by omega)
                  clear pc16
                  have Rc1px6 := Lib.hid gc16
                  clear gc16
                  have Xc16 : Below wc.heap.size wc vc16 := Xc15.trans (uc16.mono Xc15.size)
                  have Zc16 := uc16.size
                  refine hK.out _ _ ?_ (fun hHc16 => ?_)
                  · exact HKPc.out _ Xc16
                  clear hK K hHc15
                  (try simp only [Act.put, List.setIfInBounds_toArray, List.set_cons_zero, List.set_cons_succ])
                  refine wpAnyH_ready (rs := [32]) (by kernel_rfl) (by simp) ?_
                  refine AllReadyH.cons (o := ({ dst := some 142, op := Op.call { callee := Callee.value (Operand.func 38), args := #[Operand.tmp 140, Operand.tmp 141], argTypes := #[28, 28] }, type := 28, pos := "more.go:35", after := #[{ on := 30, ground := Ground.data }, { on := 31, ground := Ground.data }, { on := 29, ground := Ground.chain }, { on := 26, ground := Ground.guard }], guard := some (26, false) } : Oper)) rfl (fun K hK => ?_) AllReadyH.nil
                  go_simp
                  refine (add_int _ sy sz by' bz m2 m3 k2 k3 zs zt (Y) (Z) (IYc.out.below Xc16) (IZc.out.below Xc16) (by omega) (by omega)).mono ?_
                  rintro e vc17 ⟨sc17, ac17, nc17, cc17, zc17, rfl, gc17, pc17, uc17⟩
                  have qc17 : nc17 ≤ 9 := (by omega)
                  clear pc17
                  have Rc1qx7 := Lib.hid gc17
                  clear gc17
                  have Xc17 : Below wc.heap.size wc vc17 := Xc16.trans (uc17.mono Xc16.size)
                  have Zc17 := uc17.size
                  have Rc1px7 := Lib.hid (Rc1px6.out.below uc17)
                  clear Rc1px6
                  refine hK.out _ _ ?_ (fun hHc17 => ?_)
                  · exact HKPc.out _ Xc17
                  clear hK K hHc16
                  (try simp only [Act.put, List.setIfInBounds_toArray, List.set_cons_zero, List.set_cons_succ])
                  refine wpAnyH_ready (rs := [33]) (by kernel_rfl) (by simp) ?_
                  refine AllReadyH.cons (o := ({ dst := some 143, op := Op.call { callee := Callee.value (Operand.func 32), args := #[Operand.tmp 139, Operand.tmp 142], argTypes := #[28, 28] }, type := 3, pos := "more.go:35", after := #[{ on := 29, ground := Ground.data }, { on := 32, ground := Ground.data }, { on := 32, ground := Ground.chain }, { on := 26, ground := Ground.guard }], guard := some (26, false) } : Oper)) rfl (fun K hK => ?_) AllReadyH.nil
                  go_simp
                  refine (cmp_eq _ sc16 sc17 ac16 ac17 nc16 nc17 cc16 cc17 zc16 zc17 ((X) + (Z)) ((Y) + (Z)) Rc1px7.out Rc1qx7.out HC6.out).mono ?_
                  rintro e vc18 ⟨rfl, uc18⟩
                  have Xc18 : Below wc.heap.size wc vc18 := Xc17.trans (uc18.mono Xc17.size)
                  have Zc18 := uc18.size
                  refine hK.out _ _ ?_ (fun hHc18 => ?_)
                  · exact HKPc.out _ Xc18
                  clear hK K hHc17
                  (try simp only [Act.put, List.setIfInBounds_toArray, List.set_cons_zero, List.set_cons_succ])
                  refine wpAnyH_ready (rs := [36]) (by kernel_rfl) (by simp) ?_
                  refine AllReadyH.cons (o := ({ dst := some 146, op := Op.call { callee := Callee.value (Operand.func 32), args := #[Operand.tmp 144, Operand.tmp 145], argTypes := #[28, 28] }, type := 3, pos := "more.go:35", after := #[{ on := 34, ground := Ground.data }, { on := 35, ground := Ground.data }, { on := 33, ground := Ground.chain }, { on := 26, ground := Ground.guard }], guard := some (26, false) } : Oper)) rfl (fun K hK => ?_) AllReadyH.nil
                  go_simp
                  refine (cmp_eq _ sx sy bx by' m1 m2 k1 k2 zr zs (X) (Y) (IXc.out.below Xc18) (IYc.out.below Xc18) HC1.out).mono ?_
                  rintro e vc19 ⟨rfl, uc19⟩
                  have Xc19 : Below wc.heap.size wc vc19 := Xc18.trans (uc19.mono Xc18.size)
                  have Zc19 := uc19.size
                  refine hK.out _ _ ?_ (fun hHc19 => ?_)
                  · exact HKPc.out _ Xc19
                  clear hK K hHc18
                  (try simp only [Act.put, List.setIfInBounds_toArray, List.set_cons_zero, List.set_cons_succ])
                  refine wpAnyH_take (i := 37) (oi := ({ dst := some 147, op := Op.binOp BinOp.neq 3 (Operand.tmp 143) (Operand.tmp 146) 3, type := 4, pos := "more.go:35", after := #[{ on := 33, ground := Ground.data }, { on := 36, ground := Ground.data }, { on := 26, ground := Ground.guard }], guard := some (26, false) } : Oper)) (v := ?_) rfl (by kernel_rfl) (by kernel_rfl) (by kernel_rfl) (fun _ _ _ h => h) (Or.inl ⟨by rfl, ?_⟩) (by assumption) ?_
                  rotate_left
                  · (intro w hSw; (try dsimp only at hSw); go_simp; try with_reducible rfl)
                  (try simp only [Act.put, List.setIfInBounds_toArray, List.set_cons_zero, List.set_cons_succ])
                  refine wpAnyH_take (i := 38) (oi := ({ dst := some 148, op := Op.pick (Operand.tmp 136) (Operand.const (Value.bool true)) (Operand.tmp 147), type := 4, pos := "more.go:35", after := #[{ on := 26, ground := Ground.data }, { on := 37, ground := Ground.data }], guard := none } : Oper)) (v := ?_) rfl (by kernel_rfl) (by kernel_rfl) (by kernel_rfl) (fun _ _ _ h => h) (Or.inl ⟨by rfl, ?_⟩) (by assumption) ?_
                  rotate_left
                  · (intro w hSw; (try dsimp only at hSw); go_simp; try with_reducible rfl)
                  (try simp only [Act.put, List.setIfInBounds_toArray, List.set_cons_zero, List.set_cons_succ])
                  refine wpAnyH_take (i := 39) (oi := ({ dst := some 149, op := Op.move (Operand.tmp 148), type := 4, pos := "more.go:35", after := #[{ on := 38, ground := Ground.data }, { on := 36, ground := Ground.chain }], guard := none } : Oper)) (v := ?_) rfl (by kernel_rfl) (by kernel_rfl) (by kernel_rfl) (fun _ _ _ h => h) (Or.inl ⟨by rfl, ?_⟩) (by assumption) ?_
                  rotate_left
                  · (intro w hSw; (try dsimp only at hSw); go_simp; try with_reducible rfl)
                  (try simp only [Act.put, List.setIfInBounds_toArray, List.set_cons_zero, List.set_cons_succ])
                  refine wpAnyH_take (i := 40) (oi := ({ dst := some 150, op := Op.load 28 (Operand.tmp 10), type := 28, pos := "more.go:35", after := #[{ on := 39, ground := Ground.guard }], guard := some (39, false) } : Oper)) (v := ?_) rfl (by kernel_rfl) (by kernel_rfl) (by kernel_rfl) (fun _ _ _ h => h) (Or.inl ⟨by rfl, ?_⟩) (by assumption) ?_
                  rotate_left
                  · (intro w hSw; (try dsimp only at hSw); go_simp; try with_reducible rfl)
                  (try simp only [Act.put, List.setIfInBounds_toArray, List.set_cons_zero, List.set_cons_succ])
                  refine wpAnyH_ready (rs := [41]) (by kernel_rfl) (by simp) ?_
                  refine AllReadyH.cons (o := ({ dst := some 151, op := Op.call { callee := Callee.value (Operand.func 22), args := #[Operand.tmp 150], argTypes := #[28] }, type := 3, pos := "more.go:35", after := #[{ on := 40, ground := Ground.data }, { on := 39, ground := Ground.chain }, { on := 39, ground := Ground.guard }], guard := some (39, false) } : Oper)) rfl (fun K hK => ?_) AllReadyH.nil
                  go_simp
                  refine (sign_eq _ sz bz m3 k3 zt (Z) (IZc.out.below Xc19) HC5.out).mono ?_
                  rintro e vc110 ⟨rfl, uc110⟩
                  have Xc110 : Below wc.heap.size wc vc110 := Xc19.trans (uc110.mono Xc19.size)
                  have Zc110 := uc110.size
                  refine hK.out _ _ ?_ (fun hHc110 => ?_)
                  · exact HKPc.out _ Xc110
                  clear hK K hHc19
                  (try simp only [Act.put, List.setIfInBounds_toArray, List.set_cons_zero, List.set_cons_succ])
                  refine wpAnyH_take (i := 42) (oi := ({ dst := some 152, op := Op.binOp BinOp.gtr 3 (Operand.tmp 151) (Operand.const (Value.int IntKind.i64 0)) 3, type := 4, pos := "more.go:35", after := #[{ on := 41, ground := Ground.data }, { on := 39, ground := Ground.guard }], guard := some (39, false) } : Oper)) (v := ?_) rfl (by kernel_rfl) (by kernel_rfl) (by kernel_rfl) (fun _ _ _ h => h) (Or.inl ⟨by rfl, ?_⟩) (by assumption) ?_
                  rotate_left
                  · (intro w hSw; (try dsimp only at hSw); go_simp; try with_reducible rfl)
                  (try simp only [Act.put, List.setIfInBounds_toArray, List.set_cons_zero, List.set_cons_succ])
                  refine wpAnyH_take (i := 43) (oi := ({ dst := some 153, op := Op.move (Operand.tmp 152), type := 4, pos := "more.go:35", after := #[{ on := 42, ground := Ground.data }, { on := 41, ground := Ground.chain }, { on := 39, ground := Ground.guard }], guard := some (39, false) } : Oper)) (v := ?_) rfl (by kernel_rfl) (by kernel_rfl) (by kernel_rfl) (fun _ _ _ h => h) (Or.inl ⟨by rfl, ?_⟩) (by assumption) ?_
                  rotate_left
                  · (intro w hSw; (try dsimp only at hSw); go_simp; try with_reducible rfl)
                  (try simp only [Act.put, List.setIfInBounds_toArray, List.set_cons_zero, List.set_cons_succ])
                  refine wpAnyH_take (i := 44) (oi := ({ dst := some 154, op := Op.load 28 (Operand.tmp 8), type := 28, pos := "more.go:35", after := #[{ on := 43, ground := Ground.guard }], guard := some (43, true) } : Oper)) (v := ?_) rfl (by kernel_rfl) (by kernel_rfl) (by kernel_rfl) (fun _ _ _ h => h) (Or.inl ⟨by rfl, ?_⟩) (by assumption) ?_
                  rotate_left
                  · (intro w hSw; (try dsimp only at hSw); go_simp; try with_reducible rfl)
                  (try simp only [Act.put, List.setIfInBounds_toArray, List.set_cons_zero, List.set_cons_succ])
                  refine wpAnyH_take (i := 45) (oi := ({ dst := some 155, op := Op.load 28 (Operand.tmp 10), type := 28, pos := "more.go:35", after := #[{ on := 43, ground := Ground.guard }], guard := some (43, true) } : Oper)) (v := ?_) rfl (by kernel_rfl) (by kernel_rfl) (by kernel_rfl) (fun _ _ _ h => h) (Or.inl ⟨by rfl, ?_⟩) (by assumption) ?_
                  rotate_left
                  · (intro w hSw; (try dsimp only at hSw); go_simp; try with_reducible rfl)
                  (try simp only [Act.put, List.setIfInBounds_toArray, List.set_cons_zero, List.set_cons_succ])
                  refine wpAnyH_take (i := 47) (oi := ({ dst := some 157, op := Op.load 28 (Operand.tmp 9), type := 28, pos := "more.go:35", after := #[{ on := 43, ground := Ground.guard }], guard := some (43, true) } : Oper)) (v := ?_) rfl (by kernel_rfl) (by kernel_rfl) (by kernel_rfl) (fun _ _ _ h => h) (Or.inl ⟨by rfl, ?_⟩) (by assumption) ?_
                  rotate_left
                  · (intro w hSw; (try dsimp only at hSw); go_simp; try with_reducible rfl)
                  (try simp only [Act.put, List.setIfInBounds_toArray, List.set_cons_zero, List.set_cons_succ])
                  refine wpAnyH_take (i := 48) (oi := ({ dst := some 158, op := Op.load 28 (Operand.tmp 10), type := 28, pos := "more.go:35", after := #[{ on := 43, ground := Ground.guard }], guard := some (43, true) } : Oper)) (v := ?_) rfl (by kernel_rfl) (by kernel_rfl) (by kernel_rfl) (fun _ _ _ h => h) (Or.inl ⟨by rfl, ?_⟩) (by assumption) ?_
                  rotate_left
                  · (intro w hSw; (try dsimp only at hSw); go_simp; try with_reducible rfl)
                  (try simp only [Act.put, List.setIfInBounds_toArray, List.set_cons_zero, List.set_cons_succ])
                  refine wpAnyH_take (i := 51) (oi := ({ dst := some 161, op := Op.load 28 (Operand.tmp 8), type := 28, pos := "more.go:35", after := #[{ on := 43, ground := Ground.guard }], guard := some (43, true) } : Oper)) (v := ?_) rfl (by kernel_rfl) (by kernel_rfl) (by kernel_rfl) (fun _ _ _ h => h) (Or.inl ⟨by rfl, ?_⟩) (by assumption) ?_
                  rotate_left
                  · (intro w hSw; (try dsimp only at hSw); go_simp; try with_reducible rfl)
                  (try simp only [Act.put, List.setIfInBounds_toArray, List.set_cons_zero, List.set_cons_succ])
                  refine wpAnyH_take (i := 52) (oi := ({ dst := some 162, op := Op.load 28 (Operand.tmp 9), type := 28, pos := "more.go:35", after := #[{ on := 43, ground := Ground.guard }], guard := some (43, true) } : Oper)) (v := ?_) rfl (by kernel_rfl) (by kernel_rfl) (by kernel_rfl) (fun _ _ _ h => h) (Or.inl ⟨by rfl, ?_⟩) (by assumption) ?_
                  rotate_left
                  · (intro w hSw; (try dsimp only at hSw); go_simp; try with_reducible rfl)
                  (try simp only [Act.put, List.setIfInBounds_toArray, List.set_cons_zero, List.set_cons_succ])
                  refine wpAnyH_ready (rs := [46]) (by kernel_rfl) (by simp) ?_
                  refine AllReadyH.cons (o := ({ dst := some 156, op := Op.call { callee := Callee.value (Operand.func 42), args := #[Operand.tmp 154, Operand.tmp 155], argTypes := #[28, 28] }, type := 28, pos := "more.go:35", after := #[{ on := 44, ground := Ground.data }, { on := 45, ground := Ground.data }, { on := 43, ground := Ground.chain }, { on := 43, ground := Ground.guard }], guard := some (43, true) } : Oper)) rfl (fun K hK => ?_) AllReadyH.nil
                  go_simp
                  refine (mul_int _ sx sz bx bz m1 m3 k1 k3 zr zt (X) (Z) (IXc.out.below Xc110) (IZc.out.below Xc110) (by omega) (by omega)).mono ?_
                  rintro e vc111 ⟨sc111, ac111, nc111, cc111, zc111, rfl, gc111, pc111, uc111⟩
                  have qc111 : nc111 ≤ 16 := (by omega)
                  clear pc111
                  have Rc1rx11 := Lib.hid gc111
                  clear gc111
                  have Xc111 : Below wc.heap.size wc vc111 := Xc110.trans (uc111.mono Xc110.size)
                  have Zc111 := uc111.size
                  refine hK.out _ _ ?_ (fun hHc111 => ?_)
                  · exact HKPc.out _ Xc111
                  clear hK K hHc110
                  (try simp only [Act.put, List.setIfInBounds_toArray, List.set_cons_zero, List.set_cons_succ])
                  refine wpAnyH_ready (rs := [49]) (by kernel_rfl) (by simp) ?_
                  refine AllReadyH.cons (o := ({ dst := some 159, op := Op.call { callee := Callee.value (Operand.func 42), args := #[Operand.tmp 157, Operand.tmp 158], argTypes := #[28, 28] }, type := 28, pos := "more.go:35", after := #[{ on := 47, ground := Ground.data }, { on := 48, ground := Ground.data }, { on := 46, ground := Ground.chain }, { on := 43, ground := Ground.guard }], guard := some (43, true) } : Oper)) rfl (fun K hK => ?_) AllReadyH.nil
                  go_simp
                  refine (mul_int _ sy sz by' bz m2 m3 k2 k3 zs zt (Y) (Z) (IYc.out.below Xc111) (IZc.out.below Xc111) (by omega) (by omega)).mono ?_
                  rintro e vc112 ⟨sc112, ac112, nc112, cc112, zc112, rfl, gc112, pc112, uc112⟩
                  have qc112 : nc112 ≤ 16 := (by omega)
                  clear pc112
                  have Rc1sx12 := Lib.hid gc112
                  clear gc112
                  have Xc112 : Below wc.heap.size wc vc112 := Xc111.trans (uc112.mono Xc111.size)
                  have Zc112 := uc112.size
                  have Rc1rx12 := Lib.hid (Rc1rx11.out.below uc112)
                  clear Rc1rx11
                  refine hK.out _ _ ?_ (fun hHc112 => ?_)
                  · exact HKPc.out _ Xc112
                  clear hK K hHc111
                  (try simp only [Act.put, List.setIfInBounds_toArray, List.set_cons_zero, List.set_cons_succ])
                  refine wpAnyH_ready (rs := [50]) (by kernel_rfl) (by simp) ?_
                  refine AllReadyH.cons (o := ({ dst := some 160, op := Op.call { callee := Callee.value (Operand.func 32), args := #[Operand.tmp 156, Operand.tmp 159], argTypes := #[28, 28] }, type := 3, pos := "more.go:35", after := #[{ on := 46, ground := Ground.data }, { on := 49, ground := Ground.data }, { on := 49, ground := Ground.chain }, { on := 43, ground := Ground.guard }], guard := some (43, true) } : Oper)) rfl (fun K hK => ?_) AllReadyH.nil
                  go_simp
                  refine (cmp_eq _ sc111 sc112 ac111 ac112 nc111 nc112 cc111 cc112 zc111 zc112 ((X) * (Z)) ((Y) * (Z)) Rc1rx12.out Rc1sx12.out (HC7.out hz)).mono ?_
                  rintro e vc113 ⟨rfl, uc113⟩
                  have Xc113 : Below wc.heap.size wc vc113 := Xc112.trans (uc113.mono Xc112.size)
                  have Zc113 := uc113.size
                  refine hK.out _ _ ?_ (fun hHc113 => ?_)
                  · exact HKPc.out _ Xc113
                  clear hK K hHc112
                  (try simp only [Act.put, List.setIfInBounds_toArray, List.set_cons_zero, List.set_cons_succ])
                  refine wpAnyH_ready (rs := [53]) (by kernel_rfl) (by simp) ?_
                  refine AllReadyH.cons (o := ({ dst := some 163, op := Op.call { callee := Callee.value (Operand.func 32), args := #[Operand.tmp 161, Operand.tmp 162], argTypes := #[28, 28] }, type := 3, pos := "more.go:35", after := #[{ on := 51, ground := Ground.data }, { on := 52, ground := Ground.data }, { on := 50, ground := Ground.chain }, { on := 43, ground := Ground.guard }], guard := some (43, true) } : Oper)) rfl (fun K hK => ?_) AllReadyH.nil
                  go_simp
                  refine (cmp_eq _ sx sy bx by' m1 m2 k1 k2 zr zs (X) (Y) (IXc.out.below Xc113) (IYc.out.below Xc113) HC1.out).mono ?_
                  rintro e vc114 ⟨rfl, uc114⟩
                  have Xc114 : Below wc.heap.size wc vc114 := Xc113.trans (uc114.mono Xc113.size)
                  have Zc114 := uc114.size
                  refine hK.out _ _ ?_ (fun hHc114 => ?_)
                  · exact HKPc.out _ Xc114
                  clear hK K hHc113
                  (try simp only [Act.put, List.setIfInBounds_toArray, List.set_cons_zero, List.set_cons_succ])
                  refine wpAnyH_take (i := 54) (oi := ({ dst := some 164, op := Op.binOp BinOp.neq 3 (Operand.tmp 160) (Operand.tmp 163) 3, type := 4, pos := "more.go:35", after := #[{ on := 50, ground := Ground.data }, { on := 53, ground := Ground.data }, { on := 43, ground := Ground.guard }], guard := some (43, true) } : Oper)) (v := ?_) rfl (by kernel_rfl) (by kernel_rfl) (by kernel_rfl) (fun _ _ _ h => h) (Or.inl ⟨by rfl, ?_⟩) (by assumption) ?_
                  rotate_left
                  · (intro w hSw; (try dsimp only at hSw); go_simp; try with_reducible rfl)
                  (try simp only [Act.put, List.setIfInBounds_toArray, List.set_cons_zero, List.set_cons_succ])
                  refine wpAnyH_take (i := 55) (oi := ({ dst := some 165, op := Op.pick (Operand.tmp 153) (Operand.tmp 164) (Operand.const (Value.bool false)), type := 4, pos := "more.go:35", after := #[{ on := 43, ground := Ground.data }, { on := 54, ground := Ground.data }, { on := 39, ground := Ground.guard }], guard := some (39, false) } : Oper)) (v := ?_) rfl (by kernel_rfl) (by kernel_rfl) (by kernel_rfl) (fun _ _ _ h => h) (Or.inl ⟨by rfl, ?_⟩) (by assumption) ?_
                  rotate_left
                  · (intro w hSw; (try dsimp only at hSw); go_simp; try with_reducible rfl)
                  (try simp only [Act.put, List.setIfInBounds_toArray, List.set_cons_zero, List.set_cons_succ])
                  refine wpAnyH_take (i := 56) (oi := ({ dst := some 166, op := Op.pick (Operand.tmp 149) (Operand.const (Value.bool true)) (Operand.tmp 165), type := 4, pos := "more.go:35", after := #[{ on := 39, ground := Ground.data }, { on := 55, ground := Ground.data }], guard := none } : Oper)) (v := ?_) rfl (by kernel_rfl) (by kernel_rfl) (by kernel_rfl) (fun _ _ _ h => h) (Or.inl ⟨by rfl, ?_⟩) (by assumption) ?_
                  rotate_left
                  · (intro w hSw; (try dsimp only at hSw); go_simp; try with_reducible rfl)
                  (try simp only [Act.put, List.setIfInBounds_toArray, List.set_cons_zero, List.set_cons_succ])
                  refine wpAnyH_done (by kernel_rfl) ?_ _
                  refine NoPanic.normal ?_
                  go_wp2
                  go_meet
                  exact ⟨rfl, HKPc.out _ Xc114, HBWc.out.trans (Xc114.mono HBWc.out.size)⟩
              · have hdz : decide (0 < cE) = false := decide_eq_false hz
                as_aux_lemma =>
                  refine wp_region_noPanic ?_
                  refine wp_region_held_drew (S := fun w' => (w'.cell? ⟨b1, 0, none⟩ = some (.bool sx) ∧ w'.cell? ⟨b1, 1, none⟩ = some (.slice bx m1 k1) ∧ w'.cell? ⟨b2, 0, none⟩ = some (.bool sy) ∧ w'.cell? ⟨b2, 1, none⟩ = some (.slice by' m2 k2) ∧ w'.cell? ⟨b3, 0, none⟩ = some (.bool sz) ∧ w'.cell? ⟨b3, 1, none⟩ = some (.slice bz m3 k3))) (by kernel_rfl) ?_ (fun hHc20 => ?_)
                  · exact HKPc.out _ (Below.refl _ _).drew
                  refine wpAnyH_take (i := 0) (oi := ({ dst := some 110, op := Op.load 28 (Operand.tmp 8), type := 28, pos := "more.go:35", after := #[], guard := none } : Oper)) (v := ?_) rfl (by kernel_rfl) (by kernel_rfl) (by kernel_rfl) (fun _ _ _ h => h) (Or.inl ⟨by rfl, ?_⟩) (by assumption) ?_
                  rotate_left
                  · (intro w hSw; (try dsimp only at hSw); go_simp; try with_reducible rfl)
                  (try simp only [Act.put, List.setIfInBounds_toArray, List.set_cons_zero, List.set_cons_succ])
                  refine wpAnyH_take (i := 1) (oi := ({ dst := some 111, op := Op.load 28 (Operand.tmp 9), type := 28, pos := "more.go:35", after := #[], guard := none } : Oper)) (v := ?_) rfl (by kernel_rfl) (by kernel_rfl) (by kernel_rfl) (fun _ _ _ h => h) (Or.inl ⟨by rfl, ?_⟩) (by assumption) ?_
                  rotate_left
                  · (intro w hSw; (try dsimp only at hSw); go_simp; try with_reducible rfl)
                  (try simp only [Act.put, List.setIfInBounds_toArray, List.set_cons_zero, List.set_cons_succ])
                  refine wpAnyH_take (i := 3) (oi := ({ dst := some 113, op := Op.load 28 (Operand.tmp 9), type := 28, pos := "more.go:35", after := #[], guard := none } : Oper)) (v := ?_) rfl (by kernel_rfl) (by kernel_rfl) (by kernel_rfl) (fun _ _ _ h => h) (Or.inl ⟨by rfl, ?_⟩) (by assumption) ?_
                  rotate_left
                  · (intro w hSw; (try dsimp only at hSw); go_simp; try with_reducible rfl)
                  (try simp only [Act.put, List.setIfInBounds_toArray, List.set_cons_zero, List.set_cons_succ])
                  refine wpAnyH_take (i := 4) (oi := ({ dst := some 114, op := Op.load 28 (Operand.tmp 8), type := 28, pos := "more.go:35", after := #[], guard := none } : Oper)) (v := ?_) rfl (by kernel_rfl) (by kernel_rfl) (by kernel_rfl) (fun _ _ _ h => h) (Or.inl ⟨by rfl, ?_⟩) (by assumption) ?_
                  rotate_left
                  · (intro w hSw; (try dsimp only at hSw); go_simp; try with_reducible rfl)
                  (try simp only [Act.put, List.setIfInBounds_toArray, List.set_cons_zero, List.set_cons_succ])
                  refine wpAnyH_ready (rs := [2]) (by kernel_rfl) (by simp) ?_
                  refine AllReadyH.cons (o := ({ dst := some 112, op := Op.call { callee := Callee.value (Operand.func 32), args := #[Operand.tmp 110, Operand.tmp 111], argTypes := #[28, 28] }, type := 3, pos := "more.go:35", after := #[{ on := 0, ground := Ground.data }, { on := 1, ground := Ground.data }], guard := none } : Oper)) rfl (fun K hK => ?_) AllReadyH.nil
                  go_simp
                  refine (cmp_eq _ sx sy bx by' m1 m2 k1 k2 zr zs (X) (Y) (IXc.out.drew) (IYc.out.drew) HC1.out).mono ?_
                  rintro e vc21 ⟨rfl, uc21⟩
                  have Xc21 : Below wc.heap.size wc vc21 := Below.trans (by go_grown) (uc21.mono (by go_size))
                  have Zc21 : wc.heap.size ≤ vc21.heap.size := Xc21.size
                  refine hK.out _ _ ?_ (fun hHc21 => ?_)
                  · exact HKPc.out _ Xc21
                  clear hK K hHc20
                  (try simp only [Act.put, List.setIfInBounds_toArray, List.set_cons_zero, List.set_cons_succ])
                  refine wpAnyH_ready (rs := [5]) (by kernel_rfl) (by simp) ?_
                  refine AllReadyH.cons (o := ({ dst := some 115, op := Op.call { callee := Callee.value (Operand.func 32), args := #[Operand.tmp 113, Operand.tmp 114], argTypes := #[28, 28] }, type := 3, pos := "more.go:35", after := #[{ on := 3, ground := Ground.data }, { on := 4, ground := Ground.data }, { on := 2, ground := Ground.chain }], guard := none } : Oper)) rfl (fun K hK => ?_) AllReadyH.nil
                  go_simp
                  refine (cmp_eq _ sy sx by' bx m2 m1 k2 k1 zs zr (Y) (X) (IYc.out.below Xc21) (IXc.out.below Xc21) HC2.out).mono ?_
                  rintro e vc22 ⟨rfl, uc22⟩
                  have Xc22 : Below wc.heap.size wc vc22 := Xc21.trans (uc22.mono Xc21.size)
                  have Zc22 := uc22.size
                  refine hK.out _ _ ?_ (fun hHc22 => ?_)
                  · exact HKPc.out _ Xc22
                  clear hK K hHc21
                  (try simp only [Act.put, List.setIfInBounds_toArray, List.set_cons_zero, List.set_cons_succ])
                  refine wpAnyH_take (i := 6) (oi := ({ dst := some 116, op := Op.unOp UnOp.neg 3 (Operand.tmp 115), type := 3, pos := "more.go:35", after := #[{ on := 5, ground := Ground.data }], guard := none } : Oper)) (v := ?_) rfl (by kernel_rfl) (by kernel_rfl) (by kernel_rfl) (fun _ _ _ h => h) (Or.inl ⟨by rfl, ?_⟩) (by assumption) ?_
                  rotate_left
                  · (intro w hSw; (try dsimp only at hSw); go_simp; try with_reducible rfl)
                  (try simp only [Act.put, List.setIfInBounds_toArray, List.set_cons_zero, List.set_cons_succ])
                  refine wpAnyH_take (i := 7) (oi := ({ dst := some 117, op := Op.binOp BinOp.neq 3 (Operand.tmp 112) (Operand.tmp 116) 3, type := 4, pos := "more.go:35", after := #[{ on := 2, ground := Ground.data }, { on := 6, ground := Ground.data }], guard := none } : Oper)) (v := ?_) rfl (by kernel_rfl) (by kernel_rfl) (by kernel_rfl) (fun _ _ _ h => h) (Or.inl ⟨by rfl, ?_⟩) (by assumption) ?_
                  rotate_left
                  · (intro w hSw; (try dsimp only at hSw); go_simp; try with_reducible rfl)
                  (try simp only [Act.put, List.setIfInBounds_toArray, List.set_cons_zero, List.set_cons_succ])
                  refine wpAnyH_take (i := 8) (oi := ({ dst := some 118, op := Op.move (Operand.tmp 117), type := 4, pos := "more.go:35", after := #[{ on := 7, ground := Ground.data }, { on := 5, ground := Ground.chain }], guard := none } : Oper)) (v := ?_) rfl (by kernel_rfl) (by kernel_rfl) (by kernel_rfl) (fun _ _ _ h => h) (Or.inl ⟨by rfl, ?_⟩) (by assumption) ?_
                  rotate_left
                  · (intro w hSw; (try dsimp only at hSw); go_simp; try with_reducible rfl)
                  (try simp only [Act.put, List.setIfInBounds_toArray, List.set_cons_zero, List.set_cons_succ])
                  refine wpAnyH_take (i := 9) (oi := ({ dst := some 119, op := Op.load 28 (Operand.tmp 8), type := 28, pos := "more.go:35", after := #[{ on := 8, ground := Ground.guard }], guard := some (8, false) } : Oper)) (v := ?_) rfl (by kernel_rfl) (by kernel_rfl) (by kernel_rfl) (fun _ _ _ h => h) (Or.inl ⟨by rfl, ?_⟩) (by assumption) ?_
                  rotate_left
                  · (intro w hSw; (try dsimp only at hSw); go_simp; try with_reducible rfl)
                  (try simp only [Act.put, List.setIfInBounds_toArray, List.set_cons_zero, List.set_cons_succ])
                  refine wpAnyH_take (i := 10) (oi := ({ dst := some 120, op := Op.load 28 (Operand.tmp 9), type := 28, pos := "more.go:35", after := #[{ on := 8, ground := Ground.guard }], guard := some (8, false) } : Oper)) (v := ?_) rfl (by kernel_rfl) (by kernel_rfl) (by kernel_rfl) (fun _ _ _ h => h) (Or.inl ⟨by rfl, ?_⟩) (by assumption) ?_
                  rotate_left
                  · (intro w hSw; (try dsimp only at hSw); go_simp; try with_reducible rfl)
                  (try simp only [Act.put, List.setIfInBounds_toArray, List.set_cons_zero, List.set_cons_succ])
                  refine wpAnyH_ready (rs := [11]) (by kernel_rfl) (by simp) ?_
                  refine AllReadyH.cons (o := ({ dst := some 121, op := Op.call { callee := Callee.value (Operand.func 32), args := #[Operand.tmp 119, Operand.tmp 120], argTypes := #[28, 28] }, type := 3, pos := "more.go:35", after := #[{ on := 9, ground := Ground.data }, { on := 10, ground := Ground.data }, { on := 8, ground := Ground.chain }, { on := 8, ground := Ground.guard }], guard := some (8, false) } : Oper)) rfl (fun K hK => ?_) AllReadyH.nil
                  go_simp
                  refine (cmp_eq _ sx sy bx by' m1 m2 k1 k2 zr zs (X) (Y) (IXc.out.below Xc22) (IYc.out.below Xc22) HC1.out).mono ?_
                  rintro e vc23 ⟨rfl, uc23⟩
                  have Xc23 : Below wc.heap.size wc vc23 := Xc22.trans (uc23.mono Xc22.size)
                  have Zc23 := uc23.size
                  refine hK.out _ _ ?_ (fun hHc23 => ?_)
                  · exact HKPc.out _ Xc23
                  clear hK K hHc22
                  (try simp only [Act.put, List.setIfInBounds_toArray, List.set_cons_zero, List.set_cons_succ])
                  refine wpAnyH_take (i := 12) (oi := ({ dst := some 122, op := Op.binOp BinOp.leq 3 (Operand.tmp 121) (Operand.const (Value.int IntKind.i64 0)) 3, type := 4, pos := "more.go:35", after := #[{ on := 11, ground := Ground.data }, { on := 8, ground := Ground.guard }], guard := some (8, false) } : Oper)) (v := ?_) rfl (by kernel_rfl) (by kernel_rfl) (by kernel_rfl) (fun _ _ _ h => h) (Or.inl ⟨by rfl, ?_⟩) (by assumption) ?_
                  rotate_left
                  · (intro w hSw; (try dsimp only at hSw); go_simp; try with_reducible rfl)
                  (try simp only [Act.put, List.setIfInBounds_toArray, List.set_cons_zero, List.set_cons_succ])
                  refine wpAnyH_take (i := 13) (oi := ({ dst := some 123, op := Op.move (Operand.tmp 122), type := 4, pos := "more.go:35", after := #[{ on := 12, ground := Ground.data }, { on := 11, ground := Ground.chain }, { on := 8, ground := Ground.guard }], guard := some (8, false) } : Oper)) (v := ?_) rfl (by kernel_rfl) (by kernel_rfl) (by kernel_rfl) (fun _ _ _ h => h) (Or.inl ⟨by rfl, ?_⟩) (by assumption) ?_
                  rotate_left
                  · (intro w hSw; (try dsimp only at hSw); go_simp; try with_reducible rfl)
                  (try simp only [Act.put, List.setIfInBounds_toArray, List.set_cons_zero, List.set_cons_succ])
                  refine wpAnyH_take (i := 14) (oi := ({ dst := some 124, op := Op.load 28 (Operand.tmp 9), type := 28, pos := "more.go:35", after := #[{ on := 13, ground := Ground.guard }], guard := some (13, true) } : Oper)) (v := ?_) rfl (by kernel_rfl) (by kernel_rfl) (by kernel_rfl) (fun _ _ _ h => h) (Or.inl ⟨by rfl, ?_⟩) (by assumption) ?_
                  rotate_left
                  · (intro w hSw; (try dsimp only at hSw); go_simp; try with_reducible rfl)
                  (try simp only [Act.put, List.setIfInBounds_toArray, List.set_cons_zero, List.set_cons_succ])
                  refine wpAnyH_take (i := 15) (oi := ({ dst := some 125, op := Op.load 28 (Operand.tmp 10), type := 28, pos := "more.go:35", after := #[{ on := 13, ground := Ground.guard }], guard := some (13, true) } : Oper)) (v := ?_) rfl (by kernel_rfl) (by kernel_rfl) (by kernel_rfl) (fun _ _ _ h => h) (Or.inl ⟨by rfl, ?_⟩) (by assumption) ?_
                  rotate_left
                  · (intro w hSw; (try dsimp only at hSw); go_simp; try with_reducible rfl)
                  (try simp only [Act.put, List.setIfInBounds_toArray, List.set_cons_zero, List.set_cons_succ])
                  refine wpAnyH_ready (rs := [16]) (by kernel_rfl) (by simp) ?_
                  refine AllReadyH.cons (o := ({ dst := some 126, op := Op.call { callee := Callee.value (Operand.func 32), args := #[Operand.tmp 124, Operand.tmp 125], argTypes := #[28, 28] }, type := 3, pos := "more.go:35", after := #[{ on := 14, ground := Ground.data }, { on := 15, ground := Ground.data }, { on := 13, ground := Ground.chain }, { on := 13, ground := Ground.guard }], guard := some (13, true) } : Oper)) rfl (fun K hK => ?_) AllReadyH.nil
                  go_simp
                  refine (cmp_eq _ sy sz by' bz m2 m3 k2 k3 zs zt (Y) (Z) (IYc.out.below Xc23) (IZc.out.below Xc23) HC3.out).mono ?_
                  rintro e vc24 ⟨rfl, uc24⟩
                  have Xc24 : Below wc.heap.size wc vc24 := Xc23.trans (uc24.mono Xc23.size)
                  have Zc24 := uc24.size
                  refine hK.out _ _ ?_ (fun hHc24 => ?_)
                  · exact HKPc.out _ Xc24
                  clear hK K hHc23
                  (try simp only [Act.put, List.setIfInBounds_toArray, List.set_cons_zero, List.set_cons_succ])
                  refine wpAnyH_take (i := 17) (oi := ({ dst := some 127, op := Op.binOp BinOp.leq 3 (Operand.tmp 126) (Operand.const (Value.int IntKind.i64 0)) 3, type := 4, pos := "more.go:35", after := #[{ on := 16, ground := Ground.data }, { on := 13, ground := Ground.guard }], guard := some (13, true) } : Oper)) (v := ?_) rfl (by kernel_rfl) (by kernel_rfl) (by kernel_rfl) (fun _ _ _ h => h) (Or.inl ⟨by rfl, ?_⟩) (by assumption) ?_
                  rotate_left
                  · (intro w hSw; (try dsimp only at hSw); go_simp; try with_reducible rfl)
                  (try simp only [Act.put, List.setIfInBounds_toArray, List.set_cons_zero, List.set_cons_succ])
                  refine wpAnyH_take (i := 18) (oi := ({ dst := some 128, op := Op.pick (Operand.tmp 123) (Operand.tmp 127) (Operand.const (Value.bool false)), type := 4, pos := "more.go:35", after := #[{ on := 13, ground := Ground.data }, { on := 17, ground := Ground.data }, { on := 8, ground := Ground.guard }], guard := some (8, false) } : Oper)) (v := ?_) rfl (by kernel_rfl) (by kernel_rfl) (by kernel_rfl) (fun _ _ _ h => h) (Or.inl ⟨by rfl, ?_⟩) (by assumption) ?_
                  rotate_left
                  · (intro w hSw; (try dsimp only at hSw); go_simp; try with_reducible rfl)
                  (try simp only [Act.put, List.setIfInBounds_toArray, List.set_cons_zero, List.set_cons_succ])
                  refine wpAnyH_take (i := 19) (oi := ({ dst := some 129, op := Op.move (Operand.tmp 128), type := 4, pos := "more.go:35", after := #[{ on := 18, ground := Ground.data }, { on := 16, ground := Ground.chain }, { on := 8, ground := Ground.guard }], guard := some (8, false) } : Oper)) (v := ?_) rfl (by kernel_rfl) (by kernel_rfl) (by kernel_rfl) (fun _ _ _ h => h) (Or.inl ⟨by rfl, ?_⟩) (by assumption) ?_
                  rotate_left
                  · (intro w hSw; (try dsimp only at hSw); go_simp; try with_reducible rfl)
                  (try simp only [Act.put, List.setIfInBounds_toArray, List.set_cons_zero, List.set_cons_succ])
                  refine wpAnyH_take (i := 20) (oi := ({ dst := some 130, op := Op.load 28 (Operand.tmp 8), type := 28, pos := "more.go:35", after := #[{ on := 19, ground := Ground.guard }], guard := some (19, true) } : Oper)) (v := ?_) rfl (by kernel_rfl) (by kernel_rfl) (by kernel_rfl) (fun _ _ _ h => h) (Or.inl ⟨by rfl, ?_⟩) (by assumption) ?_
                  rotate_left
                  · (intro w hSw; (try dsimp only at hSw); go_simp; try with_reducible rfl)
                  (try simp only [Act.put, List.setIfInBounds_toArray, List.set_cons_zero, List.set_cons_succ])
                  refine wpAnyH_take (i := 21) (oi := ({ dst := some 131, op := Op.load 28 (Operand.tmp 10), type := 28, pos := "more.go:35", after := #[{ on := 19, ground := Ground.guard }], guard := some (19, true) } : Oper)) (v := ?_) rfl (by kernel_rfl) (by kernel_rfl) (by kernel_rfl) (fun _ _ _ h => h) (Or.inl ⟨by rfl, ?_⟩) (by assumption) ?_
                  rotate_left
                  · (intro w hSw; (try dsimp only at hSw); go_simp; try with_reducible rfl)
                  (try simp only [Act.put, List.setIfInBounds_toArray, List.set_cons_zero, List.set_cons_succ])
                  refine wpAnyH_ready (rs := [22]) (by kernel_rfl) (by simp) ?_
                  refine AllReadyH.cons (o := ({ dst := some 132, op := Op.call { callee := Callee.value (Operand.func 32), args := #[Operand.tmp 130, Operand.tmp 131], argTypes := #[28, 28] }, type := 3, pos := "more.go:35", after := #[{ on := 20, ground := Ground.data }, { on := 21, ground := Ground.data }, { on := 19, ground := Ground.chain }, { on := 19, ground := Ground.guard }], guard := some (19, true) } : Oper)) rfl (fun K hK => ?_) AllReadyH.nil
                  go_simp
                  refine (cmp_eq _ sx sz bx bz m1 m3 k1 k3 zr zt (X) (Z) (IXc.out.below Xc24) (IZc.out.below Xc24) HC4.out).mono ?_
                  rintro e vc25 ⟨rfl, uc25⟩
                  have Xc25 : Below wc.heap.size wc vc25 := Xc24.trans (uc25.mono Xc24.size)
                  have Zc25 := uc25.size
                  refine hK.out _ _ ?_ (fun hHc25 => ?_)
                  · exact HKPc.out _ Xc25
                  clear hK K hHc24
                  (try simp only [Act.put, List.setIfInBounds_toArray, List.set_cons_zero, List.set_cons_succ])
                  refine wpAnyH_take (i := 23) (oi := ({ dst := some 133, op := Op.binOp BinOp.gtr 3 (Operand.tmp 132) (Operand.const (Value.int IntKind.i64 0)) 3, type := 4, pos := "more.go:35", after := #[{ on := 22, ground := Ground.data }, { on := 19, ground := Ground.guard }], guard := some (19, true) } : Oper)) (v := ?_) rfl (by kernel_rfl) (by kernel_rfl) (by kernel_rfl) (fun _ _ _ h => h) (Or.inl ⟨by rfl, ?_⟩) (by assumption) ?_
                  rotate_left
                  · (intro w hSw; (try dsimp only at hSw); go_simp; try with_reducible rfl)
                  (try simp only [Act.put, List.setIfInBounds_toArray, List.set_cons_zero, List.set_cons_succ])
                  refine wpAnyH_take (i := 24) (oi := ({ dst := some 134, op := Op.pick (Operand.tmp 129) (Operand.tmp 133) (Operand.const (Value.bool false)), type := 4, pos := "more.go:35", after := #[{ on := 19, ground := Ground.data }, { on := 23, ground := Ground.data }, { on := 8, ground := Ground.guard }], guard := some (8, false) } : Oper)) (v := ?_) rfl (by kernel_rfl) (by kernel_rfl) (by kernel_rfl) (fun _ _ _ h => h) (Or.inl ⟨by rfl, ?_⟩) (by assumption) ?_
                  rotate_left
                  · (intro w hSw; (try dsimp only at hSw); go_simp; try with_reducible rfl)
                  (try simp only [Act.put, List.setIfInBounds_toArray, List.set_cons_zero, List.set_cons_succ])
                  refine wpAnyH_take (i := 25) (oi := ({ dst := some 135, op := Op.pick (Operand.tmp 118) (Operand.const (Value.bool true)) (Operand.tmp 134), type := 4, pos := "more.go:35", after := #[{ on := 8, ground := Ground.data }, { on := 24, ground := Ground.data }], guard := none } : Oper)) (v := ?_) rfl (by kernel_rfl) (by kernel_rfl) (by kernel_rfl) (fun _ _ _ h => h) (Or.inl ⟨by rfl, ?_⟩) (by assumption) ?_
                  rotate_left
                  · (intro w hSw; (try dsimp only at hSw); go_simp; try with_reducible rfl)
                  (try simp only [Act.put, List.setIfInBounds_toArray, List.set_cons_zero, List.set_cons_succ])
                  refine wpAnyH_take (i := 26) (oi := ({ dst := some 136, op := Op.move (Operand.tmp 135), type := 4, pos := "more.go:35", after := #[{ on := 25, ground := Ground.data }, { on := 22, ground := Ground.chain }], guard := none } : Oper)) (v := ?_) rfl (by kernel_rfl) (by kernel_rfl) (by kernel_rfl) (fun _ _ _ h => h) (Or.inl ⟨by rfl, ?_⟩) (by assumption) ?_
                  rotate_left
                  · (intro w hSw; (try dsimp only at hSw); go_simp; try with_reducible rfl)
                  (try simp only [Act.put, List.setIfInBounds_toArray, List.set_cons_zero, List.set_cons_succ])
                  refine wpAnyH_take (i := 27) (oi := ({ dst := some 137, op := Op.load 28 (Operand.tmp 8), type := 28, pos := "more.go:35", after := #[{ on := 26, ground := Ground.guard }], guard := some (26, false) } : Oper)) (v := ?_) rfl (by kernel_rfl) (by kernel_rfl) (by kernel_rfl) (fun _ _ _ h => h) (Or.inl ⟨by rfl, ?_⟩) (by assumption) ?_
                  rotate_left
                  · (intro w hSw; (try dsimp only at hSw); go_simp; try with_reducible rfl)
                  (try simp only [Act.put, List.setIfInBounds_toArray, List.set_cons_zero, List.set_cons_succ])
                  refine wpAnyH_take (i := 28) (oi := ({ dst := some 138, op := Op.load 28 (Operand.tmp 10), type := 28, pos := "more.go:35", after := #[{ on := 26, ground := Ground.guard }], guard := some (26, false) } : Oper)) (v := ?_) rfl (by kernel_rfl) (by kernel_rfl) (by kernel_rfl) (fun _ _ _ h => h) (Or.inl ⟨by rfl, ?_⟩) (by assumption) ?_
                  rotate_left
                  · (intro w hSw; (try dsimp only at hSw); go_simp; try with_reducible rfl)
                  (try simp only [Act.put, List.setIfInBounds_toArray, List.set_cons_zero, List.set_cons_succ])
                  refine wpAnyH_take (i := 30) (oi := ({ dst := some 140, op := Op.load 28 (Operand.tmp 9), type := 28, pos := "more.go:35", after := #[{ on := 26, ground := Ground.guard }], guard := some (26, false) } : Oper)) (v := ?_) rfl (by kernel_rfl) (by kernel_rfl) (by kernel_rfl) (fun _ _ _ h => h) (Or.inl ⟨by rfl, ?_⟩) (by assumption) ?_
                  rotate_left
                  · (intro w hSw; (try dsimp only at hSw); go_simp; try with_reducible rfl)
                  (try simp only [Act.put, List.setIfInBounds_toArray, List.set_cons_zero, List.set_cons_succ])
                  refine wpAnyH_take (i := 31) (oi := ({ dst := some 141, op := Op.load 28 (Operand.tmp 10), type := 28, pos := "more.go:35", after := #[{ on := 26, ground := Ground.guard }], guard := some (26, false) } : Oper)) (v := ?_) rfl (by kernel_rfl) (by kernel_rfl) (by kernel_rfl) (fun _ _ _ h => h) (Or.inl ⟨by rfl, ?_⟩) (by assumption) ?_
                  rotate_left
                  · (intro w hSw; (try dsimp only at hSw); go_simp; try with_reducible rfl)
                  (try simp only [Act.put, List.setIfInBounds_toArray, List.set_cons_zero, List.set_cons_succ])
                  refine wpAnyH_take (i := 34) (oi := ({ dst := some 144, op := Op.load 28 (Operand.tmp 8), type := 28, pos := "more.go:35", after := #[{ on := 26, ground := Ground.guard }], guard := some (26, false) } : Oper)) (v := ?_) rfl (by kernel_rfl) (by kernel_rfl) (by kernel_rfl) (fun _ _ _ h => h) (Or.inl ⟨by rfl, ?_⟩) (by assumption) ?_
                  rotate_left
                  · (intro w hSw; (try dsimp only at hSw); go_simp; try with_reducible rfl)
                  (try simp only [Act.put, List.setIfInBounds_toArray, List.set_cons_zero, List.set_cons_succ])
                  refine wpAnyH_take (i := 35) (oi := ({ dst := some 145, op := Op.load 28 (Operand.tmp 9), type := 28, pos := "more.go:35", after := #[{ on := 26, ground := Ground.guard }], guard := some (26, false) } : Oper)) (v := ?_) rfl (by kernel_rfl) (by kernel_rfl) (by kernel_rfl) (fun _ _ _ h => h) (Or.inl ⟨by rfl, ?_⟩) (by assumption) ?_
                  rotate_left
                  · (intro w hSw; (try dsimp only at hSw); go_simp; try with_reducible rfl)
                  (try simp only [Act.put, List.setIfInBounds_toArray, List.set_cons_zero, List.set_cons_succ])
                  refine wpAnyH_ready (rs := [29]) (by kernel_rfl) (by simp) ?_
                  refine AllReadyH.cons (o := ({ dst := some 139, op := Op.call { callee := Callee.value (Operand.func 38), args := #[Operand.tmp 137, Operand.tmp 138], argTypes := #[28, 28] }, type := 28, pos := "more.go:35", after := #[{ on := 27, ground := Ground.data }, { on := 28, ground := Ground.data }, { on := 26, ground := Ground.chain }, { on := 26, ground := Ground.guard }], guard := some (26, false) } : Oper)) rfl (fun K hK => ?_) AllReadyH.nil
                  go_simp
                  refine (add_int _ sx sz bx bz m1 m3 k1 k3 zr zt (X) (Z) (IXc.out.below Xc25) (IZc.out.below Xc25) (by omega) (by omega)).mono ?_
                  rintro e vc26 ⟨sc26, ac26, nc26, cc26, zc26, rfl, gc26, pc26, uc26⟩
                  have qc26 : nc26 ≤ 9 := (by omega)
                  clear pc26
                  have Rc2px6 := Lib.hid gc26
                  clear gc26
                  have Xc26 : Below wc.heap.size wc vc26 := Xc25.trans (uc26.mono Xc25.size)
                  have Zc26 := uc26.size
                  refine hK.out _ _ ?_ (fun hHc26 => ?_)
                  · exact HKPc.out _ Xc26
                  clear hK K hHc25
                  (try simp only [Act.put, List.setIfInBounds_toArray, List.set_cons_zero, List.set_cons_succ])
                  refine wpAnyH_ready (rs := [32]) (by kernel_rfl) (by simp) ?_
                  refine AllReadyH.cons (o := ({ dst := some 142, op := Op.call { callee := Callee.value (Operand.func 38), args := #[Operand.tmp 140, Operand.tmp 141], argTypes := #[28, 28] }, type := 28, pos := "more.go:35", after := #[{ on := 30, ground := Ground.data }, { on := 31, ground := Ground.data }, { on := 29, ground := Ground.chain }, { on := 26, ground := Ground.guard }], guard := some (26, false) } : Oper)) rfl (fun K hK => ?_) AllReadyH.nil
                  go_simp
                  refine (add_int _ sy sz by' bz m2 m3 k2 k3 zs zt (Y) (Z) (IYc.out.below Xc26) (IZc.out.below Xc26) (by omega) (by omega)).mono ?_
                  rintro e vc27 ⟨sc27, ac27, nc27, cc27, zc27, rfl, gc27, pc27, uc27⟩
                  have qc27 : nc27 ≤ 9 := (by omega)
                  clear pc27
                  have Rc2qx7 := Lib.hid gc27
                  clear gc27
                  have Xc27 : Below wc.heap.size wc vc27 := Xc26.trans (uc27.mono Xc26.size)
                  have Zc27 := uc27.size
                  have Rc2px7 := Lib.hid (Rc2px6.out.below uc27)
                  clear Rc2px6
                  refine hK.out _ _ ?_ (fun hHc27 => ?_)
                  · exact HKPc.out _ Xc27
                  clear hK K hHc26
                  (try simp only [Act.put, List.setIfInBounds_toArray, List.set_cons_zero, List.set_cons_succ])
                  refine wpAnyH_ready (rs := [33]) (by kernel_rfl) (by simp) ?_
                  refine AllReadyH.cons (o := ({ dst := some 143, op := Op.call { callee := Callee.value (Operand.func 32), args := #[Operand.tmp 139, Operand.tmp 142], argTypes := #[28, 28] }, type := 3, pos := "more.go:35", after := #[{ on := 29, ground := Ground.data }, { on := 32, ground := Ground.data }, { on := 32, ground := Ground.chain }, { on := 26, ground := Ground.guard }], guard := some (26, false) } : Oper)) rfl (fun K hK => ?_) AllReadyH.nil
                  go_simp
                  refine (cmp_eq _ sc26 sc27 ac26 ac27 nc26 nc27 cc26 cc27 zc26 zc27 ((X) + (Z)) ((Y) + (Z)) Rc2px7.out Rc2qx7.out HC6.out).mono ?_
                  rintro e vc28 ⟨rfl, uc28⟩
                  have Xc28 : Below wc.heap.size wc vc28 := Xc27.trans (uc28.mono Xc27.size)
                  have Zc28 := uc28.size
                  refine hK.out _ _ ?_ (fun hHc28 => ?_)
                  · exact HKPc.out _ Xc28
                  clear hK K hHc27
                  (try simp only [Act.put, List.setIfInBounds_toArray, List.set_cons_zero, List.set_cons_succ])
                  refine wpAnyH_ready (rs := [36]) (by kernel_rfl) (by simp) ?_
                  refine AllReadyH.cons (o := ({ dst := some 146, op := Op.call { callee := Callee.value (Operand.func 32), args := #[Operand.tmp 144, Operand.tmp 145], argTypes := #[28, 28] }, type := 3, pos := "more.go:35", after := #[{ on := 34, ground := Ground.data }, { on := 35, ground := Ground.data }, { on := 33, ground := Ground.chain }, { on := 26, ground := Ground.guard }], guard := some (26, false) } : Oper)) rfl (fun K hK => ?_) AllReadyH.nil
                  go_simp
                  refine (cmp_eq _ sx sy bx by' m1 m2 k1 k2 zr zs (X) (Y) (IXc.out.below Xc28) (IYc.out.below Xc28) HC1.out).mono ?_
                  rintro e vc29 ⟨rfl, uc29⟩
                  have Xc29 : Below wc.heap.size wc vc29 := Xc28.trans (uc29.mono Xc28.size)
                  have Zc29 := uc29.size
                  refine hK.out _ _ ?_ (fun hHc29 => ?_)
                  · exact HKPc.out _ Xc29
                  clear hK K hHc28
                  (try simp only [Act.put, List.setIfInBounds_toArray, List.set_cons_zero, List.set_cons_succ])
                  refine wpAnyH_take (i := 37) (oi := ({ dst := some 147, op := Op.binOp BinOp.neq 3 (Operand.tmp 143) (Operand.tmp 146) 3, type := 4, pos := "more.go:35", after := #[{ on := 33, ground := Ground.data }, { on := 36, ground := Ground.data }, { on := 26, ground := Ground.guard }], guard := some (26, false) } : Oper)) (v := ?_) rfl (by kernel_rfl) (by kernel_rfl) (by kernel_rfl) (fun _ _ _ h => h) (Or.inl ⟨by rfl, ?_⟩) (by assumption) ?_
                  rotate_left
                  · (intro w hSw; (try dsimp only at hSw); go_simp; try with_reducible rfl)
                  (try simp only [Act.put, List.setIfInBounds_toArray, List.set_cons_zero, List.set_cons_succ])
                  refine wpAnyH_take (i := 38) (oi := ({ dst := some 148, op := Op.pick (Operand.tmp 136) (Operand.const (Value.bool true)) (Operand.tmp 147), type := 4, pos := "more.go:35", after := #[{ on := 26, ground := Ground.data }, { on := 37, ground := Ground.data }], guard := none } : Oper)) (v := ?_) rfl (by kernel_rfl) (by kernel_rfl) (by kernel_rfl) (fun _ _ _ h => h) (Or.inl ⟨by rfl, ?_⟩) (by assumption) ?_
                  rotate_left
                  · (intro w hSw; (try dsimp only at hSw); go_simp; try with_reducible rfl)
                  (try simp only [Act.put, List.setIfInBounds_toArray, List.set_cons_zero, List.set_cons_succ])
                  refine wpAnyH_take (i := 39) (oi := ({ dst := some 149, op := Op.move (Operand.tmp 148), type := 4, pos := "more.go:35", after := #[{ on := 38, ground := Ground.data }, { on := 36, ground := Ground.chain }], guard := none } : Oper)) (v := ?_) rfl (by kernel_rfl) (by kernel_rfl) (by kernel_rfl) (fun _ _ _ h => h) (Or.inl ⟨by rfl, ?_⟩) (by assumption) ?_
                  rotate_left
                  · (intro w hSw; (try dsimp only at hSw); go_simp; try with_reducible rfl)
                  (try simp only [Act.put, List.setIfInBounds_toArray, List.set_cons_zero, List.set_cons_succ])
                  refine wpAnyH_take (i := 40) (oi := ({ dst := some 150, op := Op.load 28 (Operand.tmp 10), type := 28, pos := "more.go:35", after := #[{ on := 39, ground := Ground.guard }], guard := some (39, false) } : Oper)) (v := ?_) rfl (by kernel_rfl) (by kernel_rfl) (by kernel_rfl) (fun _ _ _ h => h) (Or.inl ⟨by rfl, ?_⟩) (by assumption) ?_
                  rotate_left
                  · (intro w hSw; (try dsimp only at hSw); go_simp; try with_reducible rfl)
                  (try simp only [Act.put, List.setIfInBounds_toArray, List.set_cons_zero, List.set_cons_succ])
                  refine wpAnyH_ready (rs := [41]) (by kernel_rfl) (by simp) ?_
                  refine AllReadyH.cons (o := ({ dst := some 151, op := Op.call { callee := Callee.value (Operand.func 22), args := #[Operand.tmp 150], argTypes := #[28] }, type := 3, pos := "more.go:35", after := #[{ on := 40, ground := Ground.data }, { on := 39, ground := Ground.chain }, { on := 39, ground := Ground.guard }], guard := some (39, false) } : Oper)) rfl (fun K hK => ?_) AllReadyH.nil
                  go_simp
                  refine (sign_eq _ sz bz m3 k3 zt (Z) (IZc.out.below Xc29) HC5.out).mono ?_
                  rintro e vc210 ⟨rfl, uc210⟩
                  have Xc210 : Below wc.heap.size wc vc210 := Xc29.trans (uc210.mono Xc29.size)
                  have Zc210 := uc210.size
                  refine hK.out _ _ ?_ (fun hHc210 => ?_)
                  · exact HKPc.out _ Xc210
                  clear hK K hHc29
                  (try simp only [Act.put, List.setIfInBounds_toArray, List.set_cons_zero, List.set_cons_succ])
                  refine wpAnyH_take (i := 42) (oi := ({ dst := some 152, op := Op.binOp BinOp.gtr 3 (Operand.tmp 151) (Operand.const (Value.int IntKind.i64 0)) 3, type := 4, pos := "more.go:35", after := #[{ on := 41, ground := Ground.data }, { on := 39, ground := Ground.guard }], guard := some (39, false) } : Oper)) (v := ?_) rfl (by kernel_rfl) (by kernel_rfl) (by kernel_rfl) (fun _ _ _ h => h) (Or.inl ⟨by rfl, ?_⟩) (by assumption) ?_
                  rotate_left
                  · (intro w hSw; (try dsimp only at hSw); go_simp; try with_reducible rfl)
                  (try simp only [Act.put, List.setIfInBounds_toArray, List.set_cons_zero, List.set_cons_succ])
                  refine wpAnyH_take (i := 43) (oi := ({ dst := some 153, op := Op.move (Operand.tmp 152), type := 4, pos := "more.go:35", after := #[{ on := 42, ground := Ground.data }, { on := 41, ground := Ground.chain }, { on := 39, ground := Ground.guard }], guard := some (39, false) } : Oper)) (v := ?_) rfl (by kernel_rfl) (by kernel_rfl) (by kernel_rfl) (fun _ _ _ h => h) (Or.inl ⟨by rfl, ?_⟩) (by assumption) ?_
                  rotate_left
                  · (intro w hSw; (try dsimp only at hSw); go_simp; try with_reducible rfl)
                  (try simp only [Act.put, List.setIfInBounds_toArray, List.set_cons_zero, List.set_cons_succ])
                  refine wpAnyH_take (i := 44) (oi := ({ dst := some 154, op := Op.load 28 (Operand.tmp 8), type := 28, pos := "more.go:35", after := #[{ on := 43, ground := Ground.guard }], guard := some (43, true) } : Oper)) (v := undef) rfl (by kernel_rfl) (by kernel_rfl) (by kernel_rfl) (fun _ _ _ h => h) (Or.inr ⟨by rfl, rfl⟩) (by assumption) ?_
                  (try simp only [Act.put, List.setIfInBounds_toArray, List.set_cons_zero, List.set_cons_succ])
                  refine wpAnyH_take (i := 45) (oi := ({ dst := some 155, op := Op.load 28 (Operand.tmp 10), type := 28, pos := "more.go:35", after := #[{ on := 43, ground := Ground.guard }], guard := some (43, true) } : Oper)) (v := undef) rfl (by kernel_rfl) (by kernel_rfl) (by kernel_rfl) (fun _ _ _ h => h) (Or.inr ⟨by rfl, rfl⟩) (by assumption) ?_
                  (try simp only [Act.put, List.setIfInBounds_toArray, List.set_cons_zero, List.set_cons_succ])
                  refine wpAnyH_take (i := 46) (oi := ({ dst := some 156, op := Op.call { callee := Callee.value (Operand.func 42), args := #[Operand.tmp 154, Operand.tmp 155], argTypes := #[28, 28] }, type := 28, pos := "more.go:35", after := #[{ on := 44, ground := Ground.data }, { on := 45, ground := Ground.data }, { on := 43, ground := Ground.chain }, { on := 43, ground := Ground.guard }], guard := some (43, true) } : Oper)) (v := undef) rfl (by kernel_rfl) (by kernel_rfl) (by kernel_rfl) (fun _ _ _ h => h) (Or.inr ⟨by rfl, rfl⟩) (by assumption) ?_
                  (try simp only [Act.put, List.setIfInBounds_toArray, List.set_cons_zero, List.set_cons_succ])
                  refine wpAnyH_take (i := 47) (oi := ({ dst := some 157, op := Op.load 28 (Operand.tmp 9), type := 28, pos := "more.go:35", after := #[{ on := 43, ground := Ground.guard }], guard := some (43, true) } : Oper)) (v := undef) rfl (by kernel_rfl) (by kernel_rfl) (by kernel_rfl) (fun _ _ _ h => h) (Or.inr ⟨by rfl, rfl⟩) (by assumption) ?_
                  (try simp only [Act.put, List.setIfInBounds_toArray, List.set_cons_zero, List.set_cons_succ])
                  refine wpAnyH_take (i := 48) (oi := ({ dst := some 158, op := Op.load 28 (Operand.tmp 10), type := 28, pos := "more.go:35", after := #[{ on := 43, ground := Ground.guard }], guard := some (43, true) } : Oper)) (v := undef) rfl (by kernel_rfl) (by kernel_rfl) (by kernel_rfl) (fun _ _ _ h => h) (Or.inr ⟨by rfl, rfl⟩) (by assumption) ?_
                  (try simp only [Act.put, List.setIfInBounds_toArray, List.set_cons_zero, List.set_cons_succ])
                  refine wpAnyH_take (i := 49) (oi := ({ dst := some 159, op := Op.call { callee := Callee.value (Operand.func 42), args := #[Operand.tmp 157, Operand.tmp 158], argTypes := #[28, 28] }, type := 28, pos := "more.go:35", after := #[{ on := 47, ground := Ground.data }, { on := 48, ground := Ground.data }, { on := 46, ground := Ground.chain }, { on := 43, ground := Ground.guard }], guard := some (43, true) } : Oper)) (v := undef) rfl (by kernel_rfl) (by kernel_rfl) (by kernel_rfl) (fun _ _ _ h => h) (Or.inr ⟨by rfl, rfl⟩) (by assumption) ?_
                  (try simp only [Act.put, List.setIfInBounds_toArray, List.set_cons_zero, List.set_cons_succ])
                  refine wpAnyH_take (i := 50) (oi := ({ dst := some 160, op := Op.call { callee := Callee.value (Operand.func 32), args := #[Operand.tmp 156, Operand.tmp 159], argTypes := #[28, 28] }, type := 3, pos := "more.go:35", after := #[{ on := 46, ground := Ground.data }, { on := 49, ground := Ground.data }, { on := 49, ground := Ground.chain }, { on := 43, ground := Ground.guard }], guard := some (43, true) } : Oper)) (v := undef) rfl (by kernel_rfl) (by kernel_rfl) (by kernel_rfl) (fun _ _ _ h => h) (Or.inr ⟨by rfl, rfl⟩) (by assumption) ?_
                  (try simp only [Act.put, List.setIfInBounds_toArray, List.set_cons_zero, List.set_cons_succ])
                  refine wpAnyH_take (i := 51) (oi := ({ dst := some 161, op := Op.load 28 (Operand.tmp 8), type := 28, pos := "more.go:35", after := #[{ on := 43, ground := Ground.guard }], guard := some (43, true) } : Oper)) (v := undef) rfl (by kernel_rfl) (by kernel_rfl) (by kernel_rfl) (fun _ _ _ h => h) (Or.inr ⟨by rfl, rfl⟩) (by assumption) ?_
                  (try simp only [Act.put, List.setIfInBounds_toArray, List.set_cons_zero, List.set_cons_succ])
                  refine wpAnyH_take (i := 52) (oi := ({ dst := some 162, op := Op.load 28 (Operand.tmp 9), type := 28, pos := "more.go:35", after := #[{ on := 43, ground := Ground.guard }], guard := some (43, true) } : Oper)) (v := undef) rfl (by kernel_rfl) (by kernel_rfl) (by kernel_rfl) (fun _ _ _ h => h) (Or.inr ⟨by rfl, rfl⟩) (by assumption) ?_
                  (try simp only [Act.put, List.setIfInBounds_toArray, List.set_cons_zero, List.set_cons_succ])
                  refine wpAnyH_take (i := 53) (oi := ({ dst := some 163, op := Op.call { callee := Callee.value (Operand.func 32), args := #[Operand.tmp 161, Operand.tmp 162], argTypes := #[28, 28] }, type := 3, pos := "more.go:35", after := #[{ on := 51, ground := Ground.data }, { on := 52, ground := Ground.data }, { on := 50, ground := Ground.chain }, { on := 43, ground := Ground.guard }], guard := some (43, true) } : Oper)) (v := undef) rfl (by kernel_rfl) (by kernel_rfl) (by kernel_rfl) (fun _ _ _ h => h) (Or.inr ⟨by rfl, rfl⟩) (by assumption) ?_
                  (try simp only [Act.put, List.setIfInBounds_toArray, List.set_cons_zero, List.set_cons_succ])
                  refine wpAnyH_take (i := 54) (oi := ({ dst := some 164, op := Op.binOp BinOp.neq 3 (Operand.tmp 160) (Operand.tmp 163) 3, type := 4, pos := "more.go:35", after := #[{ on := 50, ground := Ground.data }, { on := 53, ground := Ground.data }, { on := 43, ground := Ground.guard }], guard := some (43, true) } : Oper)) (v := undef) rfl (by kernel_rfl) (by kernel_rfl) (by kernel_rfl) (fun _ _ _ h => h) (Or.inr ⟨by rfl, rfl⟩) (by assumption) ?_
                  (try simp only [Act.put, List.setIfInBounds_toArray, List.set_cons_zero, List.set_cons_succ])
                  refine wpAnyH_take (i := 55) (oi := ({ dst := some 165, op := Op.pick (Operand.tmp 153) (Operand.tmp 164) (Operand.const (Value.bool false)), type := 4, pos := "more.go:35", after := #[{ on := 43, ground := Ground.data }, { on := 54, ground := Ground.data }, { on := 39, ground := Ground.guard }], guard := some (39, false) } : Oper)) (v := ?_) rfl (by kernel_rfl) (by kernel_rfl) (by kernel_rfl) (fun _ _ _ h => h) (Or.inl ⟨by rfl, ?_⟩) (by assumption) ?_
                  rotate_left
                  · (intro w hSw; (try dsimp only at hSw); go_simp; try with_reducible rfl)
                  (try simp only [Act.put, List.setIfInBounds_toArray, List.set_cons_zero, List.set_cons_succ])
                  refine wpAnyH_take (i := 56) (oi := ({ dst := some 166, op := Op.pick (Operand.tmp 149) (Operand.const (Value.bool true)) (Operand.tmp 165), type := 4, pos := "more.go:35", after := #[{ on := 39, ground := Ground.data }, { on := 55, ground := Ground.data }], guard := none } : Oper)) (v := ?_) rfl (by kernel_rfl) (by kernel_rfl) (by kernel_rfl) (fun _ _ _ h => h) (Or.inl ⟨by rfl, ?_⟩) (by assumption) ?_
                  rotate_left
                  · (intro w hSw; (try dsimp only at hSw); go_simp; try with_reducible rfl)
                  (try simp only [Act.put, List.setIfInBounds_toArray, List.set_cons_zero, List.set_cons_succ])
                  refine wpAnyH_done (by kernel_rfl) ?_ _
                  refine NoPanic.normal ?_
                  go_wp2
                  go_meet
                  exact ⟨rfl, HKPc.out _ Xc210, HBWc.out.trans (Xc210.mono HBWc.out.size)⟩
            · have hdyz : decide (cC ≤ 0) = false := decide_eq_false hyz
              by_cases hz : 0 < cE
              · have hdz : decide (0 < cE) = true := decide_eq_true hz
                as_aux_lemma =>
                  refine wp_region_noPanic ?_
                  refine wp_region_held_drew (S := fun w' => (w'.cell? ⟨b1, 0, none⟩ = some (.bool sx) ∧ w'.cell? ⟨b1, 1, none⟩ = some (.slice bx m1 k1) ∧ w'.cell? ⟨b2, 0, none⟩ = some (.bool sy) ∧ w'.cell? ⟨b2, 1, none⟩ = some (.slice by' m2 k2) ∧ w'.cell? ⟨b3, 0, none⟩ = some (.bool sz) ∧ w'.cell? ⟨b3, 1, none⟩ = some (.slice bz m3 k3))) (by kernel_rfl) ?_ (fun hHd10 => ?_)
                  · exact HKPc.out _ (Below.refl _ _).drew
                  refine wpAnyH_take (i := 0) (oi := ({ dst := some 110, op := Op.load 28 (Operand.tmp 8), type := 28, pos := "more.go:35", after := #[], guard := none } : Oper)) (v := ?_) rfl (by kernel_rfl) (by kernel_rfl) (by kernel_rfl) (fun _ _ _ h => h) (Or.inl ⟨by rfl, ?_⟩) (by assumption) ?_
                  rotate_left
                  · (intro w hSw; (try dsimp only at hSw); go_simp; try with_reducible rfl)
                  (try simp only [Act.put, List.setIfInBounds_toArray, List.set_cons_zero, List.set_cons_succ])
                  refine wpAnyH_take (i := 1) (oi := ({ dst := some 111, op := Op.load 28 (Operand.tmp 9), type := 28, pos := "more.go:35", after := #[], guard := none } : Oper)) (v := ?_) rfl (by kernel_rfl) (by kernel_rfl) (by kernel_rfl) (fun _ _ _ h => h) (Or.inl ⟨by rfl, ?_⟩) (by assumption) ?_
                  rotate_left
                  · (intro w hSw; (try dsimp only at hSw); go_simp; try with_reducible rfl)
                  (try simp only [Act.put, List.setIfInBounds_toArray, List.set_cons_zero, List.set_cons_succ])
                  refine wpAnyH_take (i := 3) (oi := ({ dst := some 113, op := Op.load 28 (Operand.tmp 9), type := 28, pos := "more.go:35", after := #[], guard := none } : Oper)) (v := ?_) rfl (by kernel_rfl) (by kernel_rfl) (by kernel_rfl) (fun _ _ _ h => h) (Or.inl ⟨by rfl, ?_⟩) (by assumption) ?_
                  rotate_left
                  · (intro w hSw; (try dsimp only at hSw); go_simp; try with_reducible rfl)
                  (try simp only [Act.put, List.setIfInBounds_toArray, List.set_cons_zero, List.set_cons_succ])
                  refine wpAnyH_take (i := 4) (oi := ({ dst := some 114, op := Op.load 28 (Operand.tmp 8), type := 28, pos := "more.go:35", after := #[], guard := none } : Oper)) (v := ?_) rfl (by kernel_rfl) (by kernel_rfl) (by kernel_rfl) (fun _ _ _ h => h) (Or.inl ⟨by rfl, ?_⟩) (by assumption) ?_
                  rotate_left
                  · (intro w hSw; (try dsimp only at hSw); go_simp; try with_reducible rfl)
                  (try simp only [Act.put, List.setIfInBounds_toArray, List.set_cons_zero, List.set_cons_succ])
                  refine wpAnyH_ready (rs := [2]) (by kernel_rfl) (by simp) ?_
                  refine AllReadyH.cons (o := ({ dst := some 112, op := Op.call { callee := Callee.value (Operand.func 32), args := #[Operand.tmp 110, Operand.tmp 111], argTypes := #[28, 28] }, type := 3, pos := "more.go:35", after := #[{ on := 0, ground := Ground.data }, { on := 1, ground := Ground.data }], guard := none } : Oper)) rfl (fun K hK => ?_) AllReadyH.nil
                  go_simp
                  refine (cmp_eq _ sx sy bx by' m1 m2 k1 k2 zr zs (X) (Y) (IXc.out.drew) (IYc.out.drew) HC1.out).mono ?_
                  rintro e vd11 ⟨rfl, ud11⟩
                  have Xd11 : Below wc.heap.size wc vd11 := Below.trans (by go_grown) (ud11.mono (by go_size))
                  have Zd11 : wc.heap.size ≤ vd11.heap.size := Xd11.size
                  refine hK.out _ _ ?_ (fun hHd11 => ?_)
                  · exact HKPc.out _ Xd11
                  clear hK K hHd10
                  (try simp only [Act.put, List.setIfInBounds_toArray, List.set_cons_zero, List.set_cons_succ])
                  refine wpAnyH_ready (rs := [5]) (by kernel_rfl) (by simp) ?_
                  refine AllReadyH.cons (o := ({ dst := some 115, op := Op.call { callee := Callee.value (Operand.func 32), args := #[Operand.tmp 113, Operand.tmp 114], argTypes := #[28, 28] }, type := 3, pos := "more.go:35", after := #[{ on := 3, ground := Ground.data }, { on := 4, ground := Ground.data }, { on := 2, ground := Ground.chain }], guard := none } : Oper)) rfl (fun K hK => ?_) AllReadyH.nil
                  go_simp
                  refine (cmp_eq _ sy sx by' bx m2 m1 k2 k1 zs zr (Y) (X) (IYc.out.below Xd11) (IXc.out.below Xd11) HC2.out).mono ?_
                  rintro e vd12 ⟨rfl, ud12⟩
                  have Xd12 : Below wc.heap.size wc vd12 := Xd11.trans (ud12.mono Xd11.size)
                  have Zd12 := ud12.size
                  refine hK.out _ _ ?_ (fun hHd12 => ?_)
                  · exact HKPc.out _ Xd12
                  clear hK K hHd11
                  (try simp only [Act.put, List.setIfInBounds_toArray, List.set_cons_zero, List.set_cons_succ])
                  refine wpAnyH_take (i := 6) (oi := ({ dst := some 116, op := Op.unOp UnOp.neg 3 (Operand.tmp 115), type := 3, pos := "more.go:35", after := #[{ on := 5, ground := Ground.data }], guard := none } : Oper)) (v := ?_) rfl (by kernel_rfl) (by kernel_rfl) (by kernel_rfl) (fun _ _ _ h => h) (Or.inl ⟨by rfl, ?_⟩) (by assumption) ?_
                  rotate_left
                  · (intro w hSw; (try dsimp only at hSw); go_simp; try with_reducible rfl)
                  (try simp only [Act.put, List.setIfInBounds_toArray, List.set_cons_zero, List.set_cons_succ])
                  refine wpAnyH_take (i := 7) (oi := ({ dst := some 117, op := Op.binOp BinOp.neq 3 (Operand.tmp 112) (Operand.tmp 116) 3, type := 4, pos := "more.go:35", after := #[{ on := 2, ground := Ground.data }, { on := 6, ground := Ground.data }], guard := none } : Oper)) (v := ?_) rfl (by kernel_rfl) (by kernel_rfl) (by kernel_rfl) (fun _ _ _ h => h) (Or.inl ⟨by rfl, ?_⟩) (by assumption) ?_
                  rotate_left
                  · (intro w hSw; (try dsimp only at hSw); go_simp; try with_reducible rfl)
                  (try simp only [Act.put, List.setIfInBounds_toArray, List.set_cons_zero, List.set_cons_succ])
                  refine wpAnyH_take (i := 8) (oi := ({ dst := some 118, op := Op.move (Operand.tmp 117), type := 4, pos := "more.go:35", after := #[{ on := 7, ground := Ground.data }, { on := 5, ground := Ground.chain }], guard := none } : Oper)) (v := ?_) rfl (by kernel_rfl) (by kernel_rfl) (by kernel_rfl) (fun _ _ _ h => h) (Or.inl ⟨by rfl, ?_⟩) (by assumption) ?_
                  rotate_left
                  · (intro w hSw; (try dsimp only at hSw); go_simp; try with_reducible rfl)
                  (try simp only [Act.put, List.setIfInBounds_toArray, List.set_cons_zero, List.set_cons_succ])
                  refine wpAnyH_take (i := 9) (oi := ({ dst := some 119, op := Op.load 28 (Operand.tmp 8), type := 28, pos := "more.go:35", after := #[{ on := 8, ground := Ground.guard }], guard := some (8, false) } : Oper)) (v := ?_) rfl (by kernel_rfl) (by kernel_rfl) (by kernel_rfl) (fun _ _ _ h => h) (Or.inl ⟨by rfl, ?_⟩) (by assumption) ?_
                  rotate_left
                  · (intro w hSw; (try dsimp only at hSw); go_simp; try with_reducible rfl)
                  (try simp only [Act.put, List.setIfInBounds_toArray, List.set_cons_zero, List.set_cons_succ])
                  refine wpAnyH_take (i := 10) (oi := ({ dst := some 120, op := Op.load 28 (Operand.tmp 9), type := 28, pos := "more.go:35", after := #[{ on := 8, ground := Ground.guard }], guard := some (8, false) } : Oper)) (v := ?_) rfl (by kernel_rfl) (by kernel_rfl) (by kernel_rfl) (fun _ _ _ h => h) (Or.inl ⟨by rfl, ?_⟩) (by assumption) ?_
                  rotate_left
                  · (intro w hSw; (try dsimp only at hSw); go_simp; try with_reducible rfl)
                  (try simp only [Act.put, List.setIfInBounds_toArray, List.set_cons_zero, List.set_cons_succ])
                  refine wpAnyH_ready (rs := [11]) (by kernel_rfl) (by simp) ?_
                  refine AllReadyH.cons (o := ({ dst := some 121, op := Op.call { callee := Callee.value (Operand.func 32), args := #[Operand.tmp 119, Operand.tmp 120], argTypes := #[28, 28] }, type := 3, pos := "more.go:35", after := #[{ on := 9, ground := Ground.data }, { on := 10, ground := Ground.data }, { on := 8, ground := Ground.chain }, { on := 8, ground := Ground.guard }], guard := some (8, false) } : Oper)) rfl (fun K hK => ?_) AllReadyH.nil
                  go_simp
                  refine (cmp_eq _ sx sy bx by' m1 m2 k1 k2 zr zs (X) (Y) (IXc.out.below Xd12) (IYc.out.below Xd12) HC1.out).mono ?_
                  rintro e vd13 ⟨rfl, ud13⟩
                  have Xd13 : Below wc.heap.size wc vd13 := Xd12.trans (ud13.mono Xd12.size)
                  have Zd13 := ud13.size
                  refine hK.out _ _ ?_ (fun hHd13 => ?_)
                  · exact HKPc.out _ Xd13
                  clear hK K hHd12
                  (try simp only [Act.put, List.setIfInBounds_toArray, List.set_cons_zero, List.set_cons_succ])
                  refine wpAnyH_take (i := 12) (oi := ({ dst := some 122, op := Op.binOp BinOp.leq 3 (Operand.tmp 121) (Operand.const (Value.int IntKind.i64 0)) 3, type := 4, pos := "more.go:35", after := #[{ on := 11, ground := Ground.data }, { on := 8, ground := Ground.guard }], guard := some (8, false) } : Oper)) (v := ?_) rfl (by kernel_rfl) (by kernel_rfl) (by kernel_rfl) (fun _ _ _ h => h) (Or.inl ⟨by rfl, ?_⟩) (by assumption) ?_
                  rotate_left
                  · (intro w hSw; (try dsimp only at hSw); go_simp; try with_reducible rfl)
                  (try simp only [Act.put, List.setIfInBounds_toArray, List.set_cons_zero, List.set_cons_succ])
                  refine wpAnyH_take (i := 13) (oi := ({ dst := some 123, op := Op.move (Operand.tmp 122), type := 4, pos := "more.go:35", after := #[{ on := 12, ground := Ground.data }, { on := 11, ground := Ground.chain }, { on := 8, ground := Ground.guard }], guard := some (8, false) } : Oper)) (v := ?_) rfl (by kernel_rfl) (by kernel_rfl) (by kernel_rfl) (fun _ _ _ h => h) (Or.inl ⟨by rfl, ?_⟩) (by assumption) ?_
                  rotate_left
                  · (intro w hSw; (try dsimp only at hSw); go_simp; try with_reducible rfl)
                  (try simp only [Act.put, List.setIfInBounds_toArray, List.set_cons_zero, List.set_cons_succ])
                  refine wpAnyH_take (i := 14) (oi := ({ dst := some 124, op := Op.load 28 (Operand.tmp 9), type := 28, pos := "more.go:35", after := #[{ on := 13, ground := Ground.guard }], guard := some (13, true) } : Oper)) (v := ?_) rfl (by kernel_rfl) (by kernel_rfl) (by kernel_rfl) (fun _ _ _ h => h) (Or.inl ⟨by rfl, ?_⟩) (by assumption) ?_
                  rotate_left
                  · (intro w hSw; (try dsimp only at hSw); go_simp; try with_reducible rfl)
                  (try simp only [Act.put, List.setIfInBounds_toArray, List.set_cons_zero, List.set_cons_succ])
                  refine wpAnyH_take (i := 15) (oi := ({ dst := some 125, op := Op.load 28 (Operand.tmp 10), type := 28, pos := "more.go:35", after := #[{ on := 13, ground := Ground.guard }], guard := some (13, true) } : Oper)) (v := ?_) rfl (by kernel_rfl) (by kernel_rfl) (by kernel_rfl) (fun _ _ _ h => h) (Or.inl ⟨by rfl, ?_⟩) (by assumption) ?_
                  rotate_left
                  · (intro w hSw; (try dsimp only at hSw); go_simp; try with_reducible rfl)
                  (try simp only [Act.put, List.setIfInBounds_toArray, List.set_cons_zero, List.set_cons_succ])
                  refine wpAnyH_ready (rs := [16]) (by kernel_rfl) (by simp) ?_
                  refine AllReadyH.cons (o := ({ dst := some 126, op := Op.call { callee := Callee.value (Operand.func 32), args := #[Operand.tmp 124, Operand.tmp 125], argTypes := #[28, 28] }, type := 3, pos := "more.go:35", after := #[{ on := 14, ground := Ground.data }, { on := 15, ground := Ground.data }, { on := 13, ground := Ground.chain }, { on := 13, ground := Ground.guard }], guard := some (13, true) } : Oper)) rfl (fun K hK => ?_) AllReadyH.nil
                  go_simp
                  refine (cmp_eq _ sy sz by' bz m2 m3 k2 k3 zs zt (Y) (Z) (IYc.out.below Xd13) (IZc.out.below Xd13) HC3.out).mono ?_
                  rintro e vd14 ⟨rfl, ud14⟩
                  have Xd14 : Below wc.heap.size wc vd14 := Xd13.trans (ud14.mono Xd13.size)
                  have Zd14 := ud14.size
                  refine hK.out _ _ ?_ (fun hHd14 => ?_)
                  · exact HKPc.out _ Xd14
                  clear hK K hHd13
                  (try simp only [Act.put, List.setIfInBounds_toArray, List.set_cons_zero, List.set_cons_succ])
                  refine wpAnyH_take (i := 17) (oi := ({ dst := some 127, op := Op.binOp BinOp.leq 3 (Operand.tmp 126) (Operand.const (Value.int IntKind.i64 0)) 3, type := 4, pos := "more.go:35", after := #[{ on := 16, ground := Ground.data }, { on := 13, ground := Ground.guard }], guard := some (13, true) } : Oper)) (v := ?_) rfl (by kernel_rfl) (by kernel_rfl) (by kernel_rfl) (fun _ _ _ h => h) (Or.inl ⟨by rfl, ?_⟩) (by assumption) ?_
                  rotate_left
                  · (intro w hSw; (try dsimp only at hSw); go_simp; try with_reducible rfl)
                  (try simp only [Act.put, List.setIfInBounds_toArray, List.set_cons_zero, List.set_cons_succ])
                  refine wpAnyH_take (i := 18) (oi := ({ dst := some 128, op := Op.pick (Operand.tmp 123) (Operand.tmp 127) (Operand.const (Value.bool false)), type := 4, pos := "more.go:35", after := #[{ on := 13, ground := Ground.data }, { on := 17, ground := Ground.data }, { on := 8, ground := Ground.guard }], guard := some (8, false) } : Oper)) (v := ?_) rfl (by kernel_rfl) (by kernel_rfl) (by kernel_rfl) (fun _ _ _ h => h) (Or.inl ⟨by rfl, ?_⟩) (by assumption) ?_
                  rotate_left
                  · (intro w hSw; (try dsimp only at hSw); go_simp; try with_reducible rfl)
                  (try simp only [Act.put, List.setIfInBounds_toArray, List.set_cons_zero, List.set_cons_succ])
                  refine wpAnyH_take (i := 19) (oi := ({ dst := some 129, op := Op.move (Operand.tmp 128), type := 4, pos := "more.go:35", after := #[{ on := 18, ground := Ground.data }, { on := 16, ground := Ground.chain }, { on := 8, ground := Ground.guard }], guard := some (8, false) } : Oper)) (v := ?_) rfl (by kernel_rfl) (by kernel_rfl) (by kernel_rfl) (fun _ _ _ h => h) (Or.inl ⟨by rfl, ?_⟩) (by assumption) ?_
                  rotate_left
                  · (intro w hSw; (try dsimp only at hSw); go_simp; try with_reducible rfl)
                  (try simp only [Act.put, List.setIfInBounds_toArray, List.set_cons_zero, List.set_cons_succ])
                  refine wpAnyH_take (i := 20) (oi := ({ dst := some 130, op := Op.load 28 (Operand.tmp 8), type := 28, pos := "more.go:35", after := #[{ on := 19, ground := Ground.guard }], guard := some (19, true) } : Oper)) (v := undef) rfl (by kernel_rfl) (by kernel_rfl) (by kernel_rfl) (fun _ _ _ h => h) (Or.inr ⟨by rfl, rfl⟩) (by assumption) ?_
                  (try simp only [Act.put, List.setIfInBounds_toArray, List.set_cons_zero, List.set_cons_succ])
                  refine wpAnyH_take (i := 21) (oi := ({ dst := some 131, op := Op.load 28 (Operand.tmp 10), type := 28, pos := "more.go:35", after := #[{ on := 19, ground := Ground.guard }], guard := some (19, true) } : Oper)) (v := undef) rfl (by kernel_rfl) (by kernel_rfl) (by kernel_rfl) (fun _ _ _ h => h) (Or.inr ⟨by rfl, rfl⟩) (by assumption) ?_
                  (try simp only [Act.put, List.setIfInBounds_toArray, List.set_cons_zero, List.set_cons_succ])
                  refine wpAnyH_take (i := 22) (oi := ({ dst := some 132, op := Op.call { callee := Callee.value (Operand.func 32), args := #[Operand.tmp 130, Operand.tmp 131], argTypes := #[28, 28] }, type := 3, pos := "more.go:35", after := #[{ on := 20, ground := Ground.data }, { on := 21, ground := Ground.data }, { on := 19, ground := Ground.chain }, { on := 19, ground := Ground.guard }], guard := some (19, true) } : Oper)) (v := undef) rfl (by kernel_rfl) (by kernel_rfl) (by kernel_rfl) (fun _ _ _ h => h) (Or.inr ⟨by rfl, rfl⟩) (by assumption) ?_
                  (try simp only [Act.put, List.setIfInBounds_toArray, List.set_cons_zero, List.set_cons_succ])
                  refine wpAnyH_take (i := 23) (oi := ({ dst := some 133, op := Op.binOp BinOp.gtr 3 (Operand.tmp 132) (Operand.const (Value.int IntKind.i64 0)) 3, type := 4, pos := "more.go:35", after := #[{ on := 22, ground := Ground.data }, { on := 19, ground := Ground.guard }], guard := some (19, true) } : Oper)) (v := undef) rfl (by kernel_rfl) (by kernel_rfl) (by kernel_rfl) (fun _ _ _ h => h) (Or.inr ⟨by rfl, rfl⟩) (by assumption) ?_
                  (try simp only [Act.put, List.setIfInBounds_toArray, List.set_cons_zero, List.set_cons_succ])
                  refine wpAnyH_take (i := 24) (oi := ({ dst := some 134, op := Op.pick (Operand.tmp 129) (Operand.tmp 133) (Operand.const (Value.bool false)), type := 4, pos := "more.go:35", after := #[{ on := 19, ground := Ground.data }, { on := 23, ground := Ground.data }, { on := 8, ground := Ground.guard }], guard := some (8, false) } : Oper)) (v := ?_) rfl (by kernel_rfl) (by kernel_rfl) (by kernel_rfl) (fun _ _ _ h => h) (Or.inl ⟨by rfl, ?_⟩) (by assumption) ?_
                  rotate_left
                  · (intro w hSw; (try dsimp only at hSw); go_simp; try with_reducible rfl)
                  (try simp only [Act.put, List.setIfInBounds_toArray, List.set_cons_zero, List.set_cons_succ])
                  refine wpAnyH_take (i := 25) (oi := ({ dst := some 135, op := Op.pick (Operand.tmp 118) (Operand.const (Value.bool true)) (Operand.tmp 134), type := 4, pos := "more.go:35", after := #[{ on := 8, ground := Ground.data }, { on := 24, ground := Ground.data }], guard := none } : Oper)) (v := ?_) rfl (by kernel_rfl) (by kernel_rfl) (by kernel_rfl) (fun _ _ _ h => h) (Or.inl ⟨by rfl, ?_⟩) (by assumption) ?_
                  rotate_left
                  · (intro w hSw; (try dsimp only at hSw); go_simp; try with_reducible rfl)
                  (try simp only [Act.put, List.setIfInBounds_toArray, List.set_cons_zero, List.set_cons_succ])
                  refine wpAnyH_take (i := 26) (oi := ({ dst := some 136, op := Op.move (Operand.tmp 135), type := 4, pos := "more.go:35", after := #[{ on := 25, ground := Ground.data }, { on := 22, ground := Ground.chain }], guard := none } : Oper)) (v := ?_) rfl (by kernel_rfl) (by kernel_rfl) (by kernel_rfl) (fun _ _ _ h => h) (Or.inl ⟨by rfl, ?_⟩) (by assumption) ?_
                  rotate_left
                  · (intro w hSw; (try dsimp only at hSw); go_simp; try with_reducible rfl)
                  (try simp only [Act.put, List.setIfInBounds_toArray, List.set_cons_zero, List.set_cons_succ])
                  refine wpAnyH_take (i := 27) (oi := ({ dst := some 137, op := Op.load 28 (Operand.tmp 8), type := 28, pos := "more.go:35", after := #[{ on := 26, ground := Ground.guard }], guard := some (26, false) } : Oper)) (v := ?_) rfl (by kernel_rfl) (by kernel_rfl) (by kernel_rfl) (fun _ _ _ h => h) (Or.inl ⟨by rfl, ?_⟩) (by assumption) ?_
                  rotate_left
                  · (intro w hSw; (try dsimp only at hSw); go_simp; try with_reducible rfl)
                  (try simp only [Act.put, List.setIfInBounds_toArray, List.set_cons_zero, List.set_cons_succ])
                  refine wpAnyH_take (i := 28) (oi := ({ dst := some 138, op := Op.load 28 (Operand.tmp 10), type := 28, pos := "more.go:35", after := #[{ on := 26, ground := Ground.guard }], guard := some (26, false) } : Oper)) (v := ?_) rfl (by kernel_rfl) (by kernel_rfl) (by kernel_rfl) (fun _ _ _ h => h) (Or.inl ⟨by rfl, ?_⟩) (by assumption) ?_
                  rotate_left
                  · (intro w hSw; (try dsimp only at hSw); go_simp; try with_reducible rfl)
                  (try simp only [Act.put, List.setIfInBounds_toArray, List.set_cons_zero, List.set_cons_succ])
                  refine wpAnyH_take (i := 30) (oi := ({ dst := some 140, op := Op.load 28 (Operand.tmp 9), type := 28, pos := "more.go:35", after := #[{ on := 26, ground := Ground.guard }], guard := some (26, false) } : Oper)) (v := ?_) rfl (by kernel_rfl) (by kernel_rfl) (by kernel_rfl) (fun _ _ _ h => h) (Or.inl ⟨by rfl, ?_⟩) (by assumption) ?_
                  rotate_left
                  · (intro w hSw; (try dsimp only at hSw); go_simp; try with_reducible rfl)
                  (try simp only [Act.put, List.setIfInBounds_toArray, List.set_cons_zero, List.set_cons_succ])
                  refine wpAnyH_take (i := 31) (oi := ({ dst := some 141, op := Op.load 28 (Operand.tmp 10), type := 28, pos := "more.go:35", after := #[{ on := 26, ground := Ground.guard }], guard := some (26, false) } : Oper)) (v := ?_) rfl (by kernel_rfl) (by kernel_rfl) (by kernel_rfl) (fun _ _ _ h => h) (Or.inl ⟨by rfl, ?_⟩) (by assumption) ?_
                  rotate_left
                  · (intro w hSw; (try dsimp only at hSw); go_simp; try with_reducible rfl)
                  (try simp only [Act.put, List.setIfInBounds_toArray, List.set_cons_zero, List.set_cons_succ])
                  refine wpAnyH_take (i := 34) (oi := ({ dst := some 144, op := Op.load 28 (Operand.tmp 8), type := 28, pos := "more.go:35", after := #[{ on := 26, ground := Ground.guard }], guard := some (26, false) } : Oper)) (v := ?_) rfl (by kernel_rfl) (by kernel_rfl) (by kernel_rfl) (fun _ _ _ h => h) (Or.inl ⟨by rfl, ?_⟩) (by assumption) ?_
                  rotate_left
                  · (intro w hSw; (try dsimp only at hSw); go_simp; try with_reducible rfl)
                  (try simp only [Act.put, List.setIfInBounds_toArray, List.set_cons_zero, List.set_cons_succ])
                  refine wpAnyH_take (i := 35) (oi := ({ dst := some 145, op := Op.load 28 (Operand.tmp 9), type := 28, pos := "more.go:35", after := #[{ on := 26, ground := Ground.guard }], guard := some (26, false) } : Oper)) (v := ?_) rfl (by kernel_rfl) (by kernel_rfl) (by kernel_rfl) (fun _ _ _ h => h) (Or.inl ⟨by rfl, ?_⟩) (by assumption) ?_
                  rotate_left
                  · (intro w hSw; (try dsimp only at hSw); go_simp; try with_reducible rfl)
                  (try simp only [Act.put, List.setIfInBounds_toArray, List.set_cons_zero, List.set_cons_succ])
                  refine wpAnyH_ready (rs := [29]) (by kernel_rfl) (by simp) ?_
                  refine AllReadyH.cons (o := ({ dst := some 139, op := Op.call { callee := Callee.value (Operand.func 38), args := #[Operand.tmp 137, Operand.tmp 138], argTypes := #[28, 28] }, type := 28, pos := "more.go:35", after := #[{ on := 27, ground := Ground.data }, { on := 28, ground := Ground.data }, { on := 26, ground := Ground.chain }, { on := 26, ground := Ground.guard }], guard := some (26, false) } : Oper)) rfl (fun K hK => ?_) AllReadyH.nil
                  go_simp
                  refine (add_int _ sx sz bx bz m1 m3 k1 k3 zr zt (X) (Z) (IXc.out.below Xd14) (IZc.out.below Xd14) (by omega) (by omega)).mono ?_
                  rintro e vd15 ⟨sd15, ad15, nd15, cd15, zd15, rfl, gd15, pd15, ud15⟩
                  have qd15 : nd15 ≤ 9 := (by omega)
                  clear pd15
                  have Rd1px5 := Lib.hid gd15
                  clear gd15
                  have Xd15 : Below wc.heap.size wc vd15 := Xd14.trans (ud15.mono Xd14.size)
                  have Zd15 := ud15.size
                  refine hK.out _ _ ?_ (fun hHd15 => ?_)
                  · exact HKPc.out _ Xd15
                  clear hK K hHd14
                  (try simp only [Act.put, List.setIfInBounds_toArray, List.set_cons_zero, List.set_cons_succ])
                  refine wpAnyH_ready (rs := [32]) (by kernel_rfl) (by simp) ?_
                  refine AllReadyH.cons (o := ({ dst := some 142, op := Op.call { callee := Callee.value (Operand.func 38), args := #[Operand.tmp 140, Operand.tmp 141], argTypes := #[28, 28] }, type := 28, pos := "more.go:35", after := #[{ on := 30, ground := Ground.data }, { on := 31, ground := Ground.data }, { on := 29, ground := Ground.chain }, { on := 26, ground := Ground.guard }], guard := some (26, false) } : Oper)) rfl (fun K hK => ?_) AllReadyH.nil
                  go_simp
                  refine (add_int _ sy sz by' bz m2 m3 k2 k3 zs zt (Y) (Z) (IYc.out.below Xd15) (IZc.out.below Xd15) (by omega) (by omega)).mono ?_
                  rintro e vd16 ⟨sd16, ad16, nd16, cd16, zd16, rfl, gd16, pd16, ud16⟩
                  have qd16 : nd16 ≤ 9 := (by omega)
                  clear pd16
                  have Rd1qx6 := Lib.hid gd16
                  clear gd16
                  have Xd16 : Below wc.heap.size wc vd16 := Xd15.trans (ud16.mono Xd15.size)
                  have Zd16 := ud16.size
                  have Rd1px6 := Lib.hid (Rd1px5.out.below ud16)
                  clear Rd1px5
                  refine hK.out _ _ ?_ (fun hHd16 => ?_)
                  · exact HKPc.out _ Xd16
                  clear hK K hHd15
                  (try simp only [Act.put, List.setIfInBounds_toArray, List.set_cons_zero, List.set_cons_succ])
                  refine wpAnyH_ready (rs := [33]) (by kernel_rfl) (by simp) ?_
                  refine AllReadyH.cons (o := ({ dst := some 143, op := Op.call { callee := Callee.value (Operand.func 32), args := #[Operand.tmp 139, Operand.tmp 142], argTypes := #[28, 28] }, type := 3, pos := "more.go:35", after := #[{ on := 29, ground := Ground.data }, { on := 32, ground := Ground.data }, { on := 32, ground := Ground.chain }, { on := 26, ground := Ground.guard }], guard := some (26, false) } : Oper)) rfl (fun K hK => ?_) AllReadyH.nil
                  go_simp
                  refine (cmp_eq _ sd15 sd16 ad15 ad16 nd15 nd16 cd15 cd16 zd15 zd16 ((X) + (Z)) ((Y) + (Z)) Rd1px6.out Rd1qx6.out HC6.out).mono ?_
                  rintro e vd17 ⟨rfl, ud17⟩
                  have Xd17 : Below wc.heap.size wc vd17 := Xd16.trans (ud17.mono Xd16.size)
                  have Zd17 := ud17.size
                  refine hK.out _ _ ?_ (fun hHd17 => ?_)
                  · exact HKPc.out _ Xd17
                  clear hK K hHd16
                  (try simp only [Act.put, List.setIfInBounds_toArray, List.set_cons_zero, List.set_cons_succ])
                  refine wpAnyH_ready (rs := [36]) (by kernel_rfl) (by simp) ?_
                  refine AllReadyH.cons (o := ({ dst := some 146, op := Op.call { callee := Callee.value (Operand.func 32), args := #[Operand.tmp 144, Operand.tmp 145], argTypes := #[28, 28] }, type := 3, pos := "more.go:35", after := #[{ on := 34, ground := Ground.data }, { on := 35, ground := Ground.data }, { on := 33, ground := Ground.chain }, { on := 26, ground := Ground.guard }], guard := some (26, false) } : Oper)) rfl (fun K hK => ?_) AllReadyH.nil
                  go_simp
                  refine (cmp_eq _ sx sy bx by' m1 m2 k1 k2 zr zs (X) (Y) (IXc.out.below Xd17) (IYc.out.below Xd17) HC1.out).mono ?_
                  rintro e vd18 ⟨rfl, ud18⟩
                  have Xd18 : Below wc.heap.size wc vd18 := Xd17.trans (ud18.mono Xd17.size)
                  have Zd18 := ud18.size
                  refine hK.out _ _ ?_ (fun hHd18 => ?_)
                  · exact HKPc.out _ Xd18
                  clear hK K hHd17
                  (try simp only [Act.put, List.setIfInBounds_toArray, List.set_cons_zero, List.set_cons_succ])
                  refine wpAnyH_take (i := 37) (oi := ({ dst := some 147, op := Op.binOp BinOp.neq 3 (Operand.tmp 143) (Operand.tmp 146) 3, type := 4, pos := "more.go:35", after := #[{ on := 33, ground := Ground.data }, { on := 36, ground := Ground.data }, { on := 26, ground := Ground.guard }], guard := some (26, false) } : Oper)) (v := ?_) rfl (by kernel_rfl) (by kernel_rfl) (by kernel_rfl) (fun _ _ _ h => h) (Or.inl ⟨by rfl, ?_⟩) (by assumption) ?_
                  rotate_left
                  · (intro w hSw; (try dsimp only at hSw); go_simp; try with_reducible rfl)
                  (try simp only [Act.put, List.setIfInBounds_toArray, List.set_cons_zero, List.set_cons_succ])
                  refine wpAnyH_take (i := 38) (oi := ({ dst := some 148, op := Op.pick (Operand.tmp 136) (Operand.const (Value.bool true)) (Operand.tmp 147), type := 4, pos := "more.go:35", after := #[{ on := 26, ground := Ground.data }, { on := 37, ground := Ground.data }], guard := none } : Oper)) (v := ?_) rfl (by kernel_rfl) (by kernel_rfl) (by kernel_rfl) (fun _ _ _ h => h) (Or.inl ⟨by rfl, ?_⟩) (by assumption) ?_
                  rotate_left
                  · (intro w hSw; (try dsimp only at hSw); go_simp; try with_reducible rfl)
                  (try simp only [Act.put, List.setIfInBounds_toArray, List.set_cons_zero, List.set_cons_succ])
                  refine wpAnyH_take (i := 39) (oi := ({ dst := some 149, op := Op.move (Operand.tmp 148), type := 4, pos := "more.go:35", after := #[{ on := 38, ground := Ground.data }, { on := 36, ground := Ground.chain }], guard := none } : Oper)) (v := ?_) rfl (by kernel_rfl) (by kernel_rfl) (by kernel_rfl) (fun _ _ _ h => h) (Or.inl ⟨by rfl, ?_⟩) (by assumption) ?_
                  rotate_left
                  · (intro w hSw; (try dsimp only at hSw); go_simp; try with_reducible rfl)
                  (try simp only [Act.put, List.setIfInBounds_toArray, List.set_cons_zero, List.set_cons_succ])
                  refine wpAnyH_take (i := 40) (oi := ({ dst := some 150, op := Op.load 28 (Operand.tmp 10), type := 28, pos := "more.go:35", after := #[{ on := 39, ground := Ground.guard }], guard := some (39, false) } : Oper)) (v := ?_) rfl (by kernel_rfl) (by kernel_rfl) (by kernel_rfl) (fun _ _ _ h => h) (Or.inl ⟨by rfl, ?_⟩) (by assumption) ?_
                  rotate_left
                  · (intro w hSw; (try dsimp only at hSw); go_simp; try with_reducible rfl)
                  (try simp only [Act.put, List.setIfInBounds_toArray, List.set_cons_zero, List.set_cons_succ])
                  refine wpAnyH_ready (rs := [41]) (by kernel_rfl) (by simp) ?_
                  refine AllReadyH.cons (o := ({ dst := some 151, op := Op.call { callee := Callee.value (Operand.func 22), args := #[Operand.tmp 150], argTypes := #[28] }, type := 3, pos := "more.go:35", after := #[{ on := 40, ground := Ground.data }, { on := 39, ground := Ground.chain }, { on := 39, ground := Ground.guard }], guard := some (39, false) } : Oper)) rfl (fun K hK => ?_) AllReadyH.nil
                  go_simp
                  refine (sign_eq _ sz bz m3 k3 zt (Z) (IZc.out.below Xd18) HC5.out).mono ?_
                  rintro e vd19 ⟨rfl, ud19⟩
                  have Xd19 : Below wc.heap.size wc vd19 := Xd18.trans (ud19.mono Xd18.size)
                  have Zd19 := ud19.size
                  refine hK.out _ _ ?_ (fun hHd19 => ?_)
                  · exact HKPc.out _ Xd19
                  clear hK K hHd18
                  (try simp only [Act.put, List.setIfInBounds_toArray, List.set_cons_zero, List.set_cons_succ])
                  refine wpAnyH_take (i := 42) (oi := ({ dst := some 152, op := Op.binOp BinOp.gtr 3 (Operand.tmp 151) (Operand.const (Value.int IntKind.i64 0)) 3, type := 4, pos := "more.go:35", after := #[{ on := 41, ground := Ground.data }, { on := 39, ground := Ground.guard }], guard := some (39, false) } : Oper)) (v := ?_) rfl (by kernel_rfl) (by kernel_rfl) (by kernel_rfl) (fun _ _ _ h => h) (Or.inl ⟨by rfl, ?_⟩) (by assumption) ?_
                  rotate_left
                  · (intro w hSw; (try dsimp only at hSw); go_simp; try with_reducible rfl)
                  (try simp only [Act.put, List.setIfInBounds_toArray, List.set_cons_zero, List.set_cons_succ])
                  refine wpAnyH_take (i := 43) (oi := ({ dst := some 153, op := Op.move (Operand.tmp 152), type := 4, pos := "more.go:35", after := #[{ on := 42, ground := Ground.data }, { on := 41, ground := Ground.chain }, { on := 39, ground := Ground.guard }], guard := some (39, false) } : Oper)) (v := ?_) rfl (by kernel_rfl) (by kernel_rfl) (by kernel_rfl) (fun _ _ _ h => h) (Or.inl ⟨by rfl, ?_⟩) (by assumption) ?_
                  rotate_left
                  · (intro w hSw; (try dsimp only at hSw); go_simp; try with_reducible rfl)
                  (try simp only [Act.put, List.setIfInBounds_toArray, List.set_cons_zero, List.set_cons_succ])
                  refine wpAnyH_take (i := 44) (oi := ({ dst := some 154, op := Op.load 28 (Operand.tmp 8), type := 28, pos := "more.go:35", after := #[{ on := 43, ground := Ground.guard }], guard := some (43, true) } : Oper)) (v := ?_) rfl (by kernel_rfl) (by kernel_rfl) (by kernel_rfl) (fun _ _ _ h => h) (Or.inl ⟨by rfl, ?_⟩) (by assumption) ?_
                  rotate_left
                  · (intro w hSw; (try dsimp only at hSw); go_simp; try with_reducible rfl)
                  (try simp only [Act.put, List.setIfInBounds_toArray, List.set_cons_zero, List.set_cons_succ])
                  refine wpAnyH_take (i := 45) (oi := ({ dst := some 155, op := Op.load 28 (Operand.tmp 10), type := 28, pos := "more.go:35", after := #[{ on := 43, ground := Ground.guard }], guard := some (43, true) } : Oper)) (v := ?_) rfl (by kernel_rfl) (by kernel_rfl) (by kernel_rfl) (fun _ _ _ h => h) (Or.inl ⟨by rfl, ?_⟩) (by assumption) ?_
                  rotate_left
                  · (intro w hSw; (try dsimp only at hSw); go_simp; try with_reducible rfl)
                  (try simp only [Act.put, List.setIfInBounds_toArray, List.set_cons_zero, List.set_cons_succ])
                  refine wpAnyH_take (i := 47) (oi := ({ dst := some 157, op := Op.load 28 (Operand.tmp 9), type := 28, pos := "more.go:35", after := #[{ on := 43, ground := Ground.guard }], guard := some (43, true) } : Oper)) (v := ?_) rfl (by kernel_rfl) (by kernel_rfl) (by kernel_rfl) (fun _ _ _ h => h) (Or.inl ⟨by rfl, ?_⟩) (by assumption) ?_
                  rotate_left
                  · (intro w hSw; (try dsimp only at hSw); go_simp; try with_reducible rfl)
                  (try simp only [Act.put, List.setIfInBounds_toArray, List.set_cons_zero, List.set_cons_succ])
                  refine wpAnyH_take (i := 48) (oi := ({ dst := some 158, op := Op.load 28 (Operand.tmp 10), type := 28, pos := "more.go:35", after := #[{ on := 43, ground := Ground.guard }], guard := some (43, true) } : Oper)) (v := ?_) rfl (by kernel_rfl) (by kernel_rfl) (by kernel_rfl) (fun _ _ _ h => h) (Or.inl ⟨by rfl, ?_⟩) (by assumption) ?_
                  rotate_left
                  · (intro w hSw; (try dsimp only at hSw); go_simp; try with_reducible rfl)
                  (try simp only [Act.put, List.setIfInBounds_toArray, List.set_cons_zero, List.set_cons_succ])
                  refine wpAnyH_take (i := 51) (oi := ({ dst := some 161, op := Op.load 28 (Operand.tmp 8), type := 28, pos := "more.go:35", after := #[{ on := 43, ground := Ground.guard }], guard := some (43, true) } : Oper)) (v := ?_) rfl (by kernel_rfl) (by kernel_rfl) (by kernel_rfl) (fun _ _ _ h => h) (Or.inl ⟨by rfl, ?_⟩) (by assumption) ?_
                  rotate_left
                  · (intro w hSw; (try dsimp only at hSw); go_simp; try with_reducible rfl)
                  (try simp only [Act.put, List.setIfInBounds_toArray, List.set_cons_zero, List.set_cons_succ])
                  refine wpAnyH_take (i := 52) (oi := ({ dst := some 162, op := Op.load 28 (Operand.tmp 9), type := 28, pos := "more.go:35", after := #[{ on := 43, ground := Ground.guard }], guard := some (43, true) } : Oper)) (v := ?_) rfl (by kernel_rfl) (by kernel_rfl) (by kernel_rfl) (fun _ _ _ h => h) (Or.inl ⟨by rfl, ?_⟩) (by assumption) ?_
                  rotate_left
                  · (intro w hSw; (try dsimp only at hSw); go_simp; try with_reducible rfl)
                  (try simp only [Act.put, List.setIfInBounds_toArray, List.set_cons_zero, List.set_cons_succ])
                  refine wpAnyH_ready (rs := [46]) (by kernel_rfl) (by simp) ?_
                  refine AllReadyH.cons (o := ({ dst := some 156, op := Op.call { callee := Callee.value (Operand.func 42), args := #[Operand.tmp 154, Operand.tmp 155], argTypes := #[28, 28] }, type := 28, pos := "more.go:35", after := #[{ on := 44, ground := Ground.data }, { on := 45, ground := Ground.data }, { on := 43, ground := Ground.chain }, { on := 43, ground := Ground.guard }], guard := some (43, true) } : Oper)) rfl (fun K hK => ?_) AllReadyH.nil
                  go_simp
                  refine (mul_int _ sx sz bx bz m1 m3 k1 k3 zr zt (X) (Z) (IXc.out.below Xd19) (IZc.out.below Xd19) (by omega) (by omega)).mono ?_
                  rintro e vd110 ⟨sd110, ad110, nd110, cd110, zd110, rfl, gd110, pd110, ud110⟩
                  have qd110 : nd110 ≤ 16 := (by omega)
                  clear pd110
                  have Rd1rx10 := Lib.hid gd110
                  clear gd110
                  have Xd110 : Below wc.heap.size wc vd110 := Xd19.trans (ud110.mono Xd19.size)
                  have Zd110 := ud110.size
                  refine hK.out _ _ ?_ (fun hHd110 => ?_)
                  · exact HKPc.out _ Xd110
                  clear hK K hHd19
                  (try simp only [Act.put, List.setIfInBounds_toArray, List.set_cons_zero, List.set_cons_succ])
                  refine wpAnyH_ready (rs := [49]) (by kernel_rfl) (by simp) ?_
                  refine AllReadyH.cons (o := ({ dst := some 159, op := Op.call { callee := Callee.value (Operand.func 42), args := #[Operand.tmp 157, Operand.tmp 158], argTypes := #[28, 28] }, type := 28, pos := "more.go:35", after := #[{ on := 47, ground := Ground.data }, { on := 48, ground := Ground.data }, { on := 46, ground := Ground.chain }, { on := 43, ground := Ground.guard }], guard := some (43, true) } : Oper)) rfl (fun K hK => ?_) AllReadyH.nil
                  go_simp
                  refine (mul_int _ sy sz by' bz m2 m3 k2 k3 zs zt (Y) (Z) (IYc.out.below Xd110) (IZc.out.below Xd110) (by omega) (by omega)).mono ?_
                  rintro e vd111 ⟨sd111, ad111, nd111, cd111, zd111, rfl, gd111, pd111, ud111⟩
                  have qd111 : nd111 ≤ 16 := (by omega)
                  clear pd111
                  have Rd1sx11 := Lib.hid gd111
                  clear gd111
                  have Xd111 : Below wc.heap.size wc vd111 := Xd110.trans (ud111.mono Xd110.size)
                  have Zd111 := ud111.size
                  have Rd1rx11 := Lib.hid (Rd1rx10.out.below ud111)
                  clear Rd1rx10
                  refine hK.out _ _ ?_ (fun hHd111 => ?_)
                  · exact HKPc.out _ Xd111
                  clear hK K hHd110
                  (try simp only [Act.put, List.setIfInBounds_toArray, List.set_cons_zero, List.set_cons_succ])
                  refine wpAnyH_ready (rs := [50]) (by kernel_rfl) (by simp) ?_
                  refine AllReadyH.cons (o := ({ dst := some 160, op := Op.call { callee := Callee.value (Operand.func 32), args := #[Operand.tmp 156, Operand.tmp 159], argTypes := #[28, 28] }, type := 3, pos := "more.go:35", after := #[{ on := 46, ground := Ground.data }, { on := 49, ground := Ground.data }, { on := 49, ground := Ground.chain }, { on := 43, ground := Ground.guard }], guard := some (43, true) } : Oper)) rfl (fun K hK => ?_) AllReadyH.nil
                  go_simp
                  refine (cmp_eq _ sd110 sd111 ad110 ad111 nd110 nd111 cd110 cd111 zd110 zd111 ((X) * (Z)) ((Y) * (Z)) Rd1rx11.out Rd1sx11.out (HC7.out hz)).mono ?_
                  rintro e vd112 ⟨rfl, ud112⟩
                  have Xd112 : Below wc.heap.size wc vd112 := Xd111.trans (ud112.mono Xd111.size)
                  have Zd112 := ud112.size
                  refine hK.out _ _ ?_ (fun hHd112 => ?_)
                  · exact HKPc.out _ Xd112
                  clear hK K hHd111
                  (try simp only [Act.put, List.setIfInBounds_toArray, List.set_cons_zero, List.set_cons_succ])
                  refine wpAnyH_ready (rs := [53]) (by kernel_rfl) (by simp) ?_
                  refine AllReadyH.cons (o := ({ dst := some 163, op := Op.call { callee := Callee.value (Operand.func 32), args := #[Operand.tmp 161, Operand.tmp 162], argTypes := #[28, 28] }, type := 3, pos := "more.go:35", after := #[{ on := 51, ground := Ground.data }, { on := 52, ground := Ground.data }, { on := 50, ground := Ground.chain }, { on := 43, ground := Ground.guard }], guard := some (43, true) } : Oper)) rfl (fun K hK => ?_) AllReadyH.nil
                  go_simp
                  refine (cmp_eq _ sx sy bx by' m1 m2 k1 k2 zr zs (X) (Y) (IXc.out.below Xd112) (IYc.out.below Xd112) HC1.out).mono ?_
                  rintro e vd113 ⟨rfl, ud113⟩
                  have Xd113 : Below wc.heap.size wc vd113 := Xd112.trans (ud113.mono Xd112.size)
                  have Zd113 := ud113.size
                  refine hK.out _ _ ?_ (fun hHd113 => ?_)
                  · exact HKPc.out _ Xd113
                  clear hK K hHd112
                  (try simp only [Act.put, List.setIfInBounds_toArray, List.set_cons_zero, List.set_cons_succ])
                  refine wpAnyH_take (i := 54) (oi := ({ dst := some 164, op := Op.binOp BinOp.neq 3 (Operand.tmp 160) (Operand.tmp 163) 3, type := 4, pos := "more.go:35", after := #[{ on := 50, ground := Ground.data }, { on := 53, ground := Ground.data }, { on := 43, ground := Ground.guard }], guard := some (43, true) } : Oper)) (v := ?_) rfl (by kernel_rfl) (by kernel_rfl) (by kernel_rfl) (fun _ _ _ h => h) (Or.inl ⟨by rfl, ?_⟩) (by assumption) ?_
                  rotate_left
                  · (intro w hSw; (try dsimp only at hSw); go_simp; try with_reducible rfl)
                  (try simp only [Act.put, List.setIfInBounds_toArray, List.set_cons_zero, List.set_cons_succ])
                  refine wpAnyH_take (i := 55) (oi := ({ dst := some 165, op := Op.pick (Operand.tmp 153) (Operand.tmp 164) (Operand.const (Value.bool false)), type := 4, pos := "more.go:35", after := #[{ on := 43, ground := Ground.data }, { on := 54, ground := Ground.data }, { on := 39, ground := Ground.guard }], guard := some (39, false) } : Oper)) (v := ?_) rfl (by kernel_rfl) (by kernel_rfl) (by kernel_rfl) (fun _ _ _ h => h) (Or.inl ⟨by rfl, ?_⟩) (by assumption) ?_
                  rotate_left
                  · (intro w hSw; (try dsimp only at hSw); go_simp; try with_reducible rfl)
                  (try simp only [Act.put, List.setIfInBounds_toArray, List.set_cons_zero, List.set_cons_succ])
                  refine wpAnyH_take (i := 56) (oi := ({ dst := some 166, op := Op.pick (Operand.tmp 149) (Operand.const (Value.bool true)) (Operand.tmp 165), type := 4, pos := "more.go:35", after := #[{ on := 39, ground := Ground.data }, { on := 55, ground := Ground.data }], guard := none } : Oper)) (v := ?_) rfl (by kernel_rfl) (by kernel_rfl) (by kernel_rfl) (fun _ _ _ h => h) (Or.inl ⟨by rfl, ?_⟩) (by assumption) ?_
                  rotate_left
                  · (intro w hSw; (try dsimp only at hSw); go_simp; try with_reducible rfl)
                  (try simp only [Act.put, List.setIfInBounds_toArray, List.set_cons_zero, List.set_cons_succ])
                  refine wpAnyH_done (by kernel_rfl) ?_ _
                  refine NoPanic.normal ?_
                  go_wp2
                  go_meet
                  exact ⟨rfl, HKPc.out _ Xd113, HBWc.out.trans (Xd113.mono HBWc.out.size)⟩
              · have hdz : decide (0 < cE) = false := decide_eq_false hz
                as_aux_lemma =>
                  refine wp_region_noPanic ?_
                  refine wp_region_held_drew (S := fun w' => (w'.cell? ⟨b1, 0, none⟩ = some (.bool sx) ∧ w'.cell? ⟨b1, 1, none⟩ = some (.slice bx m1 k1) ∧ w'.cell? ⟨b2, 0, none⟩ = some (.bool sy) ∧ w'.cell? ⟨b2, 1, none⟩ = some (.slice by' m2 k2) ∧ w'.cell? ⟨b3, 0, none⟩ = some (.bool sz) ∧ w'.cell? ⟨b3, 1, none⟩ = some (.slice bz m3 k3))) (by kernel_rfl) ?_ (fun hHd20 => ?_)
                  · exact HKPc.out _ (Below.refl _ _).drew
                  refine wpAnyH_take (i := 0) (oi := ({ dst := some 110, op := Op.load 28 (Operand.tmp 8), type := 28, pos := "more.go:35", after := #[], guard := none } : Oper)) (v := ?_) rfl (by kernel_rfl) (by kernel_rfl) (by kernel_rfl) (fun _ _ _ h => h) (Or.inl ⟨by rfl, ?_⟩) (by assumption) ?_
                  rotate_left
                  · (intro w hSw; (try dsimp only at hSw); go_simp; try with_reducible rfl)
                  (try simp only [Act.put, List.setIfInBounds_toArray, List.set_cons_zero, List.set_cons_succ])
                  refine wpAnyH_take (i := 1) (oi := ({ dst := some 111, op := Op.load 28 (Operand.tmp 9), type := 28, pos := "more.go:35", after := #[], guard := none } : Oper)) (v := ?_) rfl (by kernel_rfl) (by kernel_rfl) (by kernel_rfl) (fun _ _ _ h => h) (Or.inl ⟨by rfl, ?_⟩) (by assumption) ?_
                  rotate_left
                  · (intro w hSw; (try dsimp only at hSw); go_simp; try with_reducible rfl)
                  (try simp only [Act.put, List.setIfInBounds_toArray, List.set_cons_zero, List.set_cons_succ])
                  refine wpAnyH_take (i := 3) (oi := ({ dst := some 113, op := Op.load 28 (Operand.tmp 9), type := 28, pos := "more.go:35", after := #[], guard := none } : Oper)) (v := ?_) rfl (by kernel_rfl) (by kernel_rfl) (by kernel_rfl) (fun _ _ _ h => h) (Or.inl ⟨by rfl, ?_⟩) (by assumption) ?_
                  rotate_left
                  · (intro w hSw; (try dsimp only at hSw); go_simp; try with_reducible rfl)
                  (try simp only [Act.put, List.setIfInBounds_toArray, List.set_cons_zero, List.set_cons_succ])
                  refine wpAnyH_take (i := 4) (oi := ({ dst := some 114, op := Op.load 28 (Operand.tmp 8), type := 28, pos := "more.go:35", after := #[], guard := none } : Oper)) (v := ?_) rfl (by kernel_rfl) (by kernel_rfl) (by kernel_rfl) (fun _ _ _ h => h) (Or.inl ⟨by rfl, ?_⟩) (by assumption) ?_
                  rotate_left
                  · (intro w hSw; (try dsimp only at hSw); go_simp; try with_reducible rfl)
                  (try simp only [Act.put, List.setIfInBounds_toArray, List.set_cons_zero, List.set_cons_succ])
                  refine wpAnyH_ready (rs := [2]) (by kernel_rfl) (by simp) ?_
                  refine AllReadyH.cons (o := ({ dst := some 112, op := Op.call { callee := Callee.value (Operand.func 32), args := #[Operand.tmp 110, Operand.tmp 111], argTypes := #[28, 28] }, type := 3, pos := "more.go:35", after := #[{ on := 0, ground := Ground.data }, { on := 1, ground := Ground.data }], guard := none } : Oper)) rfl (fun K hK => ?_) AllReadyH.nil
                  go_simp
                  refine (cmp_eq _ sx sy bx by' m1 m2 k1 k2 zr zs (X) (Y) (IXc.out.drew) (IYc.out.drew) HC1.out).mono ?_
                  rintro e vd21 ⟨rfl, ud21⟩
                  have Xd21 : Below wc.heap.size wc vd21 := Below.trans (by go_grown) (ud21.mono (by go_size))
                  have Zd21 : wc.heap.size ≤ vd21.heap.size := Xd21.size
                  refine hK.out _ _ ?_ (fun hHd21 => ?_)
                  · exact HKPc.out _ Xd21
                  clear hK K hHd20
                  (try simp only [Act.put, List.setIfInBounds_toArray, List.set_cons_zero, List.set_cons_succ])
                  refine wpAnyH_ready (rs := [5]) (by kernel_rfl) (by simp) ?_
                  refine AllReadyH.cons (o := ({ dst := some 115, op := Op.call { callee := Callee.value (Operand.func 32), args := #[Operand.tmp 113, Operand.tmp 114], argTypes := #[28, 28] }, type := 3, pos := "more.go:35", after := #[{ on := 3, ground := Ground.data }, { on := 4, ground := Ground.data }, { on := 2, ground := Ground.chain }], guard := none } : Oper)) rfl (fun K hK => ?_) AllReadyH.nil
                  go_simp
                  refine (cmp_eq _ sy sx by' bx m2 m1 k2 k1 zs zr (Y) (X) (IYc.out.below Xd21) (IXc.out.below Xd21) HC2.out).mono ?_
                  rintro e vd22 ⟨rfl, ud22⟩
                  have Xd22 : Below wc.heap.size wc vd22 := Xd21.trans (ud22.mono Xd21.size)
                  have Zd22 := ud22.size
                  refine hK.out _ _ ?_ (fun hHd22 => ?_)
                  · exact HKPc.out _ Xd22
                  clear hK K hHd21
                  (try simp only [Act.put, List.setIfInBounds_toArray, List.set_cons_zero, List.set_cons_succ])
                  refine wpAnyH_take (i := 6) (oi := ({ dst := some 116, op := Op.unOp UnOp.neg 3 (Operand.tmp 115), type := 3, pos := "more.go:35", after := #[{ on := 5, ground := Ground.data }], guard := none } : Oper)) (v := ?_) rfl (by kernel_rfl) (by kernel_rfl) (by kernel_rfl) (fun _ _ _ h => h) (Or.inl ⟨by rfl, ?_⟩) (by assumption) ?_
                  rotate_left
                  · (intro w hSw; (try dsimp only at hSw); go_simp; try with_reducible rfl)
                  (try simp only [Act.put, List.setIfInBounds_toArray, List.set_cons_zero, List.set_cons_succ])
                  refine wpAnyH_take (i := 7) (oi := ({ dst := some 117, op := Op.binOp BinOp.neq 3 (Operand.tmp 112) (Operand.tmp 116) 3, type := 4, pos := "more.go:35", after := #[{ on := 2, ground := Ground.data }, { on := 6, ground := Ground.data }], guard := none } : Oper)) (v := ?_) rfl (by kernel_rfl) (by kernel_rfl) (by kernel_rfl) (fun _ _ _ h => h) (Or.inl ⟨by rfl, ?_⟩) (by assumption) ?_
                  rotate_left
                  · (intro w hSw; (try dsimp only at hSw); go_simp; try with_reducible rfl)
                  (try simp only [Act.put, List.setIfInBounds_toArray, List.set_cons_zero, List.set_cons_succ])
                  refine wpAnyH_take (i := 8) (oi := ({ dst := some 118, op := Op.move (Operand.tmp 117), type := 4, pos := "more.go:35", after := #[{ on := 7, ground := Ground.data }, { on := 5, ground := Ground.chain }], guard := none } : Oper)) (v := ?_) rfl (by kernel_rfl) (by kernel_rfl) (by kernel_rfl) (fun _ _ _ h => h) (Or.inl ⟨by rfl, ?_⟩) (by assumption) ?_
                  rotate_left
                  · (intro w hSw; (try dsimp only at hSw); go_simp; try with_reducible rfl)
                  (try simp only [Act.put, List.setIfInBounds_toArray, List.set_cons_zero, List.set_cons_succ])
                  refine wpAnyH_take (i := 9) (oi := ({ dst := some 119, op := Op.load 28 (Operand.tmp 8), type := 28, pos := "more.go:35", after := #[{ on := 8, ground := Ground.guard }], guard := some (8, false) } : Oper)) (v := ?_) rfl (by kernel_rfl) (by kernel_rfl) (by kernel_rfl) (fun _ _ _ h => h) (Or.inl ⟨by rfl, ?_⟩) (by assumption) ?_
                  rotate_left
                  · (intro w hSw; (try dsimp only at hSw); go_simp; try with_reducible rfl)
                  (try simp only [Act.put, List.setIfInBounds_toArray, List.set_cons_zero, List.set_cons_succ])
                  refine wpAnyH_take (i := 10) (oi := ({ dst := some 120, op := Op.load 28 (Operand.tmp 9), type := 28, pos := "more.go:35", after := #[{ on := 8, ground := Ground.guard }], guard := some (8, false) } : Oper)) (v := ?_) rfl (by kernel_rfl) (by kernel_rfl) (by kernel_rfl) (fun _ _ _ h => h) (Or.inl ⟨by rfl, ?_⟩) (by assumption) ?_
                  rotate_left
                  · (intro w hSw; (try dsimp only at hSw); go_simp; try with_reducible rfl)
                  (try simp only [Act.put, List.setIfInBounds_toArray, List.set_cons_zero, List.set_cons_succ])
                  refine wpAnyH_ready (rs := [11]) (by kernel_rfl) (by simp) ?_
                  refine AllReadyH.cons (o := ({ dst := some 121, op := Op.call { callee := Callee.value (Operand.func 32), args := #[Operand.tmp 119, Operand.tmp 120], argTypes := #[28, 28] }, type := 3, pos := "more.go:35", after := #[{ on := 9, ground := Ground.data }, { on := 10, ground := Ground.data }, { on := 8, ground := Ground.chain }, { on := 8, ground := Ground.guard }], guard := some (8, false) } : Oper)) rfl (fun K hK => ?_) AllReadyH.nil
                  go_simp
                  refine (cmp_eq _ sx sy bx by' m1 m2 k1 k2 zr zs (X) (Y) (IXc.out.below Xd22) (IYc.out.below Xd22) HC1.out).mono ?_
                  rintro e vd23 ⟨rfl, ud23⟩
                  have Xd23 : Below wc.heap.size wc vd23 := Xd22.trans (ud23.mono Xd22.size)
                  have Zd23 := ud23.size
                  refine hK.out _ _ ?_ (fun hHd23 => ?_)
                  · exact HKPc.out _ Xd23
                  clear hK K hHd22
                  (try simp only [Act.put, List.setIfInBounds_toArray, List.set_cons_zero, List.set_cons_succ])
                  refine wpAnyH_take (i := 12) (oi := ({ dst := some 122, op := Op.binOp BinOp.leq 3 (Operand.tmp 121) (Operand.const (Value.int IntKind.i64 0)) 3, type := 4, pos := "more.go:35", after := #[{ on := 11, ground := Ground.data }, { on := 8, ground := Ground.guard }], guard := some (8, false) } : Oper)) (v := ?_) rfl (by kernel_rfl) (by kernel_rfl) (by kernel_rfl) (fun _ _ _ h => h) (Or.inl ⟨by rfl, ?_⟩) (by assumption) ?_
                  rotate_left
                  · (intro w hSw; (try dsimp only at hSw); go_simp; try with_reducible rfl)
                  (try simp only [Act.put, List.setIfInBounds_toArray, List.set_cons_zero, List.set_cons_succ])
                  refine wpAnyH_take (i := 13) (oi := ({ dst := some 123, op := Op.move (Operand.tmp 122), type := 4, pos := "more.go:35", after := #[{ on := 12, ground := Ground.data }, { on := 11, ground := Ground.chain }, { on := 8, ground := Ground.guard }], guard := some (8, false) } : Oper)) (v := ?_) rfl (by kernel_rfl) (by kernel_rfl) (by kernel_rfl) (fun _ _ _ h => h) (Or.inl ⟨by rfl, ?_⟩) (by assumption) ?_
                  rotate_left
                  · (intro w hSw; (try dsimp only at hSw); go_simp; try with_reducible rfl)
                  (try simp only [Act.put, List.setIfInBounds_toArray, List.set_cons_zero, List.set_cons_succ])
                  refine wpAnyH_take (i := 14) (oi := ({ dst := some 124, op := Op.load 28 (Operand.tmp 9), type := 28, pos := "more.go:35", after := #[{ on := 13, ground := Ground.guard }], guard := some (13, true) } : Oper)) (v := ?_) rfl (by kernel_rfl) (by kernel_rfl) (by kernel_rfl) (fun _ _ _ h => h) (Or.inl ⟨by rfl, ?_⟩) (by assumption) ?_
                  rotate_left
                  · (intro w hSw; (try dsimp only at hSw); go_simp; try with_reducible rfl)
                  (try simp only [Act.put, List.setIfInBounds_toArray, List.set_cons_zero, List.set_cons_succ])
                  refine wpAnyH_take (i := 15) (oi := ({ dst := some 125, op := Op.load 28 (Operand.tmp 10), type := 28, pos := "more.go:35", after := #[{ on := 13, ground := Ground.guard }], guard := some (13, true) } : Oper)) (v := ?_) rfl (by kernel_rfl) (by kernel_rfl) (by kernel_rfl) (fun _ _ _ h => h) (Or.inl ⟨by rfl, ?_⟩) (by assumption) ?_
                  rotate_left
                  · (intro w hSw; (try dsimp only at hSw); go_simp; try with_reducible rfl)
                  (try simp only [Act.put, List.setIfInBounds_toArray, List.set_cons_zero, List.set_cons_succ])
                  refine wpAnyH_ready (rs := [16]) (by kernel_rfl) (by simp) ?_
                  refine AllReadyH.cons (o := ({ dst := some 126, op := Op.call { callee := Callee.value (Operand.func 32), args := #[Operand.tmp 124, Operand.tmp 125], argTypes := #[28, 28] }, type := 3, pos := "more.go:35", after := #[{ on := 14, ground := Ground.data }, { on := 15, ground := Ground.data }, { on := 13, ground := Ground.chain }, { on := 13, ground := Ground.guard }], guard := some (13, true) } : Oper)) rfl (fun K hK => ?_) AllReadyH.nil
                  go_simp
                  refine (cmp_eq _ sy sz by' bz m2 m3 k2 k3 zs zt (Y) (Z) (IYc.out.below Xd23) (IZc.out.below Xd23) HC3.out).mono ?_
                  rintro e vd24 ⟨rfl, ud24⟩
                  have Xd24 : Below wc.heap.size wc vd24 := Xd23.trans (ud24.mono Xd23.size)
                  have Zd24 := ud24.size
                  refine hK.out _ _ ?_ (fun hHd24 => ?_)
                  · exact HKPc.out _ Xd24
                  clear hK K hHd23
                  (try simp only [Act.put, List.setIfInBounds_toArray, List.set_cons_zero, List.set_cons_succ])
                  refine wpAnyH_take (i := 17) (oi := ({ dst := some 127, op := Op.binOp BinOp.leq 3 (Operand.tmp 126) (Operand.const (Value.int IntKind.i64 0)) 3, type := 4, pos := "more.go:35", after := #[{ on := 16, ground := Ground.data }, { on := 13, ground := Ground.guard }], guard := some (13, true) } : Oper)) (v := ?_) rfl (by kernel_rfl) (by kernel_rfl) (by kernel_rfl) (fun _ _ _ h => h) (Or.inl ⟨by rfl, ?_⟩) (by assumption) ?_
                  rotate_left
                  · (intro w hSw; (try dsimp only at hSw); go_simp; try with_reducible rfl)
                  (try simp only [Act.put, List.setIfInBounds_toArray, List.set_cons_zero, List.set_cons_succ])
                  refine wpAnyH_take (i := 18) (oi := ({ dst := some 128, op := Op.pick (Operand.tmp 123) (Operand.tmp 127) (Operand.const (Value.bool false)), type := 4, pos := "more.go:35", after := #[{ on := 13, ground := Ground.data }, { on := 17, ground := Ground.data }, { on := 8, ground := Ground.guard }], guard := some (8, false) } : Oper)) (v := ?_) rfl (by kernel_rfl) (by kernel_rfl) (by kernel_rfl) (fun _ _ _ h => h) (Or.inl ⟨by rfl, ?_⟩) (by assumption) ?_
                  rotate_left
                  · (intro w hSw; (try dsimp only at hSw); go_simp; try with_reducible rfl)
                  (try simp only [Act.put, List.setIfInBounds_toArray, List.set_cons_zero, List.set_cons_succ])
                  refine wpAnyH_take (i := 19) (oi := ({ dst := some 129, op := Op.move (Operand.tmp 128), type := 4, pos := "more.go:35", after := #[{ on := 18, ground := Ground.data }, { on := 16, ground := Ground.chain }, { on := 8, ground := Ground.guard }], guard := some (8, false) } : Oper)) (v := ?_) rfl (by kernel_rfl) (by kernel_rfl) (by kernel_rfl) (fun _ _ _ h => h) (Or.inl ⟨by rfl, ?_⟩) (by assumption) ?_
                  rotate_left
                  · (intro w hSw; (try dsimp only at hSw); go_simp; try with_reducible rfl)
                  (try simp only [Act.put, List.setIfInBounds_toArray, List.set_cons_zero, List.set_cons_succ])
                  refine wpAnyH_take (i := 20) (oi := ({ dst := some 130, op := Op.load 28 (Operand.tmp 8), type := 28, pos := "more.go:35", after := #[{ on := 19, ground := Ground.guard }], guard := some (19, true) } : Oper)) (v := undef) rfl (by kernel_rfl) (by kernel_rfl) (by kernel_rfl) (fun _ _ _ h => h) (Or.inr ⟨by rfl, rfl⟩) (by assumption) ?_
                  (try simp only [Act.put, List.setIfInBounds_toArray, List.set_cons_zero, List.set_cons_succ])
                  refine wpAnyH_take (i := 21) (oi := ({ dst := some 131, op := Op.load 28 (Operand.tmp 10), type := 28, pos := "more.go:35", after := #[{ on := 19, ground := Ground.guard }], guard := some (19, true) } : Oper)) (v := undef) rfl (by kernel_rfl) (by kernel_rfl) (by kernel_rfl) (fun _ _ _ h => h) (Or.inr ⟨by rfl, rfl⟩) (by assumption) ?_
                  (try simp only [Act.put, List.setIfInBounds_toArray, List.set_cons_zero, List.set_cons_succ])
                  refine wpAnyH_take (i := 22) (oi := ({ dst := some 132, op := Op.call { callee := Callee.value (Operand.func 32), args := #[Operand.tmp 130, Operand.tmp 131], argTypes := #[28, 28] }, type := 3, pos := "more.go:35", after := #[{ on := 20, ground := Ground.data }, { on := 21, ground := Ground.data }, { on := 19, ground := Ground.chain }, { on := 19, ground := Ground.guard }], guard := some (19, true) } : Oper)) (v := undef) rfl (by kernel_rfl) (by kernel_rfl) (by kernel_rfl) (fun _ _ _ h => h) (Or.inr ⟨by rfl, rfl⟩) (by assumption) ?_
                  (try simp only [Act.put, List.setIfInBounds_toArray, List.set_cons_zero, List.set_cons_succ])
                  refine wpAnyH_take (i := 23) (oi := ({ dst := some 133, op := Op.binOp BinOp.gtr 3 (Operand.tmp 132) (Operand.const (Value.int IntKind.i64 0)) 3, type := 4, pos := "more.go:35", after := #[{ on := 22, ground := Ground.data }, { on := 19, ground := Ground.guard }], guard := some (19, true) } : Oper)) (v := undef) rfl (by kernel_rfl) (by kernel_rfl) (by kernel_rfl) (fun _ _ _ h => h) (Or.inr ⟨by rfl, rfl⟩) (by assumption) ?_
                  (try simp only [Act.put, List.setIfInBounds_toArray, List.set_cons_zero, List.set_cons_succ])
                  refine wpAnyH_take (i := 24) (oi := ({ dst := some 134, op := Op.pick (Operand.tmp 129) (Operand.tmp 133) (Operand.const (Value.bool false)), type := 4, pos := "more.go:35", after := #[{ on := 19, ground := Ground.data }, { on := 23, ground := Ground.data }, { on := 8, ground := Ground.guard }], guard := some (8, false) } : Oper)) (v := ?_) rfl (by kernel_rfl) (by kernel_rfl) (by kernel_rfl) (fun _ _ _ h => h) (Or.inl ⟨by rfl, ?_⟩) (by assumption) ?_
                  rotate_left
                  · (intro w hSw; (try dsimp only at hSw); go_simp; try with_reducible rfl)
                  (try simp only [Act.put, List.setIfInBounds_toArray, List.set_cons_zero, List.set_cons_succ])
                  refine wpAnyH_take (i := 25) (oi := ({ dst := some 135, op := Op.pick (Operand.tmp 118) (Operand.const (Value.bool true)) (Operand.tmp 134), type := 4, pos := "more.go:35", after := #[{ on := 8, ground := Ground.data }, { on := 24, ground := Ground.data }], guard := none } : Oper)) (v := ?_) rfl (by kernel_rfl) (by kernel_rfl) (by kernel_rfl) (fun _ _ _ h => h) (Or.inl ⟨by rfl, ?_⟩) (by assumption) ?_
                  rotate_left
                  · (intro w hSw; (try dsimp only at hSw); go_simp; try with_reducible rfl)
                  (try simp only [Act.put, List.setIfInBounds_toArray, List.set_cons_zero, List.set_cons_succ])
                  refine wpAnyH_take (i := 26) (oi := ({ dst := some 136, op := Op.move (Operand.tmp 135), type := 4, pos := "more.go:35", after := #[{ on := 25, ground := Ground.data }, { on := 22, ground := Ground.chain }], guard := none } : Oper)) (v := ?_) rfl (by kernel_rfl) (by kernel_rfl) (by kernel_rfl) (fun _ _ _ h => h) (Or.inl ⟨by rfl, ?_⟩) (by assumption) ?_
                  rotate_left
                  · (intro w hSw; (try dsimp only at hSw); go_simp; try with_reducible rfl)
                  (try simp only [Act.put, List.setIfInBounds_toArray, List.set_cons_zero, List.set_cons_succ])
                  refine wpAnyH_take (i := 27) (oi := ({ dst := some 137, op := Op.load 28 (Operand.tmp 8), type := 28, pos := "more.go:35", after := #[{ on := 26, ground := Ground.guard }], guard := some (26, false) } : Oper)) (v := ?_) rfl (by kernel_rfl) (by kernel_rfl) (by kernel_rfl) (fun _ _ _ h => h) (Or.inl ⟨by rfl, ?_⟩) (by assumption) ?_
                  rotate_left
                  · (intro w hSw; (try dsimp only at hSw); go_simp; try with_reducible rfl)
                  (try simp only [Act.put, List.setIfInBounds_toArray, List.set_cons_zero, List.set_cons_succ])
                  refine wpAnyH_take (i := 28) (oi := ({ dst := some 138, op := Op.load 28 (Operand.tmp 10), type := 28, pos := "more.go:35", after := #[{ on := 26, ground := Ground.guard }], guard := some (26, false) } : Oper)) (v := ?_) rfl (by kernel_rfl) (by kernel_rfl) (by kernel_rfl) (fun _ _ _ h => h) (Or.inl ⟨by rfl, ?_⟩) (by assumption) ?_
                  rotate_left
                  · (intro w hSw; (try dsimp only at hSw); go_simp; try with_reducible rfl)
                  (try simp only [Act.put, List.setIfInBounds_toArray, List.set_cons_zero, List.set_cons_succ])
                  refine wpAnyH_take (i := 30) (oi := ({ dst := some 140, op := Op.load 28 (Operand.tmp 9), type := 28, pos := "more.go:35", after := #[{ on := 26, ground := Ground.guard }], guard := some (26, false) } : Oper)) (v := ?_) rfl (by kernel_rfl) (by kernel_rfl) (by kernel_rfl) (fun _ _ _ h => h) (Or.inl ⟨by rfl, ?_⟩) (by assumption) ?_
                  rotate_left
                  · (intro w hSw; (try dsimp only at hSw); go_simp; try with_reducible rfl)
                  (try simp only [Act.put, List.setIfInBounds_toArray, List.set_cons_zero, List.set_cons_succ])
                  refine wpAnyH_take (i := 31) (oi := ({ dst := some 141, op := Op.load 28 (Operand.tmp 10), type := 28, pos := "more.go:35", after := #[{ on := 26, ground := Ground.guard }], guard := some (26, false) } : Oper)) (v := ?_) rfl (by kernel_rfl) (by kernel_rfl) (by kernel_rfl) (fun _ _ _ h => h) (Or.inl ⟨by rfl, ?_⟩) (by assumption) ?_
                  rotate_left
                  · (intro w hSw; (try dsimp only at hSw); go_simp; try with_reducible rfl)
                  (try simp only [Act.put, List.setIfInBounds_toArray, List.set_cons_zero, List.set_cons_succ])
                  refine wpAnyH_take (i := 34) (oi := ({ dst := some 144, op := Op.load 28 (Operand.tmp 8), type := 28, pos := "more.go:35", after := #[{ on := 26, ground := Ground.guard }], guard := some (26, false) } : Oper)) (v := ?_) rfl (by kernel_rfl) (by kernel_rfl) (by kernel_rfl) (fun _ _ _ h => h) (Or.inl ⟨by rfl, ?_⟩) (by assumption) ?_
                  rotate_left
                  · (intro w hSw; (try dsimp only at hSw); go_simp; try with_reducible rfl)
                  (try simp only [Act.put, List.setIfInBounds_toArray, List.set_cons_zero, List.set_cons_succ])
                  refine wpAnyH_take (i := 35) (oi := ({ dst := some 145, op := Op.load 28 (Operand.tmp 9), type := 28, pos := "more.go:35", after := #[{ on := 26, ground := Ground.guard }], guard := some (26, false) } : Oper)) (v := ?_) rfl (by kernel_rfl) (by kernel_rfl) (by kernel_rfl) (fun _ _ _ h => h) (Or.inl ⟨by rfl, ?_⟩) (by assumption) ?_
                  rotate_left
                  · (intro w hSw; (try dsimp only at hSw); go_simp; try with_reducible rfl)
                  (try simp only [Act.put, List.setIfInBounds_toArray, List.set_cons_zero, List.set_cons_succ])
                  refine wpAnyH_ready (rs := [29]) (by kernel_rfl) (by simp) ?_
                  refine AllReadyH.cons (o := ({ dst := some 139, op := Op.call { callee := Callee.value (Operand.func 38), args := #[Operand.tmp 137, Operand.tmp 138], argTypes := #[28, 28] }, type := 28, pos := "more.go:35", after := #[{ on := 27, ground := Ground.data }, { on := 28, ground := Ground.data }, { on := 26, ground := Ground.chain }, { on := 26, ground := Ground.guard }], guard := some (26, false) } : Oper)) rfl (fun K hK => ?_) AllReadyH.nil
                  go_simp
                  refine (add_int _ sx sz bx bz m1 m3 k1 k3 zr zt (X) (Z) (IXc.out.below Xd24) (IZc.out.below Xd24) (by omega) (by omega)).mono ?_
                  rintro e vd25 ⟨sd25, ad25, nd25, cd25, zd25, rfl, gd25, pd25, ud25⟩
                  have qd25 : nd25 ≤ 9 := (by omega)
                  clear pd25
                  have Rd2px5 := Lib.hid gd25
                  clear gd25
                  have Xd25 : Below wc.heap.size wc vd25 := Xd24.trans (ud25.mono Xd24.size)
                  have Zd25 := ud25.size
                  refine hK.out _ _ ?_ (fun hHd25 => ?_)
                  · exact HKPc.out _ Xd25
                  clear hK K hHd24
                  (try simp only [Act.put, List.setIfInBounds_toArray, List.set_cons_zero, List.set_cons_succ])
                  refine wpAnyH_ready (rs := [32]) (by kernel_rfl) (by simp) ?_
                  refine AllReadyH.cons (o := ({ dst := some 142, op := Op.call { callee := Callee.value (Operand.func 38), args := #[Operand.tmp 140, Operand.tmp 141], argTypes := #[28, 28] }, type := 28, pos := "more.go:35", after := #[{ on := 30, ground := Ground.data }, { on := 31, ground := Ground.data }, { on := 29, ground := Ground.chain }, { on := 26, ground := Ground.guard }], guard := some (26, false) } : Oper)) rfl (fun K hK => ?_) AllReadyH.nil
                  go_simp
                  refine (add_int _ sy sz by' bz m2 m3 k2 k3 zs zt (Y) (Z) (IYc.out.below Xd25) (IZc.out.below Xd25) (by omega) (by omega)).mono ?_
                  rintro e vd26 ⟨sd26, ad26, nd26, cd26, zd26, rfl, gd26, pd26, ud26⟩
                  have qd26 : nd26 ≤ 9 := (by omega)
                  clear pd26
                  have Rd2qx6 := Lib.hid gd26
                  clear gd26
                  have Xd26 : Below wc.heap.size wc vd26 := Xd25.trans (ud26.mono Xd25.size)
                  have Zd26 := ud26.size
                  have Rd2px6 := Lib.hid (Rd2px5.out.below ud26)
                  clear Rd2px5
                  refine hK.out _ _ ?_ (fun hHd26 => ?_)
                  · exact HKPc.out _ Xd26
                  clear hK K hHd25
                  (try simp only [Act.put, List.setIfInBounds_toArray, List.set_cons_zero, List.set_cons_succ])
                  refine wpAnyH_ready (rs := [33]) (by kernel_rfl) (by simp) ?_
                  refine AllReadyH.cons (o := ({ dst := some 143, op := Op.call { callee := Callee.value (Operand.func 32), args := #[Operand.tmp 139, Operand.tmp 142], argTypes := #[28, 28] }, type := 3, pos := "more.go:35", after := #[{ on := 29, ground := Ground.data }, { on := 32, ground := Ground.data }, { on := 32, ground := Ground.chain }, { on := 26, ground := Ground.guard }], guard := some (26, false) } : Oper)) rfl (fun K hK => ?_) AllReadyH.nil
                  go_simp
                  refine (cmp_eq _ sd25 sd26 ad25 ad26 nd25 nd26 cd25 cd26 zd25 zd26 ((X) + (Z)) ((Y) + (Z)) Rd2px6.out Rd2qx6.out HC6.out).mono ?_
                  rintro e vd27 ⟨rfl, ud27⟩
                  have Xd27 : Below wc.heap.size wc vd27 := Xd26.trans (ud27.mono Xd26.size)
                  have Zd27 := ud27.size
                  refine hK.out _ _ ?_ (fun hHd27 => ?_)
                  · exact HKPc.out _ Xd27
                  clear hK K hHd26
                  (try simp only [Act.put, List.setIfInBounds_toArray, List.set_cons_zero, List.set_cons_succ])
                  refine wpAnyH_ready (rs := [36]) (by kernel_rfl) (by simp) ?_
                  refine AllReadyH.cons (o := ({ dst := some 146, op := Op.call { callee := Callee.value (Operand.func 32), args := #[Operand.tmp 144, Operand.tmp 145], argTypes := #[28, 28] }, type := 3, pos := "more.go:35", after := #[{ on := 34, ground := Ground.data }, { on := 35, ground := Ground.data }, { on := 33, ground := Ground.chain }, { on := 26, ground := Ground.guard }], guard := some (26, false) } : Oper)) rfl (fun K hK => ?_) AllReadyH.nil
                  go_simp
                  refine (cmp_eq _ sx sy bx by' m1 m2 k1 k2 zr zs (X) (Y) (IXc.out.below Xd27) (IYc.out.below Xd27) HC1.out).mono ?_
                  rintro e vd28 ⟨rfl, ud28⟩
                  have Xd28 : Below wc.heap.size wc vd28 := Xd27.trans (ud28.mono Xd27.size)
                  have Zd28 := ud28.size
                  refine hK.out _ _ ?_ (fun hHd28 => ?_)
                  · exact HKPc.out _ Xd28
                  clear hK K hHd27
                  (try simp only [Act.put, List.setIfInBounds_toArray, List.set_cons_zero, List.set_cons_succ])
                  refine wpAnyH_take (i := 37) (oi := ({ dst := some 147, op := Op.binOp BinOp.neq 3 (Operand.tmp 143) (Operand.tmp 146) 3, type := 4, pos := "more.go:35", after := #[{ on := 33, ground := Ground.data }, { on := 36, ground := Ground.data }, { on := 26, ground := Ground.guard }], guard := some (26, false) } : Oper)) (v := ?_) rfl (by kernel_rfl) (by kernel_rfl) (by kernel_rfl) (fun _ _ _ h => h) (Or.inl ⟨by rfl, ?_⟩) (by assumption) ?_
                  rotate_left
                  · (intro w hSw; (try dsimp only at hSw); go_simp; try with_reducible rfl)
                  (try simp only [Act.put, List.setIfInBounds_toArray, List.set_cons_zero, List.set_cons_succ])
                  refine wpAnyH_take (i := 38) (oi := ({ dst := some 148, op := Op.pick (Operand.tmp 136) (Operand.const (Value.bool true)) (Operand.tmp 147), type := 4, pos := "more.go:35", after := #[{ on := 26, ground := Ground.data }, { on := 37, ground := Ground.data }], guard := none } : Oper)) (v := ?_) rfl (by kernel_rfl) (by kernel_rfl) (by kernel_rfl) (fun _ _ _ h => h) (Or.inl ⟨by rfl, ?_⟩) (by assumption) ?_
                  rotate_left
                  · (intro w hSw; (try dsimp only at hSw); go_simp; try with_reducible rfl)
                  (try simp only [Act.put, List.setIfInBounds_toArray, List.set_cons_zero, List.set_cons_succ])
                  refine wpAnyH_take (i := 39) (oi := ({ dst := some 149, op := Op.move (Operand.tmp 148), type := 4, pos := "more.go:35", after := #[{ on := 38, ground := Ground.data }, { on := 36, ground := Ground.chain }], guard := none } : Oper)) (v := ?_) rfl (by kernel_rfl) (by kernel_rfl) (by kernel_rfl) (fun _ _ _ h => h) (Or.inl ⟨by rfl, ?_⟩) (by assumption) ?_
                  rotate_left
                  · (intro w hSw; (try dsimp only at hSw); go_simp; try with_reducible rfl)
                  (try simp only [Act.put, List.setIfInBounds_toArray, List.set_cons_zero, List.set_cons_succ])
                  refine wpAnyH_take (i := 40) (oi := ({ dst := some 150, op := Op.load 28 (Operand.tmp 10), type := 28, pos := "more.go:35", after := #[{ on := 39, ground := Ground.guard }], guard := some (39, false) } : Oper)) (v := ?_) rfl (by kernel_rfl) (by kernel_rfl) (by kernel_rfl) (fun _ _ _ h => h) (Or.inl ⟨by rfl, ?_⟩) (by assumption) ?_
                  rotate_left
                  · (intro w hSw; (try dsimp only at hSw); go_simp; try with_reducible rfl)
                  (try simp only [Act.put, List.setIfInBounds_toArray, List.set_cons_zero, List.set_cons_succ])
                  refine wpAnyH_ready (rs := [41]) (by kernel_rfl) (by simp) ?_
                  refine AllReadyH.cons (o := ({ dst := some 151, op := Op.call { callee := Callee.value (Operand.func 22), args := #[Operand.tmp 150], argTypes := #[28] }, type := 3, pos := "more.go:35", after := #[{ on := 40, ground := Ground.data }, { on := 39, ground := Ground.chain }, { on := 39, ground := Ground.guard }], guard := some (39, false) } : Oper)) rfl (fun K hK => ?_) AllReadyH.nil
                  go_simp
                  refine (sign_eq _ sz bz m3 k3 zt (Z) (IZc.out.below Xd28) HC5.out).mono ?_
                  rintro e vd29 ⟨rfl, ud29⟩
                  have Xd29 : Below wc.heap.size wc vd29 := Xd28.trans (ud29.mono Xd28.size)
                  have Zd29 := ud29.size
                  refine hK.out _ _ ?_ (fun hHd29 => ?_)
                  · exact HKPc.out _ Xd29
                  clear hK K hHd28
                  (try simp only [Act.put, List.setIfInBounds_toArray, List.set_cons_zero, List.set_cons_succ])
                  refine wpAnyH_take (i := 42) (oi := ({ dst := some 152, op := Op.binOp BinOp.gtr 3 (Operand.tmp 151) (Operand.const (Value.int IntKind.i64 0)) 3, type := 4, pos := "more.go:35", after := #[{ on := 41, ground := Ground.data }, { on := 39, ground := Ground.guard }], guard := some (39, false) } : Oper)) (v := ?_) rfl (by kernel_rfl) (by kernel_rfl) (by kernel_rfl) (fun _ _ _ h => h) (Or.inl ⟨by rfl, ?_⟩) (by assumption) ?_
                  rotate_left
                  · (intro w hSw; (try dsimp only at hSw); go_simp; try with_reducible rfl)
                  (try simp only [Act.put, List.setIfInBounds_toArray, List.set_cons_zero, List.set_cons_succ])
                  refine wpAnyH_take (i := 43) (oi := ({ dst := some 153, op := Op.move (Operand.tmp 152), type := 4, pos := "more.go:35", after := #[{ on := 42, ground := Ground.data }, { on := 41, ground := Ground.chain }, { on := 39, ground := Ground.guard }], guard := some (39, false) } : Oper)) (v := ?_) rfl (by kernel_rfl) (by kernel_rfl) (by kernel_rfl) (fun _ _ _ h => h) (Or.inl ⟨by rfl, ?_⟩) (by assumption) ?_
                  rotate_left
                  · (intro w hSw; (try dsimp only at hSw); go_simp; try with_reducible rfl)
                  (try simp only [Act.put, List.setIfInBounds_toArray, List.set_cons_zero, List.set_cons_succ])
                  refine wpAnyH_take (i := 44) (oi := ({ dst := some 154, op := Op.load 28 (Operand.tmp 8), type := 28, pos := "more.go:35", after := #[{ on := 43, ground := Ground.guard }], guard := some (43, true) } : Oper)) (v := undef) rfl (by kernel_rfl) (by kernel_rfl) (by kernel_rfl) (fun _ _ _ h => h) (Or.inr ⟨by rfl, rfl⟩) (by assumption) ?_
                  (try simp only [Act.put, List.setIfInBounds_toArray, List.set_cons_zero, List.set_cons_succ])
                  refine wpAnyH_take (i := 45) (oi := ({ dst := some 155, op := Op.load 28 (Operand.tmp 10), type := 28, pos := "more.go:35", after := #[{ on := 43, ground := Ground.guard }], guard := some (43, true) } : Oper)) (v := undef) rfl (by kernel_rfl) (by kernel_rfl) (by kernel_rfl) (fun _ _ _ h => h) (Or.inr ⟨by rfl, rfl⟩) (by assumption) ?_
                  (try simp only [Act.put, List.setIfInBounds_toArray, List.set_cons_zero, List.set_cons_succ])
                  refine wpAnyH_take (i := 46) (oi := ({ dst := some 156, op := Op.call { callee := Callee.value (Operand.func 42), args := #[Operand.tmp 154, Operand.tmp 155], argTypes := #[28, 28] }, type := 28, pos := "more.go:35", after := #[{ on := 44, ground := Ground.data }, { on := 45, ground := Ground.data }, { on := 43, ground := Ground.chain }, { on := 43, ground := Ground.guard }], guard := some (43, true) } : Oper)) (v := undef) rfl (by kernel_rfl) (by kernel_rfl) (by kernel_rfl) (fun _ _ _ h => h) (Or.inr ⟨by rfl, rfl⟩) (by assumption) ?_
                  (try simp only [Act.put, List.setIfInBounds_toArray, List.set_cons_zero, List.set_cons_succ])
                  refine wpAnyH_take (i := 47) (oi := ({ dst := some 157, op := Op.load 28 (Operand.tmp 9), type := 28, pos := "more.go:35", after := #[{ on := 43, ground := Ground.guard }], guard := some (43, true) } : Oper)) (v := undef) rfl (by kernel_rfl) (by kernel_rfl) (by kernel_rfl) (fun _ _ _ h => h) (Or.inr ⟨by rfl, rfl⟩) (by assumption) ?_
                  (try simp only [Act.put, List.setIfInBounds_toArray, List.set_cons_zero, List.set_cons_succ])
                  refine wpAnyH_take (i := 48) (oi := ({ dst := some 158, op := Op.load 28 (Operand.tmp 10), type := 28, pos := "more.go:35", after := #[{ on := 43, ground := Ground.guard }], guard := some (43, true) } : Oper)) (v := undef) rfl (by kernel_rfl) (by kernel_rfl) (by kernel_rfl) (fun _ _ _ h => h) (Or.inr ⟨by rfl, rfl⟩) (by assumption) ?_
                  (try simp only [Act.put, List.setIfInBounds_toArray, List.set_cons_zero, List.set_cons_succ])
                  refine wpAnyH_take (i := 49) (oi := ({ dst := some 159, op := Op.call { callee := Callee.value (Operand.func 42), args := #[Operand.tmp 157, Operand.tmp 158], argTypes := #[28, 28] }, type := 28, pos := "more.go:35", after := #[{ on := 47, ground := Ground.data }, { on := 48, ground := Ground.data }, { on := 46, ground := Ground.chain }, { on := 43, ground := Ground.guard }], guard := some (43, true) } : Oper)) (v := undef) rfl (by kernel_rfl) (by kernel_rfl) (by kernel_rfl) (fun _ _ _ h => h) (Or.inr ⟨by rfl, rfl⟩) (by assumption) ?_
                  (try simp only [Act.put, List.setIfInBounds_toArray, List.set_cons_zero, List.set_cons_succ])
                  refine wpAnyH_take (i := 50) (oi := ({ dst := some 160, op := Op.call { callee := Callee.value (Operand.func 32), args := #[Operand.tmp 156, Operand.tmp 159], argTypes := #[28, 28] }, type := 3, pos := "more.go:35", after := #[{ on := 46, ground := Ground.data }, { on := 49, ground := Ground.data }, { on := 49, ground := Ground.chain }, { on := 43, ground := Ground.guard }], guard := some (43, true) } : Oper)) (v := undef) rfl (by kernel_rfl) (by kernel_rfl) (by kernel_rfl) (fun _ _ _ h => h) (Or.inr ⟨by rfl, rfl⟩) (by assumption) ?_
                  (try simp only [Act.put, List.setIfInBounds_toArray, List.set_cons_zero, List.set_cons_succ])
                  refine wpAnyH_take (i := 51) (oi := ({ dst := some 161, op := Op.load 28 (Operand.tmp 8), type := 28, pos := "more.go:35", after := #[{ on := 43, ground := Ground.guard }], guard := some (43, true) } : Oper)) (v := undef) rfl (by kernel_rfl) (by kernel_rfl) (by kernel_rfl) (fun _ _ _ h => h) (Or.inr ⟨by rfl, rfl⟩) (by assumption) ?_
                  (try simp only [Act.put, List.setIfInBounds_toArray, List.set_cons_zero, List.set_cons_succ])
                  refine wpAnyH_take (i := 52) (oi := ({ dst := some 162, op := Op.load 28 (Operand.tmp 9), type := 28, pos := "more.go:35", after := #[{ on := 43, ground := Ground.guard }], guard := some (43, true) } : Oper)) (v := undef) rfl (by kernel_rfl) (by kernel_rfl) (by kernel_rfl) (fun _ _ _ h => h) (Or.inr ⟨by rfl, rfl⟩) (by assumption) ?_
                  (try simp only [Act.put, List.setIfInBounds_toArray, List.set_cons_zero, List.set_cons_succ])
                  refine wpAnyH_take (i := 53) (oi := ({ dst := some 163, op := Op.call { callee := Callee.value (Operand.func 32), args := #[Operand.tmp 161, Operand.tmp 162], argTypes := #[28, 28] }, type := 3, pos := "more.go:35", after := #[{ on := 51, ground := Ground.data }, { on := 52, ground := Ground.data }, { on := 50, ground := Ground.chain }, { on := 43, ground := Ground.guard }], guard := some (43, true) } : Oper)) (v := undef) rfl (by kernel_rfl) (by kernel_rfl) (by kernel_rfl) (fun _ _ _ h => h) (Or.inr ⟨by rfl, rfl⟩) (by assumption) ?_
                  (try simp only [Act.put, List.setIfInBounds_toArray, List.set_cons_zero, List.set_cons_succ])
                  refine wpAnyH_take (i := 54) (oi := ({ dst := some 164, op := Op.binOp BinOp.neq 3 (Operand.tmp 160) (Operand.tmp 163) 3, type := 4, pos := "more.go:35", after := #[{ on := 50, ground := Ground.data }, { on := 53, ground := Ground.data }, { on := 43, ground := Ground.guard }], guard := some (43, true) } : Oper)) (v := undef) rfl (by kernel_rfl) (by kernel_rfl) (by kernel_rfl) (fun _ _ _ h => h) (Or.inr ⟨by rfl, rfl⟩) (by assumption) ?_
                  (try simp only [Act.put, List.setIfInBounds_toArray, List.set_cons_zero, List.set_cons_succ])
                  refine wpAnyH_take (i := 55) (oi := ({ dst := some 165, op := Op.pick (Operand.tmp 153) (Operand.tmp 164) (Operand.const (Value.bool false)), type := 4, pos := "more.go:35", after := #[{ on := 43, ground := Ground.data }, { on := 54, ground := Ground.data }, { on := 39, ground := Ground.guard }], guard := some (39, false) } : Oper)) (v := ?_) rfl (by kernel_rfl) (by kernel_rfl) (by kernel_rfl) (fun _ _ _ h => h) (Or.inl ⟨by rfl, ?_⟩) (by assumption) ?_
                  rotate_left
                  · (intro w hSw; (try dsimp only at hSw); go_simp; try with_reducible rfl)
                  (try simp only [Act.put, List.setIfInBounds_toArray, List.set_cons_zero, List.set_cons_succ])
                  refine wpAnyH_take (i := 56) (oi := ({ dst := some 166, op := Op.pick (Operand.tmp 149) (Operand.const (Value.bool true)) (Operand.tmp 165), type := 4, pos := "more.go:35", after := #[{ on := 39, ground := Ground.data }, { on := 55, ground := Ground.data }], guard := none } : Oper)) (v := ?_) rfl (by kernel_rfl) (by kernel_rfl) (by kernel_rfl) (fun _ _ _ h => h) (Or.inl ⟨by rfl, ?_⟩) (by assumption) ?_
                  rotate_left
                  · (intro w hSw; (try dsimp only at hSw); go_simp; try with_reducible rfl)
                  (try simp only [Act.put, List.setIfInBounds_toArray, List.set_cons_zero, List.set_cons_succ])
                  refine wpAnyH_done (by kernel_rfl) ?_ _
                  refine NoPanic.normal ?_
                  go_wp2
                  go_meet
                  exact ⟨rfl, HKPc.out _ Xd29, HBWc.out.trans (Xd29.mono HBWc.out.size)⟩
          · have hdxy : decide (cA ≤ 0) = false := decide_eq_false hxy
            by_cases hz : 0 < cE
            · have hdz : decide (0 < cE) = true := decide_eq_true hz
              as_aux_lemma =>
                refine wp_region_noPanic ?_
                refine wp_region_held_drew (S := fun w' => (w'.cell? ⟨b1, 0, none⟩ = some (.bool sx) ∧ w'.cell? ⟨b1, 1, none⟩ = some (.slice bx m1 k1) ∧ w'.cell? ⟨b2, 0, none⟩ = some (.bool sy) ∧ w'.cell? ⟨b2, 1, none⟩ = some (.slice by' m2 k2) ∧ w'.cell? ⟨b3, 0, none⟩ = some (.bool sz) ∧ w'.cell? ⟨b3, 1, none⟩ = some (.slice bz m3 k3))) (by kernel_rfl) ?_ (fun hHe10 => ?_)
                · exact HKPc.out _ (Below.refl _ _).drew
                refine wpAnyH_take (i := 0) (oi := ({ dst := some 110, op := Op.load 28 (Operand.tmp 8), type := 28, pos := "more.go:35", after := #[], guard := none } : Oper)) (v := ?_) rfl (by kernel_rfl) (by kernel_rfl) (by kernel_rfl) (fun _ _ _ h => h) (Or.inl ⟨by rfl, ?_⟩) (by assumption) ?_
                rotate_left
                · (intro w hSw; (try dsimp only at hSw); go_simp; try with_reducible rfl)
                (try simp only [Act.put, List.setIfInBounds_toArray, List.set_cons_zero, List.set_cons_succ])
                refine wpAnyH_take (i := 1) (oi := ({ dst := some 111, op := Op.load 28 (Operand.tmp 9), type := 28, pos := "more.go:35", after := #[], guard := none } : Oper)) (v := ?_) rfl (by kernel_rfl) (by kernel_rfl) (by kernel_rfl) (fun _ _ _ h => h) (Or.inl ⟨by rfl, ?_⟩) (by assumption) ?_
                rotate_left
                · (intro w hSw; (try dsimp only at hSw); go_simp; try with_reducible rfl)
                (try simp only [Act.put, List.setIfInBounds_toArray, List.set_cons_zero, List.set_cons_succ])
                refine wpAnyH_take (i := 3) (oi := ({ dst := some 113, op := Op.load 28 (Operand.tmp 9), type := 28, pos := "more.go:35", after := #[], guard := none } : Oper)) (v := ?_) rfl (by kernel_rfl) (by kernel_rfl) (by kernel_rfl) (fun _ _ _ h => h) (Or.inl ⟨by rfl, ?_⟩) (by assumption) ?_
                rotate_left
                · (intro w hSw; (try dsimp only at hSw); go_simp; try with_reducible rfl)
                (try simp only [Act.put, List.setIfInBounds_toArray, List.set_cons_zero, List.set_cons_succ])
                refine wpAnyH_take (i := 4) (oi := ({ dst := some 114, op := Op.load 28 (Operand.tmp 8), type := 28, pos := "more.go:35", after := #[], guard := none } : Oper)) (v := ?_) rfl (by kernel_rfl) (by kernel_rfl) (by kernel_rfl) (fun _ _ _ h => h) (Or.inl ⟨by rfl, ?_⟩) (by assumption) ?_
                rotate_left
                · (intro w hSw; (try dsimp only at hSw); go_simp; try with_reducible rfl)
                (try simp only [Act.put, List.setIfInBounds_toArray, List.set_cons_zero, List.set_cons_succ])
                refine wpAnyH_ready (rs := [2]) (by kernel_rfl) (by simp) ?_
                refine AllReadyH.cons (o := ({ dst := some 112, op := Op.call { callee := Callee.value (Operand.func 32), args := #[Operand.tmp 110, Operand.tmp 111], argTypes := #[28, 28] }, type := 3, pos := "more.go:35", after := #[{ on := 0, ground := Ground.data }, { on := 1, ground := Ground.data }], guard := none } : Oper)) rfl (fun K hK => ?_) AllReadyH.nil
                go_simp
                refine (cmp_eq _ sx sy bx by' m1 m2 k1 k2 zr zs (X) (Y) (IXc.out.drew) (IYc.out.drew) HC1.out).mono ?_
                rintro e ve11 ⟨rfl, ue11⟩
                have Xe11 : Below wc.heap.size wc ve11 := Below.trans (by go_grown) (ue11.mono (by go_size))
                have Ze11 : wc.heap.size ≤ ve11.heap.size := Xe11.size
                refine hK.out _ _ ?_ (fun hHe11 => ?_)
                · exact HKPc.out _ Xe11
                clear hK K hHe10
                (try simp only [Act.put, List.setIfInBounds_toArray, List.set_cons_zero, List.set_cons_succ])
                refine wpAnyH_ready (rs := [5]) (by kernel_rfl) (by simp) ?_
                refine AllReadyH.cons (o := ({ dst := some 115, op := Op.call { callee := Callee.value (Operand.func 32), args := #[Operand.tmp 113, Operand.tmp 114], argTypes := #[28, 28] }, type := 3, pos := "more.go:35", after := #[{ on := 3, ground := Ground.data }, { on := 4, ground := Ground.data }, { on := 2, ground := Ground.chain }], guard := none } : Oper)) rfl (fun K hK => ?_) AllReadyH.nil
                go_simp
                refine (cmp_eq _ sy sx by' bx m2 m1 k2 k1 zs zr (Y) (X) (IYc.out.below Xe11) (IXc.out.below Xe11) HC2.out).mono ?_
                rintro e ve12 ⟨rfl, ue12⟩
                have Xe12 : Below wc.heap.size wc ve12 := Xe11.trans (ue12.mono Xe11.size)
                have Ze12 := ue12.size
                refine hK.out _ _ ?_ (fun hHe12 => ?_)
                · exact HKPc.out _ Xe12
                clear hK K hHe11
                (try simp only [Act.put, List.setIfInBounds_toArray, List.set_cons_zero, List.set_cons_succ])
                refine wpAnyH_take (i := 6) (oi := ({ dst := some 116, op := Op.unOp UnOp.neg 3 (Operand.tmp 115), type := 3, pos := "more.go:35", after := #[{ on := 5, ground := Ground.data }], guard := none } : Oper)) (v := ?_) rfl (by kernel_rfl) (by kernel_rfl) (by kernel_rfl) (fun _ _ _ h => h) (Or.inl ⟨by rfl, ?_⟩) (by assumption) ?_
                rotate_left
                · (intro w hSw; (try dsimp only at hSw); go_simp; try with_reducible rfl)
                (try simp only [Act.put, List.setIfInBounds_toArray, List.set_cons_zero, List.set_cons_succ])
                refine wpAnyH_take (i := 7) (oi := ({ dst := some 117, op := Op.binOp BinOp.neq 3 (Operand.tmp 112) (Operand.tmp 116) 3, type := 4, pos := "more.go:35", after := #[{ on := 2, ground := Ground.data }, { on := 6, ground := Ground.data }], guard := none } : Oper)) (v := ?_) rfl (by kernel_rfl) (by kernel_rfl) (by kernel_rfl) (fun _ _ _ h => h) (Or.inl ⟨by rfl, ?_⟩) (by assumption) ?_
                rotate_left
                · (intro w hSw; (try dsimp only at hSw); go_simp; try with_reducible rfl)
                (try simp only [Act.put, List.setIfInBounds_toArray, List.set_cons_zero, List.set_cons_succ])
                refine wpAnyH_take (i := 8) (oi := ({ dst := some 118, op := Op.move (Operand.tmp 117), type := 4, pos := "more.go:35", after := #[{ on := 7, ground := Ground.data }, { on := 5, ground := Ground.chain }], guard := none } : Oper)) (v := ?_) rfl (by kernel_rfl) (by kernel_rfl) (by kernel_rfl) (fun _ _ _ h => h) (Or.inl ⟨by rfl, ?_⟩) (by assumption) ?_
                rotate_left
                · (intro w hSw; (try dsimp only at hSw); go_simp; try with_reducible rfl)
                (try simp only [Act.put, List.setIfInBounds_toArray, List.set_cons_zero, List.set_cons_succ])
                refine wpAnyH_take (i := 9) (oi := ({ dst := some 119, op := Op.load 28 (Operand.tmp 8), type := 28, pos := "more.go:35", after := #[{ on := 8, ground := Ground.guard }], guard := some (8, false) } : Oper)) (v := ?_) rfl (by kernel_rfl) (by kernel_rfl) (by kernel_rfl) (fun _ _ _ h => h) (Or.inl ⟨by rfl, ?_⟩) (by assumption) ?_
                rotate_left
                · (intro w hSw; (try dsimp only at hSw); go_simp; try with_reducible rfl)
                (try simp only [Act.put, List.setIfInBounds_toArray, List.set_cons_zero, List.set_cons_succ])
                refine wpAnyH_take (i := 10) (oi := ({ dst := some 120, op := Op.load 28 (Operand.tmp 9), type := 28, pos := "more.go:35", after := #[{ on := 8, ground := Ground.guard }], guard := some (8, false) } : Oper)) (v := ?_) rfl (by kernel_rfl) (by kernel_rfl) (by kernel_rfl) (fun _ _ _ h => h) (Or.inl ⟨by rfl, ?_⟩) (by assumption) ?_
                rotate_left
                · (intro w hSw; (try dsimp only at hSw); go_simp; try with_reducible rfl)
                (try simp only [Act.put, List.setIfInBounds_toArray, List.set_cons_zero, List.set_cons_succ])
                refine wpAnyH_ready (rs := [11]) (by kernel_rfl) (by simp) ?_
                refine AllReadyH.cons (o := ({ dst := some 121, op := Op.call { callee := Callee.value (Operand.func 32), args := #[Operand.tmp 119, Operand.tmp 120], argTypes := #[28, 28] }, type := 3, pos := "more.go:35", after := #[{ on := 9, ground := Ground.data }, { on := 10, ground := Ground.data }, { on := 8, ground := Ground.chain }, { on := 8, ground := Ground.guard }], guard := some (8, false) } : Oper)) rfl (fun K hK => ?_) AllReadyH.nil
                go_simp
                refine (cmp_eq _ sx sy bx by' m1 m2 k1 k2 zr zs (X) (Y) (IXc.out.below Xe12) (IYc.out.below Xe12) HC1.out).mono ?_
                rintro e ve13 ⟨rfl, ue13⟩
                have Xe13 : Below wc.heap.size wc ve13 := Xe12.trans (ue13.mono Xe12.size)
                have Ze13 := ue13.size
                refine hK.out _ _ ?_ (fun hHe13 => ?_)
                · exact HKPc.out _ Xe13
                clear hK K hHe12
                (try simp only [Act.put, List.setIfInBounds_toArray, List.set_cons_zero, List.set_cons_succ])
                refine wpAnyH_take (i := 12) (oi := ({ dst := some 122, op := Op.binOp BinOp.leq 3 (Operand.tmp 121) (Operand.const (Value.int IntKind.i64 0)) 3, type := 4, pos := "more.go:35", after := #[{ on := 11, ground := Ground.data }, { on := 8, ground := Ground.guard }], guard := some (8, false) } : Oper)) (v := ?_) rfl (by kernel_rfl) (by kernel_rfl) (by kernel_rfl) (fun _ _ _ h => h) (Or.inl ⟨by rfl, ?_⟩) (by assumption) ?_
                rotate_left
                · (intro w hSw; (try dsimp only at hSw); go_simp; try with_reducible rfl)
                (try simp only [Act.put, List.setIfInBounds_toArray, List.set_cons_zero, List.set_cons_succ])
                refine wpAnyH_take (i := 13) (oi := ({ dst := some 123, op := Op.move (Operand.tmp 122), type := 4, pos := "more.go:35", after := #[{ on := 12, ground := Ground.data }, { on := 11, ground := Ground.chain }, { on := 8, ground := Ground.guard }], guard := some (8, false) } : Oper)) (v := ?_) rfl (by kernel_rfl) (by kernel_rfl) (by kernel_rfl) (fun _ _ _ h => h) (Or.inl ⟨by rfl, ?_⟩) (by assumption) ?_
                rotate_left
                · (intro w hSw; (try dsimp only at hSw); go_simp; try with_reducible rfl)
                (try simp only [Act.put, List.setIfInBounds_toArray, List.set_cons_zero, List.set_cons_succ])
                refine wpAnyH_take (i := 14) (oi := ({ dst := some 124, op := Op.load 28 (Operand.tmp 9), type := 28, pos := "more.go:35", after := #[{ on := 13, ground := Ground.guard }], guard := some (13, true) } : Oper)) (v := undef) rfl (by kernel_rfl) (by kernel_rfl) (by kernel_rfl) (fun _ _ _ h => h) (Or.inr ⟨by rfl, rfl⟩) (by assumption) ?_
                (try simp only [Act.put, List.setIfInBounds_toArray, List.set_cons_zero, List.set_cons_succ])
                refine wpAnyH_take (i := 15) (oi := ({ dst := some 125, op := Op.load 28 (Operand.tmp 10), type := 28, pos := "more.go:35", after := #[{ on := 13, ground := Ground.guard }], guard := some (13, true) } : Oper)) (v := undef) rfl (by kernel_rfl) (by kernel_rfl) (by kernel_rfl) (fun _ _ _ h => h) (Or.inr ⟨by rfl, rfl⟩) (by assumption) ?_
                (try simp only [Act.put, List.setIfInBounds_toArray, List.set_cons_zero, List.set_cons_succ])
                refine wpAnyH_take (i := 16) (oi := ({ dst := some 126, op := Op.call { callee := Callee.value (Operand.func 32), args := #[Operand.tmp 124, Operand.tmp 125], argTypes := #[28, 28] }, type := 3, pos := "more.go:35", after := #[{ on := 14, ground := Ground.data }, { on := 15, ground := Ground.data }, { on := 13, ground := Ground.chain }, { on := 13, ground := Ground.guard }], guard := some (13, true) } : Oper)) (v := undef) rfl (by kernel_rfl) (by kernel_rfl) (by kernel_rfl) (fun _ _ _ h => h) (Or.inr ⟨by rfl, rfl⟩) (by assumption) ?_
                (try simp only [Act.put, List.setIfInBounds_toArray, List.set_cons_zero, List.set_cons_succ])
                refine wpAnyH_take (i := 17) (oi := ({ dst := some 127, op := Op.binOp BinOp.leq 3 (Operand.tmp 126) (Operand.const (Value.int IntKind.i64 0)) 3, type := 4, pos := "more.go:35", after := #[{ on := 16, ground := Ground.data }, { on := 13, ground := Ground.guard }], guard := some (13, true) } : Oper)) (v := undef) rfl (by kernel_rfl) (by kernel_rfl) (by kernel_rfl) (fun _ _ _ h => h) (Or.inr ⟨by rfl, rfl⟩) (by assumption) ?_
                (try simp only [Act.put, List.setIfInBounds_toArray, List.set_cons_zero, List.set_cons_succ])
                refine wpAnyH_take (i := 18) (oi := ({ dst := some 128, op := Op.pick (Operand.tmp 123) (Operand.tmp 127) (Operand.const (Value.bool false)), type := 4, pos := "more.go:35", after := #[{ on := 13, ground := Ground.data }, { on := 17, ground := Ground.data }, { on := 8, ground := Ground.guard }], guard := some (8, false) } : Oper)) (v := ?_) rfl (by kernel_rfl) (by kernel_rfl) (by kernel_rfl) (fun _ _ _ h => h) (Or.inl ⟨by rfl, ?_⟩) (by assumption) ?_
                rotate_left
                · (intro w hSw; (try dsimp only at hSw); go_simp; try with_reducible rfl)
                (try simp only [Act.put, List.setIfInBounds_toArray, List.set_cons_zero, List.set_cons_succ])
                refine wpAnyH_take (i := 19) (oi := ({ dst := some 129, op := Op.move (Operand.tmp 128), type := 4, pos := "more.go:35", after := #[{ on := 18, ground := Ground.data }, { on := 16, ground := Ground.chain }, { on := 8, ground := Ground.guard }], guard := some (8, false) } : Oper)) (v := ?_) rfl (by kernel_rfl) (by kernel_rfl) (by kernel_rfl) (fun _ _ _ h => h) (Or.inl ⟨by rfl, ?_⟩) (by assumption) ?_
                rotate_left
                · (intro w hSw; (try dsimp only at hSw); go_simp; try with_reducible rfl)
                (try simp only [Act.put, List.setIfInBounds_toArray, List.set_cons_zero, List.set_cons_succ])
                refine wpAnyH_take (i := 20) (oi := ({ dst := some 130, op := Op.load 28 (Operand.tmp 8), type := 28, pos := "more.go:35", after := #[{ on := 19, ground := Ground.guard }], guard := some (19, true) } : Oper)) (v := undef) rfl (by kernel_rfl) (by kernel_rfl) (by kernel_rfl) (fun _ _ _ h => h) (Or.inr ⟨by rfl, rfl⟩) (by assumption) ?_
                (try simp only [Act.put, List.setIfInBounds_toArray, List.set_cons_zero, List.set_cons_succ])
                refine wpAnyH_take (i := 21) (oi := ({ dst := some 131, op := Op.load 28 (Operand.tmp 10), type := 28, pos := "more.go:35", after := #[{ on := 19, ground := Ground.guard }], guard := some (19, true) } : Oper)) (v := undef) rfl (by kernel_rfl) (by kernel_rfl) (by kernel_rfl) (fun _ _ _ h => h) (Or.inr ⟨by rfl, rfl⟩) (by assumption) ?_
                (try simp only [Act.put, List.setIfInBounds_toArray, List.set_cons_zero, List.set_cons_succ])
                refine wpAnyH_take (i := 22) (oi := ({ dst := some 132, op := Op.call { callee := Callee.value (Operand.func 32), args := #[Operand.tmp 130, Operand.tmp 131], argTypes := #[28, 28] }, type := 3, pos := "more.go:35", after := #[{ on := 20, ground := Ground.data }, { on := 21, ground := Ground.data }, { on := 19, ground := Ground.chain }, { on := 19, ground := Ground.guard }], guard := some (19, true) } : Oper)) (v := undef) rfl (by kernel_rfl) (by kernel_rfl) (by kernel_rfl) (fun _ _ _ h => h) (Or.inr ⟨by rfl, rfl⟩) (by assumption) ?_
                (try simp only [Act.put, List.setIfInBounds_toArray, List.set_cons_zero, List.set_cons_succ])
                refine wpAnyH_take (i := 23) (oi := ({ dst := some 133, op := Op.binOp BinOp.gtr 3 (Operand.tmp 132) (Operand.const (Value.int IntKind.i64 0)) 3, type := 4, pos := "more.go:35", after := #[{ on := 22, ground := Ground.data }, { on := 19, ground := Ground.guard }], guard := some (19, true) } : Oper)) (v := undef) rfl (by kernel_rfl) (by kernel_rfl) (by kernel_rfl) (fun _ _ _ h => h) (Or.inr ⟨by rfl, rfl⟩) (by assumption) ?_
                (try simp only [Act.put, List.setIfInBounds_toArray, List.set_cons_zero, List.set_cons_succ])
                refine wpAnyH_take (i := 24) (oi := ({ dst := some 134, op := Op.pick (Operand.tmp 129) (Operand.tmp 133) (Operand.const (Value.bool false)), type := 4, pos := "more.go:35", after := #[{ on := 19, ground := Ground.data }, { on := 23, ground := Ground.data }, { on := 8, ground := Ground.guard }], guard := some (8, false) } : Oper)) (v := ?_) rfl (by kernel_rfl) (by kernel_rfl) (by kernel_rfl) (fun _ _ _ h => h) (Or.inl ⟨by rfl, ?_⟩) (by assumption) ?_
                rotate_left
                · (intro w hSw; (try dsimp only at hSw); go_simp; try with_reducible rfl)
                (try simp only [Act.put, List.setIfInBounds_toArray, List.set_cons_zero, List.set_cons_succ])
                refine wpAnyH_take (i := 25) (oi := ({ dst := some 135, op := Op.pick (Operand.tmp 118) (Operand.const (Value.bool true)) (Operand.tmp 134), type := 4, pos := "more.go:35", after := #[{ on := 8, ground := Ground.data }, { on := 24, ground := Ground.data }], guard := none } : Oper)) (v := ?_) rfl (by kernel_rfl) (by kernel_rfl) (by kernel_rfl) (fun _ _ _ h => h) (Or.inl ⟨by rfl, ?_⟩) (by assumption) ?_
                rotate_left
                · (intro w hSw; (try dsimp only at hSw); go_simp; try with_reducible rfl)
                (try simp only [Act.put, List.setIfInBounds_toArray, List.set_cons_zero, List.set_cons_succ])
                refine wpAnyH_take (i := 26) (oi := ({ dst := some 136, op := Op.move (Operand.tmp 135), type := 4, pos := "more.go:35", after := #[{ on := 25, ground := Ground.data }, { on := 22, ground := Ground.chain }], guard := none } : Oper)) (v := ?_) rfl (by kernel_rfl) (by kernel_rfl) (by kernel_rfl) (fun _ _ _ h => h) (Or.inl ⟨by rfl, ?_⟩) (by assumption) ?_
                rotate_left
                · (intro w hSw; (try dsimp only at hSw); go_simp; try with_reducible rfl)
                (try simp only [Act.put, List.setIfInBounds_toArray, List.set_cons_zero, List.set_cons_succ])
                refine wpAnyH_take (i := 27) (oi := ({ dst := some 137, op := Op.load 28 (Operand.tmp 8), type := 28, pos := "more.go:35", after := #[{ on := 26, ground := Ground.guard }], guard := some (26, false) } : Oper)) (v := ?_) rfl (by kernel_rfl) (by kernel_rfl) (by kernel_rfl) (fun _ _ _ h => h) (Or.inl ⟨by rfl, ?_⟩) (by assumption) ?_
                rotate_left
                · (intro w hSw; (try dsimp only at hSw); go_simp; try with_reducible rfl)
                (try simp only [Act.put, List.setIfInBounds_toArray, List.set_cons_zero, List.set_cons_succ])
                refine wpAnyH_take (i := 28) (oi := ({ dst := some 138, op := Op.load 28 (Operand.tmp 10), type := 28, pos := "more.go:35", after := #[{ on := 26, ground := Ground.guard }], guard := some (26, false) } : Oper)) (v := ?_) rfl (by kernel_rfl) (by kernel_rfl) (by kernel_rfl) (fun _ _ _ h => h) (Or.inl ⟨by rfl, ?_⟩) (by assumption) ?_
                rotate_left
                · (intro w hSw; (try dsimp only at hSw); go_simp; try with_reducible rfl)
                (try simp only [Act.put, List.setIfInBounds_toArray, List.set_cons_zero, List.set_cons_succ])
                refine wpAnyH_take (i := 30) (oi := ({ dst := some 140, op := Op.load 28 (Operand.tmp 9), type := 28, pos := "more.go:35", after := #[{ on := 26, ground := Ground.guard }], guard := some (26, false) } : Oper)) (v := ?_) rfl (by kernel_rfl) (by kernel_rfl) (by kernel_rfl) (fun _ _ _ h => h) (Or.inl ⟨by rfl, ?_⟩) (by assumption) ?_
                rotate_left
                · (intro w hSw; (try dsimp only at hSw); go_simp; try with_reducible rfl)
                (try simp only [Act.put, List.setIfInBounds_toArray, List.set_cons_zero, List.set_cons_succ])
                refine wpAnyH_take (i := 31) (oi := ({ dst := some 141, op := Op.load 28 (Operand.tmp 10), type := 28, pos := "more.go:35", after := #[{ on := 26, ground := Ground.guard }], guard := some (26, false) } : Oper)) (v := ?_) rfl (by kernel_rfl) (by kernel_rfl) (by kernel_rfl) (fun _ _ _ h => h) (Or.inl ⟨by rfl, ?_⟩) (by assumption) ?_
                rotate_left
                · (intro w hSw; (try dsimp only at hSw); go_simp; try with_reducible rfl)
                (try simp only [Act.put, List.setIfInBounds_toArray, List.set_cons_zero, List.set_cons_succ])
                refine wpAnyH_take (i := 34) (oi := ({ dst := some 144, op := Op.load 28 (Operand.tmp 8), type := 28, pos := "more.go:35", after := #[{ on := 26, ground := Ground.guard }], guard := some (26, false) } : Oper)) (v := ?_) rfl (by kernel_rfl) (by kernel_rfl) (by kernel_rfl) (fun _ _ _ h => h) (Or.inl ⟨by rfl, ?_⟩) (by assumption) ?_
                rotate_left
                · (intro w hSw; (try dsimp only at hSw); go_simp; try with_reducible rfl)
                (try simp only [Act.put, List.setIfInBounds_toArray, List.set_cons_zero, List.set_cons_succ])
                refine wpAnyH_take (i := 35) (oi := ({ dst := some 145, op := Op.load 28 (Operand.tmp 9), type := 28, pos := "more.go:35", after := #[{ on := 26, ground := Ground.guard }], guard := some (26, false) } : Oper)) (v := ?_) rfl (by kernel_rfl) (by kernel_rfl) (by kernel_rfl) (fun _ _ _ h => h) (Or.inl ⟨by rfl, ?_⟩) (by assumption) ?_
                rotate_left
                · (intro w hSw; (try dsimp only at hSw); go_simp; try with_reducible rfl)
                (try simp only [Act.put, List.setIfInBounds_toArray, List.set_cons_zero, List.set_cons_succ])
                refine wpAnyH_ready (rs := [29]) (by kernel_rfl) (by simp) ?_
                refine AllReadyH.cons (o := ({ dst := some 139, op := Op.call { callee := Callee.value (Operand.func 38), args := #[Operand.tmp 137, Operand.tmp 138], argTypes := #[28, 28] }, type := 28, pos := "more.go:35", after := #[{ on := 27, ground := Ground.data }, { on := 28, ground := Ground.data }, { on := 26, ground := Ground.chain }, { on := 26, ground := Ground.guard }], guard := some (26, false) } : Oper)) rfl (fun K hK => ?_) AllReadyH.nil
                go_simp
                refine (add_int _ sx sz bx bz m1 m3 k1 k3 zr zt (X) (Z) (IXc.out.below Xe13) (IZc.out.below Xe13) (by omega) (by omega)).mono ?_
                rintro e ve14 ⟨se14, ae14, ne14, ce14, ze14, rfl, ge14, pe14, ue14⟩
                have qe14 : ne14 ≤ 9 := (by omega)
                clear pe14
                have Re1px4 := Lib.hid ge14
                clear ge14
                have Xe14 : Below wc.heap.size wc ve14 := Xe13.trans (ue14.mono Xe13.size)
                have Ze14 := ue14.size
                refine hK.out _ _ ?_ (fun hHe14 => ?_)
                · exact HKPc.out _ Xe14
                clear hK K hHe13
                (try simp only [Act.put, List.setIfInBounds_toArray, List.set_cons_zero, List.set_cons_succ])
                refine wpAnyH_ready (rs := [32]) (by kernel_rfl) (by simp) ?_
                refine AllReadyH.cons (o := ({ dst := some 142, op := Op.call { callee := Callee.value (Operand.func 38), args := #[Operand.tmp 140, Operand.tmp 141], argTypes := #[28, 28] }, type := 28, pos := "more.go:35", after := #[{ on := 30, ground := Ground.data }, { on := 31, ground := Ground.data }, { on := 29, ground := Ground.chain }, { on := 26, ground := Ground.guard }], guard := some (26, false) } : Oper)) rfl (fun K hK => ?_) AllReadyH.nil
                go_simp
                refine (add_int _ sy sz by' bz m2 m3 k2 k3 zs zt (Y) (Z) (IYc.out.below Xe14) (IZc.out.below Xe14) (by omega) (by omega)).mono ?_
                rintro e ve15 ⟨se15, ae15, ne15, ce15, ze15, rfl, ge15, pe15, ue15⟩
                have qe15 : ne15 ≤ 9 := (by omega)
                clear pe15
                have Re1qx5 := Lib.hid ge15
                clear ge15
                have Xe15 : Below wc.heap.size wc ve15 := Xe14.trans (ue15.mono Xe14.size)
                have Ze15 := ue15.size
                have Re1px5 := Lib.hid (Re1px4.out.below ue15)
                clear Re1px4
                refine hK.out _ _ ?_ (fun hHe15 => ?_)
                · exact HKPc.out _ Xe15
                clear hK K hHe14
                (try simp only [Act.put, List.setIfInBounds_toArray, List.set_cons_zero, List.set_cons_succ])
                refine wpAnyH_ready (rs := [33]) (by kernel_rfl) (by simp) ?_
                refine AllReadyH.cons (o := ({ dst := some 143, op := Op.call { callee := Callee.value (Operand.func 32), args := #[Operand.tmp 139, Operand.tmp 142], argTypes := #[28, 28] }, type := 3, pos := "more.go:35", after := #[{ on := 29, ground := Ground.data }, { on := 32, ground := Ground.data }, { on := 32, ground := Ground.chain }, { on := 26, ground := Ground.guard }], guard := some (26, false) } : Oper)) rfl (fun K hK => ?_) AllReadyH.nil
                go_simp
                refine (cmp_eq _ se14 se15 ae14 ae15 ne14 ne15 ce14 ce15 ze14 ze15 ((X) + (Z)) ((Y) + (Z)) Re1px5.out Re1qx5.out HC6.out).mono ?_
                rintro e ve16 ⟨rfl, ue16⟩
                have Xe16 : Below wc.heap.size wc ve16 := Xe15.trans (ue16.mono Xe15.size)
                have Ze16 := ue16.size
                refine hK.out _ _ ?_ (fun hHe16 => ?_)
                · exact HKPc.out _ Xe16
                clear hK K hHe15
                (try simp only [Act.put, List.setIfInBounds_toArray, List.set_cons_zero, List.set_cons_succ])
                refine wpAnyH_ready (rs := [36]) (by kernel_rfl) (by simp) ?_
                refine AllReadyH.cons (o := ({ dst := some 146, op := Op.call { callee := Callee.value (Operand.func 32), args := #[Operand.tmp 144, Operand.tmp 145], argTypes := #[28, 28] }, type := 3, pos := "more.go:35", after := #[{ on := 34, ground := Ground.data }, { on := 35, ground := Ground.data }, { on := 33, ground := Ground.chain }, { on := 26, ground := Ground.guard }], guard := some (26, false) } : Oper)) rfl (fun K hK => ?_) AllReadyH.nil
                go_simp
                refine (cmp_eq _ sx sy bx by' m1 m2 k1 k2 zr zs (X) (Y) (IXc.out.below Xe16) (IYc.out.below Xe16) HC1.out).mono ?_
                rintro e ve17 ⟨rfl, ue17⟩
                have Xe17 : Below wc.heap.size wc ve17 := Xe16.trans (ue17.mono Xe16.size)
                have Ze17 := ue17.size
                refine hK.out _ _ ?_ (fun hHe17 => ?_)
                · exact HKPc.out _ Xe17
                clear hK K hHe16
                (try simp only [Act.put, List.setIfInBounds_toArray, List.set_cons_zero, List.set_cons_succ])
                refine wpAnyH_take (i := 37) (oi := ({ dst := some 147, op := Op.binOp BinOp.neq 3 (Operand.tmp 143) (Operand.tmp 146) 3, type := 4, pos := "more.go:35", after := #[{ on := 33, ground := Ground.data }, { on := 36, ground := Ground.data }, { on := 26, ground := Ground.guard }], guard := some (26, false) } : Oper)) (v := ?_) rfl (by kernel_rfl) (by kernel_rfl) (by kernel_rfl) (fun _ _ _ h => h) (Or.inl ⟨by rfl, ?_⟩) (by assumption) ?_
                rotate_left
                · (intro w hSw; (try dsimp only at hSw); go_simp; try with_reducible rfl)
                (try simp only [Act.put, List.setIfInBounds_toArray, List.set_cons_zero, List.set_cons_succ])
                refine wpAnyH_take (i := 38) (oi := ({ dst := some 148, op := Op.pick (Operand.tmp 136) (Operand.const (Value.bool true)) (Operand.tmp 147), type := 4, pos := "more.go:35", after := #[{ on := 26, ground := Ground.data }, { on := 37, ground := Ground.data }], guard := none } : Oper)) (v := ?_) rfl (by kernel_rfl) (by kernel_rfl) (by kernel_rfl) (fun _ _ _ h => h) (Or.inl ⟨by rfl, ?_⟩) (by assumption) ?_
                rotate_left
                · (intro w hSw; (try dsimp only at hSw); go_simp; try with_reducible rfl)
                (try simp only [Act.put, List.setIfInBounds_toArray, List.set_cons_zero, List.set_cons_succ])
                refine wpAnyH_take (i := 39) (oi := ({ dst := some 149, op := Op.move (Operand.tmp 148), type := 4, pos := "more.go:35", after := #[{ on := 38, ground := Ground.data }, { on := 36, ground := Ground.chain }], guard := none } : Oper)) (v := ?_) rfl (by kernel_rfl) (by kernel_rfl) (by kernel_rfl) (fun _ _ _ h => h) (Or.inl ⟨by rfl, ?_⟩) (by assumption) ?_
                rotate_left
                · (intro w hSw; (try dsimp only at hSw); go_simp; try with_reducible rfl)
                (try simp only [Act.put, List.setIfInBounds_toArray, List.set_cons_zero, List.set_cons_succ])
                refine wpAnyH_take (i := 40) (oi := ({ dst := some 150, op := Op.load 28 (Operand.tmp 10), type := 28, pos := "more.go:35", after := #[{ on := 39, ground := Ground.guard }], guard := some (39, false) } : Oper)) (v := ?_) rfl (by kernel_rfl) (by kernel_rfl) (by kernel_rfl) (fun _ _ _ h => h) (Or.inl ⟨by rfl, ?_⟩) (by assumption) ?_
                rotate_left
                · (intro w hSw; (try dsimp only at hSw); go_simp; try with_reducible rfl)
                (try simp only [Act.put, List.setIfInBounds_toArray, List.set_cons_zero, List.set_cons_succ])
                refine wpAnyH_ready (rs := [41]) (by kernel_rfl) (by simp) ?_
                refine AllReadyH.cons (o := ({ dst := some 151, op := Op.call { callee := Callee.value (Operand.func 22), args := #[Operand.tmp 150], argTypes := #[28] }, type := 3, pos := "more.go:35", after := #[{ on := 40, ground := Ground.data }, { on := 39, ground := Ground.chain }, { on := 39, ground := Ground.guard }], guard := some (39, false) } : Oper)) rfl (fun K hK => ?_) AllReadyH.nil
                go_simp
                refine (sign_eq _ sz bz m3 k3 zt (Z) (IZc.out.below Xe17) HC5.out).mono ?_
                rintro e ve18 ⟨rfl, ue18⟩
                have Xe18 : Below wc.heap.size wc ve18 := Xe17.trans (ue18.mono Xe17.size)
                have Ze18 := ue18.size
                refine hK.out _ _ ?_ (fun hHe18 => ?_)
                · exact HKPc.out _ Xe18
                clear hK K hHe17
                (try simp only [Act.put, List.setIfInBounds_toArray, List.set_cons_zero, List.set_cons_succ])
                refine wpAnyH_take (i := 42) (oi := ({ dst := some 152, op := Op.binOp BinOp.gtr 3 (Operand.tmp 151) (Operand.const (Value.int IntKind.i64 0)) 3, type := 4, pos := "more.go:35", after := #[{ on := 41, ground := Ground.data }, { on := 39, ground := Ground.guard }], guard := some (39, false) } : Oper)) (v := ?_) rfl (by kernel_rfl) (by kernel_rfl) (by kernel_rfl) (fun _ _ _ h => h) (Or.inl ⟨by rfl, ?_⟩) (by assumption) ?_
                rotate_left
                · (intro w hSw; (try dsimp only at hSw); go_simp; try with_reducible rfl)
                (try simp only [Act.put, List.setIfInBounds_toArray, List.set_cons_zero, List.set_cons_succ])
                refine wpAnyH_take (i := 43) (oi := ({ dst := some 153, op := Op.move (Operand.tmp 152), type := 4, pos := "more.go:35", after := #[{ on := 42, ground := Ground.data }, { on := 41, ground := Ground.chain }, { on := 39, ground := Ground.guard }], guard := some (39, false) } : Oper)) (v := ?_) rfl (by kernel_rfl) (by kernel_rfl) (by kernel_rfl) (fun _ _ _ h => h) (Or.inl ⟨by rfl, ?_⟩) (by assumption) ?_
                rotate_left
                · (intro w hSw; (try dsimp only at hSw); go_simp; try with_reducible rfl)
                (try simp only [Act.put, List.setIfInBounds_toArray, List.set_cons_zero, List.set_cons_succ])
                refine wpAnyH_take (i := 44) (oi := ({ dst := some 154, op := Op.load 28 (Operand.tmp 8), type := 28, pos := "more.go:35", after := #[{ on := 43, ground := Ground.guard }], guard := some (43, true) } : Oper)) (v := ?_) rfl (by kernel_rfl) (by kernel_rfl) (by kernel_rfl) (fun _ _ _ h => h) (Or.inl ⟨by rfl, ?_⟩) (by assumption) ?_
                rotate_left
                · (intro w hSw; (try dsimp only at hSw); go_simp; try with_reducible rfl)
                (try simp only [Act.put, List.setIfInBounds_toArray, List.set_cons_zero, List.set_cons_succ])
                refine wpAnyH_take (i := 45) (oi := ({ dst := some 155, op := Op.load 28 (Operand.tmp 10), type := 28, pos := "more.go:35", after := #[{ on := 43, ground := Ground.guard }], guard := some (43, true) } : Oper)) (v := ?_) rfl (by kernel_rfl) (by kernel_rfl) (by kernel_rfl) (fun _ _ _ h => h) (Or.inl ⟨by rfl, ?_⟩) (by assumption) ?_
                rotate_left
                · (intro w hSw; (try dsimp only at hSw); go_simp; try with_reducible rfl)
                (try simp only [Act.put, List.setIfInBounds_toArray, List.set_cons_zero, List.set_cons_succ])
                refine wpAnyH_take (i := 47) (oi := ({ dst := some 157, op := Op.load 28 (Operand.tmp 9), type := 28, pos := "more.go:35", after := #[{ on := 43, ground := Ground.guard }], guard := some (43, true) } : Oper)) (v := ?_) rfl (by kernel_rfl) (by kernel_rfl) (by kernel_rfl) (fun _ _ _ h => h) (Or.inl ⟨by rfl, ?_⟩) (by assumption) ?_
                rotate_left
                · (intro w hSw; (try dsimp only at hSw); go_simp; try with_reducible rfl)
                (try simp only [Act.put, List.setIfInBounds_toArray, List.set_cons_zero, List.set_cons_succ])
                refine wpAnyH_take (i := 48) (oi := ({ dst := some 158, op := Op.load 28 (Operand.tmp 10), type := 28, pos := "more.go:35", after := #[{ on := 43, ground := Ground.guard }], guard := some (43, true) } : Oper)) (v := ?_) rfl (by kernel_rfl) (by kernel_rfl) (by kernel_rfl) (fun _ _ _ h => h) (Or.inl ⟨by rfl, ?_⟩) (by assumption) ?_
                rotate_left
                · (intro w hSw; (try dsimp only at hSw); go_simp; try with_reducible rfl)
                (try simp only [Act.put, List.setIfInBounds_toArray, List.set_cons_zero, List.set_cons_succ])
                refine wpAnyH_take (i := 51) (oi := ({ dst := some 161, op := Op.load 28 (Operand.tmp 8), type := 28, pos := "more.go:35", after := #[{ on := 43, ground := Ground.guard }], guard := some (43, true) } : Oper)) (v := ?_) rfl (by kernel_rfl) (by kernel_rfl) (by kernel_rfl) (fun _ _ _ h => h) (Or.inl ⟨by rfl, ?_⟩) (by assumption) ?_
                rotate_left
                · (intro w hSw; (try dsimp only at hSw); go_simp; try with_reducible rfl)
                (try simp only [Act.put, List.setIfInBounds_toArray, List.set_cons_zero, List.set_cons_succ])
                refine wpAnyH_take (i := 52) (oi := ({ dst := some 162, op := Op.load 28 (Operand.tmp 9), type := 28, pos := "more.go:35", after := #[{ on := 43, ground := Ground.guard }], guard := some (43, true) } : Oper)) (v := ?_) rfl (by kernel_rfl) (by kernel_rfl) (by kernel_rfl) (fun _ _ _ h => h) (Or.inl ⟨by rfl, ?_⟩) (by assumption) ?_
                rotate_left
                · (intro w hSw; (try dsimp only at hSw); go_simp; try with_reducible rfl)
                (try simp only [Act.put, List.setIfInBounds_toArray, List.set_cons_zero, List.set_cons_succ])
                refine wpAnyH_ready (rs := [46]) (by kernel_rfl) (by simp) ?_
                refine AllReadyH.cons (o := ({ dst := some 156, op := Op.call { callee := Callee.value (Operand.func 42), args := #[Operand.tmp 154, Operand.tmp 155], argTypes := #[28, 28] }, type := 28, pos := "more.go:35", after := #[{ on := 44, ground := Ground.data }, { on := 45, ground := Ground.data }, { on := 43, ground := Ground.chain }, { on := 43, ground := Ground.guard }], guard := some (43, true) } : Oper)) rfl (fun K hK => ?_) AllReadyH.nil
                go_simp
                refine (mul_int _ sx sz bx bz m1 m3 k1 k3 zr zt (X) (Z) (IXc.out.below Xe18) (IZc.out.below Xe18) (by omega) (by omega)).mono ?_
                rintro e ve19 ⟨se19, ae19, ne19, ce19, ze19, rfl, ge19, pe19, ue19⟩
                have qe19 : ne19 ≤ 16 := (by omega)
                clear pe19
                have Re1rx9 := Lib.hid ge19
                clear ge19
                have Xe19 : Below wc.heap.size wc ve19 := Xe18.trans (ue19.mono Xe18.size)
                have Ze19 := ue19.size
                refine hK.out _ _ ?_ (fun hHe19 => ?_)
                · exact HKPc.out _ Xe19
                clear hK K hHe18
                (try simp only [Act.put, List.setIfInBounds_toArray, List.set_cons_zero, List.set_cons_succ])
                refine wpAnyH_ready (rs := [49]) (by kernel_rfl) (by simp) ?_
                refine AllReadyH.cons (o := ({ dst := some 159, op := Op.call { callee := Callee.value (Operand.func 42), args := #[Operand.tmp 157, Operand.tmp 158], argTypes := #[28, 28] }, type := 28, pos := "more.go:35", after := #[{ on := 47, ground := Ground.data }, { on := 48, ground := Ground.data }, { on := 46, ground := Ground.chain }, { on := 43, ground := Ground.guard }], guard := some (43, true) } : Oper)) rfl (fun K hK => ?_) AllReadyH.nil
                go_simp
                refine (mul_int _ sy sz by' bz m2 m3 k2 k3 zs zt (Y) (Z) (IYc.out.below Xe19) (IZc.out.below Xe19) (by omega) (by omega)).mono ?_
                rintro e ve110 ⟨se110, ae110, ne110, ce110, ze110, rfl, ge110, pe110, ue110⟩
                have qe110 : ne110 ≤ 16 := (by omega)
                clear pe110
                have Re1sx10 := Lib.hid ge110
                clear ge110
                have Xe110 : Below wc.heap.size wc ve110 := Xe19.trans (ue110.mono Xe19.size)
                have Ze110 := ue110.size
                have Re1rx10 := Lib.hid (Re1rx9.out.below ue110)
                clear Re1rx9
                refine hK.out _ _ ?_ (fun hHe110 => ?_)
                · exact HKPc.out _ Xe110
                clear hK K hHe19
                (try simp only [Act.put, List.setIfInBounds_toArray, List.set_cons_zero, List.set_cons_succ])
                refine wpAnyH_ready (rs := [50]) (by kernel_rfl) (by simp) ?_
                refine AllReadyH.cons (o := ({ dst := some 160, op := Op.call { callee := Callee.value (Operand.func 32), args := #[Operand.tmp 156, Operand.tmp 159], argTypes := #[28, 28] }, type := 3, pos := "more.go:35", after := #[{ on := 46, ground := Ground.data }, { on := 49, ground := Ground.data }, { on := 49, ground := Ground.chain }, { on := 43, ground := Ground.guard }], guard := some (43, true) } : Oper)) rfl (fun K hK => ?_) AllReadyH.nil
                go_simp
                refine (cmp_eq _ se19 se110 ae19 ae110 ne19 ne110 ce19 ce110 ze19 ze110 ((X) * (Z)) ((Y) * (Z)) Re1rx10.out Re1sx10.out (HC7.out hz)).mono ?_
                rintro e ve111 ⟨rfl, ue111⟩
                have Xe111 : Below wc.heap.size wc ve111 := Xe110.trans (ue111.mono Xe110.size)
                have Ze111 := ue111.size
                refine hK.out _ _ ?_ (fun hHe111 => ?_)
                · exact HKPc.out _ Xe111
                clear hK K hHe110
                (try simp only [Act.put, List.setIfInBounds_toArray, List.set_cons_zero, List.set_cons_succ])
                refine wpAnyH_ready (rs := [53]) (by kernel_rfl) (by simp) ?_
                refine AllReadyH.cons (o := ({ dst := some 163, op := Op.call { callee := Callee.value (Operand.func 32), args := #[Operand.tmp 161, Operand.tmp 162], argTypes := #[28, 28] }, type := 3, pos := "more.go:35", after := #[{ on := 51, ground := Ground.data }, { on := 52, ground := Ground.data }, { on := 50, ground := Ground.chain }, { on := 43, ground := Ground.guard }], guard := some (43, true) } : Oper)) rfl (fun K hK => ?_) AllReadyH.nil
                go_simp
                refine (cmp_eq _ sx sy bx by' m1 m2 k1 k2 zr zs (X) (Y) (IXc.out.below Xe111) (IYc.out.below Xe111) HC1.out).mono ?_
                rintro e ve112 ⟨rfl, ue112⟩
                have Xe112 : Below wc.heap.size wc ve112 := Xe111.trans (ue112.mono Xe111.size)
                have Ze112 := ue112.size
                refine hK.out _ _ ?_ (fun hHe112 => ?_)
                · exact HKPc.out _ Xe112
                clear hK K hHe111
                (try simp only [Act.put, List.setIfInBounds_toArray, List.set_cons_zero, List.set_cons_succ])
                refine wpAnyH_take (i := 54) (oi := ({ dst := some 164, op := Op.binOp BinOp.neq 3 (Operand.tmp 160) (Operand.tmp 163) 3, type := 4, pos := "more.go:35", after := #[{ on := 50, ground := Ground.data }, { on := 53, ground := Ground.data }, { on := 43, ground := Ground.guard }], guard := some (43, true) } : Oper)) (v := ?_) rfl (by kernel_rfl) (by kernel_rfl) (by kernel_rfl) (fun _ _ _ h => h) (Or.inl ⟨by rfl, ?_⟩) (by assumption) ?_
                rotate_left
                · (intro w hSw; (try dsimp only at hSw); go_simp; try with_reducible rfl)
                (try simp only [Act.put, List.setIfInBounds_toArray, List.set_cons_zero, List.set_cons_succ])
                refine wpAnyH_take (i := 55) (oi := ({ dst := some 165, op := Op.pick (Operand.tmp 153) (Operand.tmp 164) (Operand.const (Value.bool false)), type := 4, pos := "more.go:35", after := #[{ on := 43, ground := Ground.data }, { on := 54, ground := Ground.data }, { on := 39, ground := Ground.guard }], guard := some (39, false) } : Oper)) (v := ?_) rfl (by kernel_rfl) (by kernel_rfl) (by kernel_rfl) (fun _ _ _ h => h) (Or.inl ⟨by rfl, ?_⟩) (by assumption) ?_
                rotate_left
                · (intro w hSw; (try dsimp only at hSw); go_simp; try with_reducible rfl)
                (try simp only [Act.put, List.setIfInBounds_toArray, List.set_cons_zero, List.set_cons_succ])
                refine wpAnyH_take (i := 56) (oi := ({ dst := some 166, op := Op.pick (Operand.tmp 149) (Operand.const (Value.bool true)) (Operand.tmp 165), type := 4, pos := "more.go:35", after := #[{ on := 39, ground := Ground.data }, { on := 55, ground := Ground.data }], guard := none } : Oper)) (v := ?_) rfl (by kernel_rfl) (by kernel_rfl) (by kernel_rfl) (fun _ _ _ h => h) (Or.inl ⟨by rfl, ?_⟩) (by assumption) ?_
                rotate_left
                · (intro w hSw; (try dsimp only at hSw); go_simp; try with_reducible rfl)
                (try simp only [Act.put, List.setIfInBounds_toArray, List.set_cons_zero, List.set_cons_succ])
                refine wpAnyH_done (by kernel_rfl) ?_ _
                refine NoPanic.normal ?_
                go_wp2
                go_meet
                exact ⟨rfl, HKPc.out _ Xe112, HBWc.out.trans (Xe112.mono HBWc.out.size)⟩
            · have hdz : decide (0 < cE) = false := decide_eq_false hz
              as_aux_lemma =>
                refine wp_region_noPanic ?_
                refine wp_region_held_drew (S := fun w' => (w'.cell? ⟨b1, 0, none⟩ = some (.bool sx) ∧ w'.cell? ⟨b1, 1, none⟩ = some (.slice bx m1 k1) ∧ w'.cell? ⟨b2, 0, none⟩ = some (.bool sy) ∧ w'.cell? ⟨b2, 1, none⟩ = some (.slice by' m2 k2) ∧ w'.cell? ⟨b3, 0, none⟩ = some (.bool sz) ∧ w'.cell? ⟨b3, 1, none⟩ = some (.slice bz m3 k3))) (by kernel_rfl) ?_ (fun hHe20 => ?_)
                · exact HKPc.out _ (Below.refl _ _).drew
                refine wpAnyH_take (i := 0) (oi := ({ dst := some 110, op := Op.load 28 (Operand.tmp 8), type := 28, pos := "more.go:35", after := #[], guard := none } : Oper)) (v := ?_) rfl (by kernel_rfl) (by kernel_rfl) (by kernel_rfl) (fun _ _ _ h => h) (Or.inl ⟨by rfl, ?_⟩) (by assumption) ?_
                rotate_left
                · (intro w hSw; (try dsimp only at hSw); go_simp; try with_reducible rfl)
                (try simp only [Act.put, List.setIfInBounds_toArray, List.set_cons_zero, List.set_cons_succ])
                refine wpAnyH_take (i := 1) (oi := ({ dst := some 111, op := Op.load 28 (Operand.tmp 9), type := 28, pos := "more.go:35", after := #[], guard := none } : Oper)) (v := ?_) rfl (by kernel_rfl) (by kernel_rfl) (by kernel_rfl) (fun _ _ _ h => h) (Or.inl ⟨by rfl, ?_⟩) (by assumption) ?_
                rotate_left
                · (intro w hSw; (try dsimp only at hSw); go_simp; try with_reducible rfl)
                (try simp only [Act.put, List.setIfInBounds_toArray, List.set_cons_zero, List.set_cons_succ])
                refine wpAnyH_take (i := 3) (oi := ({ dst := some 113, op := Op.load 28 (Operand.tmp 9), type := 28, pos := "more.go:35", after := #[], guard := none } : Oper)) (v := ?_) rfl (by kernel_rfl) (by kernel_rfl) (by kernel_rfl) (fun _ _ _ h => h) (Or.inl ⟨by rfl, ?_⟩) (by assumption) ?_
                rotate_left
                · (intro w hSw; (try dsimp only at hSw); go_simp; try with_reducible rfl)
                (try simp only [Act.put, List.setIfInBounds_toArray, List.set_cons_zero, List.set_cons_succ])
                refine wpAnyH_take (i := 4) (oi := ({ dst := some 114, op := Op.load 28 (Operand.tmp 8), type := 28, pos := "more.go:35", after := #[], guard := none } : Oper)) (v := ?_) rfl (by kernel_rfl) (by kernel_rfl) (by kernel_rfl) (fun _ _ _ h => h) (Or.inl ⟨by rfl, ?_⟩) (by assumption) ?_
                rotate_left
                · (intro w hSw; (try dsimp only at hSw); go_simp; try with_reducible rfl)
                (try simp only [Act.put, List.setIfInBounds_toArray, List.set_cons_zero, List.set_cons_succ])
                refine wpAnyH_ready (rs := [2]) (by kernel_rfl) (by simp) ?_
                refine AllReadyH.cons (o := ({ dst := some 112, op := Op.call { callee := Callee.value (Operand.func 32), args := #[Operand.tmp 110, Operand.tmp 111], argTypes := #[28, 28] }, type := 3, pos := "more.go:35", after := #[{ on := 0, ground := Ground.data }, { on := 1, ground := Ground.data }], guard := none } : Oper)) rfl (fun K hK => ?_) AllReadyH.nil
                go_simp
                refine (cmp_eq _ sx sy bx by' m1 m2 k1 k2 zr zs (X) (Y) (IXc.out.drew) (IYc.out.drew) HC1.out).mono ?_
                rintro e ve21 ⟨rfl, ue21⟩
                have Xe21 : Below wc.heap.size wc ve21 := Below.trans (by go_grown) (ue21.mono (by go_size))
                have Ze21 : wc.heap.size ≤ ve21.heap.size := Xe21.size
                refine hK.out _ _ ?_ (fun hHe21 => ?_)
                · exact HKPc.out _ Xe21
                clear hK K hHe20
                (try simp only [Act.put, List.setIfInBounds_toArray, List.set_cons_zero, List.set_cons_succ])
                refine wpAnyH_ready (rs := [5]) (by kernel_rfl) (by simp) ?_
                refine AllReadyH.cons (o := ({ dst := some 115, op := Op.call { callee := Callee.value (Operand.func 32), args := #[Operand.tmp 113, Operand.tmp 114], argTypes := #[28, 28] }, type := 3, pos := "more.go:35", after := #[{ on := 3, ground := Ground.data }, { on := 4, ground := Ground.data }, { on := 2, ground := Ground.chain }], guard := none } : Oper)) rfl (fun K hK => ?_) AllReadyH.nil
                go_simp
                refine (cmp_eq _ sy sx by' bx m2 m1 k2 k1 zs zr (Y) (X) (IYc.out.below Xe21) (IXc.out.below Xe21) HC2.out).mono ?_
                rintro e ve22 ⟨rfl, ue22⟩
                have Xe22 : Below wc.heap.size wc ve22 := Xe21.trans (ue22.mono Xe21.size)
                have Ze22 := ue22.size
                refine hK.out _ _ ?_ (fun hHe22 => ?_)
                · exact HKPc.out _ Xe22
                clear hK K hHe21
                (try simp only [Act.put, List.setIfInBounds_toArray, List.set_cons_zero, List.set_cons_succ])
                refine wpAnyH_take (i := 6) (oi := ({ dst := some 116, op := Op.unOp UnOp.neg 3 (Operand.tmp 115), type := 3, pos := "more.go:35", after := #[{ on := 5, ground := Ground.data }], guard := none } : Oper)) (v := ?_) rfl (by kernel_rfl) (by kernel_rfl) (by kernel_rfl) (fun _ _ _ h => h) (Or.inl ⟨by rfl, ?_⟩) (by assumption) ?_
                rotate_left
                · (intro w hSw; (try dsimp only at hSw); go_simp; try with_reducible rfl)
                (try simp only [Act.put, List.setIfInBounds_toArray, List.set_cons_zero, List.set_cons_succ])
                refine wpAnyH_take (i := 7) (oi := ({ dst := some 117, op := Op.binOp BinOp.neq 3 (Operand.tmp 112) (Operand.tmp 116) 3, type := 4, pos := "more.go:35", after := #[{ on := 2, ground := Ground.data }, { on := 6, ground := Ground.data }], guard := none } : Oper)) (v := ?_) rfl (by kernel_rfl) (by kernel_rfl) (by kernel_rfl) (fun _ _ _ h => h) (Or.inl ⟨by rfl, ?_⟩) (by assumption) ?_
                rotate_left
                · (intro w hSw; (try dsimp only at hSw); go_simp; try with_reducible rfl)
                (try simp only [Act.put, List.setIfInBounds_toArray, List.set_cons_zero, List.set_cons_succ])
                refine wpAnyH_take (i := 8) (oi := ({ dst := some 118, op := Op.move (Operand.tmp 117), type := 4, pos := "more.go:35", after := #[{ on := 7, ground := Ground.data }, { on := 5, ground := Ground.chain }], guard := none } : Oper)) (v := ?_) rfl (by kernel_rfl) (by kernel_rfl) (by kernel_rfl) (fun _ _ _ h => h) (Or.inl ⟨by rfl, ?_⟩) (by assumption) ?_
                rotate_left
                · (intro w hSw; (try dsimp only at hSw); go_simp; try with_reducible rfl)
                (try simp only [Act.put, List.setIfInBounds_toArray, List.set_cons_zero, List.set_cons_succ])
                refine wpAnyH_take (i := 9) (oi := ({ dst := some 119, op := Op.load 28 (Operand.tmp 8), type := 28, pos := "more.go:35", after := #[{ on := 8, ground := Ground.guard }], guard := some (8, false) } : Oper)) (v := ?_) rfl (by kernel_rfl) (by kernel_rfl) (by kernel_rfl) (fun _ _ _ h => h) (Or.inl ⟨by rfl, ?_⟩) (by assumption) ?_
                rotate_left
                · (intro w hSw; (try dsimp only at hSw); go_simp; try with_reducible rfl)
                (try simp only [Act.put, List.setIfInBounds_toArray, List.set_cons_zero, List.set_cons_succ])
                refine wpAnyH_take (i := 10) (oi := ({ dst := some 120, op := Op.load 28 (Operand.tmp 9), type := 28, pos := "more.go:35", after := #[{ on := 8, ground := Ground.guard }], guard := some (8, false) } : Oper)) (v := ?_) rfl (by kernel_rfl) (by kernel_rfl) (by kernel_rfl) (fun _ _ _ h => h) (Or.inl ⟨by rfl, ?_⟩) (by assumption) ?_
                rotate_left
                · (intro w hSw; (try dsimp only at hSw); go_simp; try with_reducible rfl)
                (try simp only [Act.put, List.setIfInBounds_toArray, List.set_cons_zero, List.set_cons_succ])
                refine wpAnyH_ready (rs := [11]) (by kernel_rfl) (by simp) ?_
                refine AllReadyH.cons (o := ({ dst := some 121, op := Op.call { callee := Callee.value (Operand.func 32), args := #[Operand.tmp 119, Operand.tmp 120], argTypes := #[28, 28] }, type := 3, pos := "more.go:35", after := #[{ on := 9, ground := Ground.data }, { on := 10, ground := Ground.data }, { on := 8, ground := Ground.chain }, { on := 8, ground := Ground.guard }], guard := some (8, false) } : Oper)) rfl (fun K hK => ?_) AllReadyH.nil
                go_simp
                refine (cmp_eq _ sx sy bx by' m1 m2 k1 k2 zr zs (X) (Y) (IXc.out.below Xe22) (IYc.out.below Xe22) HC1.out).mono ?_
                rintro e ve23 ⟨rfl, ue23⟩
                have Xe23 : Below wc.heap.size wc ve23 := Xe22.trans (ue23.mono Xe22.size)
                have Ze23 := ue23.size
                refine hK.out _ _ ?_ (fun hHe23 => ?_)
                · exact HKPc.out _ Xe23
                clear hK K hHe22
                (try simp only [Act.put, List.setIfInBounds_toArray, List.set_cons_zero, List.set_cons_succ])
                refine wpAnyH_take (i := 12) (oi := ({ dst := some 122, op := Op.binOp BinOp.leq 3 (Operand.tmp 121) (Operand.const (Value.int IntKind.i64 0)) 3, type := 4, pos := "more.go:35", after := #[{ on := 11, ground := Ground.data }, { on := 8, ground := Ground.guard }], guard := some (8, false) } : Oper)) (v := ?_) rfl (by kernel_rfl) (by kernel_rfl) (by kernel_rfl) (fun _ _ _ h => h) (Or.inl ⟨by rfl, ?_⟩) (by assumption) ?_
                rotate_left
                · (intro w hSw; (try dsimp only at hSw); go_simp; try with_reducible rfl)
                (try simp only [Act.put, List.setIfInBounds_toArray, List.set_cons_zero, List.set_cons_succ])
                refine wpAnyH_take (i := 13) (oi := ({ dst := some 123, op := Op.move (Operand.tmp 122), type := 4, pos := "more.go:35", after := #[{ on := 12, ground := Ground.data }, { on := 11, ground := Ground.chain }, { on := 8, ground := Ground.guard }], guard := some (8, false) } : Oper)) (v := ?_) rfl (by kernel_rfl) (by kernel_rfl) (by kernel_rfl) (fun _ _ _ h => h) (Or.inl ⟨by rfl, ?_⟩) (by assumption) ?_
                rotate_left
                · (intro w hSw; (try dsimp only at hSw); go_simp; try with_reducible rfl)
                (try simp only [Act.put, List.setIfInBounds_toArray, List.set_cons_zero, List.set_cons_succ])
                refine wpAnyH_take (i := 14) (oi := ({ dst := some 124, op := Op.load 28 (Operand.tmp 9), type := 28, pos := "more.go:35", after := #[{ on := 13, ground := Ground.guard }], guard := some (13, true) } : Oper)) (v := undef) rfl (by kernel_rfl) (by kernel_rfl) (by kernel_rfl) (fun _ _ _ h => h) (Or.inr ⟨by rfl, rfl⟩) (by assumption) ?_
                (try simp only [Act.put, List.setIfInBounds_toArray, List.set_cons_zero, List.set_cons_succ])
                refine wpAnyH_take (i := 15) (oi := ({ dst := some 125, op := Op.load 28 (Operand.tmp 10), type := 28, pos := "more.go:35", after := #[{ on := 13, ground := Ground.guard }], guard := some (13, true) } : Oper)) (v := undef) rfl (by kernel_rfl) (by kernel_rfl) (by kernel_rfl) (fun _ _ _ h => h) (Or.inr ⟨by rfl, rfl⟩) (by assumption) ?_
                (try simp only [Act.put, List.setIfInBounds_toArray, List.set_cons_zero, List.set_cons_succ])
                refine wpAnyH_take (i := 16) (oi := ({ dst := some 126, op := Op.call { callee := Callee.value (Operand.func 32), args := #[Operand.tmp 124, Operand.tmp 125], argTypes := #[28, 28] }, type := 3, pos := "more.go:35", after := #[{ on := 14, ground := Ground.data }, { on := 15, ground := Ground.data }, { on := 13, ground := Ground.chain }, { on := 13, ground := Ground.guard }], guard := some (13, true) } : Oper)) (v := undef) rfl (by kernel_rfl) (by kernel_rfl) (by kernel_rfl) (fun _ _ _ h => h) (Or.inr ⟨by rfl, rfl⟩) (by assumption) ?_
                (try simp only [Act.put, List.setIfInBounds_toArray, List.set_cons_zero, List.set_cons_succ])
                refine wpAnyH_take (i := 17) (oi := ({ dst := some 127, op := Op.binOp BinOp.leq 3 (Operand.tmp 126) (Operand.const (Value.int IntKind.i64 0)) 3, type := 4, pos := "more.go:35", after := #[{ on := 16, ground := Ground.data }, { on := 13, ground := Ground.guard }], guard := some (13, true) } : Oper)) (v := undef) rfl (by kernel_rfl) (by kernel_rfl) (by kernel_rfl) (fun _ _ _ h => h) (Or.inr ⟨by rfl, rfl⟩) (by assumption) ?_
                (try simp only [Act.put, List.setIfInBounds_toArray, List.set_cons_zero, List.set_cons_succ])
                refine wpAnyH_take (i := 18) (oi := ({ dst := some 128, op := Op.pick (Operand.tmp 123) (Operand.tmp 127) (Operand.const (Value.bool false)), type := 4, pos := "more.go:35", after := #[{ on := 13, ground := Ground.data }, { on := 17, ground := Ground.data }, { on := 8, ground := Ground.guard }], guard := some (8, false) } : Oper)) (v := ?_) rfl (by kernel_rfl) (by kernel_rfl) (by kernel_rfl) (fun _ _ _ h => h) (Or.inl ⟨by rfl, ?_⟩) (by assumption) ?_
                rotate_left
                · (intro w hSw; (try dsimp only at hSw); go_simp; try with_reducible rfl)
                (try simp only [Act.put, List.setIfInBounds_toArray, List.set_cons_zero, List.set_cons_succ])
                refine wpAnyH_take (i := 19) (oi := ({ dst := some 129, op := Op.move (Operand.tmp 128), type := 4, pos := "more.go:35", after := #[{ on := 18, ground := Ground.data }, { on := 16, ground := Ground.chain }, { on := 8, ground := Ground.guard }], guard := some (8, false) } : Oper)) (v := ?_) rfl (by kernel_rfl) (by kernel_rfl) (by kernel_rfl) (fun _ _ _ h => h) (Or.inl ⟨by rfl, ?_⟩) (by assumption) ?_
                rotate_left
                · (intro w hSw; (try dsimp only at hSw); go_simp; try with_reducible rfl)
                (try simp only [Act.put, List.setIfInBounds_toArray, List.set_cons_zero, List.set_cons_succ])
                refine wpAnyH_take (i := 20) (oi := ({ dst := some 130, op := Op.load 28 (Operand.tmp 8), type := 28, pos := "more.go:35", after := #[{ on := 19, ground := Ground.guard }], guard := some (19, true) } : Oper)) (v := undef) rfl (by kernel_rfl) (by kernel_rfl) (by kernel_rfl) (fun _ _ _ h => h) (Or.inr ⟨by rfl, rfl⟩) (by assumption) ?_
                (try simp only [Act.put, List.setIfInBounds_toArray, List.set_cons_zero, List.set_cons_succ])
                refine wpAnyH_take (i := 21) (oi := ({ dst := some 131, op := Op.load 28 (Operand.tmp 10), type := 28, pos := "more.go:35", after := #[{ on := 19, ground := Ground.guard }], guard := some (19, true) } : Oper)) (v := undef) rfl (by kernel_rfl) (by kernel_rfl) (by kernel_rfl) (fun _ _ _ h => h) (Or.inr ⟨by rfl, rfl⟩) (by assumption) ?_
                (try simp only [Act.put, List.setIfInBounds_toArray, List.set_cons_zero, List.set_cons_succ])
                refine wpAnyH_take (i := 22) (oi := ({ dst := some 132, op := Op.call { callee := Callee.value (Operand.func 32), args := #[Operand.tmp 130, Operand.tmp 131], argTypes := #[28, 28] }, type := 3, pos := "more.go:35", after := #[{ on := 20, ground := Ground.data }, { on := 21, ground := Ground.data }, { on := 19, ground := Ground.chain }, { on := 19, ground := Ground.guard }], guard := some (19, true) } : Oper)) (v := undef) rfl (by kernel_rfl) (by kernel_rfl) (by kernel_rfl) (fun _ _ _ h => h) (Or.inr ⟨by rfl, rfl⟩) (by assumption) ?_
                (try simp only [Act.put, List.setIfInBounds_toArray, List.set_cons_zero, List.set_cons_succ])
                refine wpAnyH_take (i := 23) (oi := ({ dst := some 133, op := Op.binOp BinOp.gtr 3 (Operand.tmp 132) (Operand.const (Value.int IntKind.i64 0)) 3, type := 4, pos := "more.go:35", after := #[{ on := 22, ground := Ground.data }, { on := 19, ground := Ground.guard }], guard := some (19, true) } : Oper)) (v := undef) rfl (by kernel_rfl) (by kernel_rfl) (by kernel_rfl) (fun _ _ _ h => h) (Or.inr ⟨by rfl, rfl⟩) (by assumption) ?_
                (try simp only [Act.put, List.setIfInBounds_toArray, List.set_cons_zero, List.set_cons_succ])
                refine wpAnyH_take (i := 24) (oi := ({ dst := some 134, op := Op.pick (Operand.tmp 129) (Operand.tmp 133) (Operand.const (Value.bool false)), type := 4, pos := "more.go:35", after := #[{ on := 19, ground := Ground.data }, { on := 23, ground := Ground.data }, { on := 8, ground := Ground.guard }], guard := some (8, false) } : Oper)) (v := ?_) rfl (by kernel_rfl) (by kernel_rfl) (by kernel_rfl) (fun _ _ _ h => h) (Or.inl ⟨by rfl, ?_⟩) (by assumption) ?_
                rotate_left
                · (intro w hSw; (try dsimp only at hSw); go_simp; try with_reducible rfl)
                (try simp only [Act.put, List.setIfInBounds_toArray, List.set_cons_zero, List.set_cons_succ])
                refine wpAnyH_take (i := 25) (oi := ({ dst := some 135, op := Op.pick (Operand.tmp 118) (Operand.const (Value.bool true)) (Operand.tmp 134), type := 4, pos := "more.go:35", after := #[{ on := 8, ground := Ground.data }, { on := 24, ground := Ground.data }], guard := none } : Oper)) (v := ?_) rfl (by kernel_rfl) (by kernel_rfl) (by kernel_rfl) (fun _ _ _ h => h) (Or.inl ⟨by rfl, ?_⟩) (by assumption) ?_
                rotate_left
                · (intro w hSw; (try dsimp only at hSw); go_simp; try with_reducible rfl)
                (try simp only [Act.put, List.setIfInBounds_toArray, List.set_cons_zero, List.set_cons_succ])
                refine wpAnyH_take (i := 26) (oi := ({ dst := some 136, op := Op.move (Operand.tmp 135), type := 4, pos := "more.go:35", after := #[{ on := 25, ground := Ground.data }, { on := 22, ground := Ground.chain }], guard := none } : Oper)) (v := ?_) rfl (by kernel_rfl) (by kernel_rfl) (by kernel_rfl) (fun _ _ _ h => h) (Or.inl ⟨by rfl, ?_⟩) (by assumption) ?_
                rotate_left
                · (intro w hSw; (try dsimp only at hSw); go_simp; try with_reducible rfl)
                (try simp only [Act.put, List.setIfInBounds_toArray, List.set_cons_zero, List.set_cons_succ])
                refine wpAnyH_take (i := 27) (oi := ({ dst := some 137, op := Op.load 28 (Operand.tmp 8), type := 28, pos := "more.go:35", after := #[{ on := 26, ground := Ground.guard }], guard := some (26, false) } : Oper)) (v := ?_) rfl (by kernel_rfl) (by kernel_rfl) (by kernel_rfl) (fun _ _ _ h => h) (Or.inl ⟨by rfl, ?_⟩) (by assumption) ?_
                rotate_left
                · (intro w hSw; (try dsimp only at hSw); go_simp; try with_reducible rfl)
                (try simp only [Act.put, List.setIfInBounds_toArray, List.set_cons_zero, List.set_cons_succ])
                refine wpAnyH_take (i := 28) (oi := ({ dst := some 138, op := Op.load 28 (Operand.tmp 10), type := 28, pos := "more.go:35", after := #[{ on := 26, ground := Ground.guard }], guard := some (26, false) } : Oper)) (v := ?_) rfl (by kernel_rfl) (by kernel_rfl) (by kernel_rfl) (fun _ _ _ h => h) (Or.inl ⟨by rfl, ?_⟩) (by assumption) ?_
                rotate_left
                · (intro w hSw; (try dsimp only at hSw); go_simp; try with_reducible rfl)
                (try simp only [Act.put, List.setIfInBounds_toArray, List.set_cons_zero, List.set_cons_succ])
                refine wpAnyH_take (i := 30) (oi := ({ dst := some 140, op := Op.load 28 (Operand.tmp 9), type := 28, pos := "more.go:35", after := #[{ on := 26, ground := Ground.guard }], guard := some (26, false) } : Oper)) (v := ?_) rfl (by kernel_rfl) (by kernel_rfl) (by kernel_rfl) (fun _ _ _ h => h) (Or.inl ⟨by rfl, ?_⟩) (by assumption) ?_
                rotate_left
                · (intro w hSw; (try dsimp only at hSw); go_simp; try with_reducible rfl)
                (try simp only [Act.put, List.setIfInBounds_toArray, List.set_cons_zero, List.set_cons_succ])
                refine wpAnyH_take (i := 31) (oi := ({ dst := some 141, op := Op.load 28 (Operand.tmp 10), type := 28, pos := "more.go:35", after := #[{ on := 26, ground := Ground.guard }], guard := some (26, false) } : Oper)) (v := ?_) rfl (by kernel_rfl) (by kernel_rfl) (by kernel_rfl) (fun _ _ _ h => h) (Or.inl ⟨by rfl, ?_⟩) (by assumption) ?_
                rotate_left
                · (intro w hSw; (try dsimp only at hSw); go_simp; try with_reducible rfl)
                (try simp only [Act.put, List.setIfInBounds_toArray, List.set_cons_zero, List.set_cons_succ])
                refine wpAnyH_take (i := 34) (oi := ({ dst := some 144, op := Op.load 28 (Operand.tmp 8), type := 28, pos := "more.go:35", after := #[{ on := 26, ground := Ground.guard }], guard := some (26, false) } : Oper)) (v := ?_) rfl (by kernel_rfl) (by kernel_rfl) (by kernel_rfl) (fun _ _ _ h => h) (Or.inl ⟨by rfl, ?_⟩) (by assumption) ?_
                rotate_left
                · (intro w hSw; (try dsimp only at hSw); go_simp; try with_reducible rfl)
                (try simp only [Act.put, List.setIfInBounds_toArray, List.set_cons_zero, List.set_cons_succ])
                refine wpAnyH_take (i := 35) (oi := ({ dst := some 145, op := Op.load 28 (Operand.tmp 9), type := 28, pos := "more.go:35", after := #[{ on := 26, ground := Ground.guard }], guard := some (26, false) } : Oper)) (v := ?_) rfl (by kernel_rfl) (by kernel_rfl) (by kernel_rfl) (fun _ _ _ h => h) (Or.inl ⟨by rfl, ?_⟩) (by assumption) ?_
                rotate_left
                · (intro w hSw; (try dsimp only at hSw); go_simp; try with_reducible rfl)
                (try simp only [Act.put, List.setIfInBounds_toArray, List.set_cons_zero, List.set_cons_succ])
                refine wpAnyH_ready (rs := [29]) (by kernel_rfl) (by simp) ?_
                refine AllReadyH.cons (o := ({ dst := some 139, op := Op.call { callee := Callee.value (Operand.func 38), args := #[Operand.tmp 137, Operand.tmp 138], argTypes := #[28, 28] }, type := 28, pos := "more.go:35", after := #[{ on := 27, ground := Ground.data }, { on := 28, ground := Ground.data }, { on := 26, ground := Ground.chain }, { on := 26, ground := Ground.guard }], guard := some (26, false) } : Oper)) rfl (fun K hK => ?_) AllReadyH.nil
                go_simp
                refine (add_int _ sx sz bx bz m1 m3 k1 k3 zr zt (X) (Z) (IXc.out.below Xe23) (IZc.out.below Xe23) (by omega) (by omega)).mono ?_
                rintro e ve24 ⟨se24, ae24, ne24, ce24, ze24, rfl, ge24, pe24, ue24⟩
                have qe24 : ne24 ≤ 9 := (by omega)
                clear pe24
                have Re2px4 := Lib.hid ge24
                clear ge24
                have Xe24 : Below wc.heap.size wc ve24 := Xe23.trans (ue24.mono Xe23.size)
                have Ze24 := ue24.size
                refine hK.out _ _ ?_ (fun hHe24 => ?_)
                · exact HKPc.out _ Xe24
                clear hK K hHe23
                (try simp only [Act.put, List.setIfInBounds_toArray, List.set_cons_zero, List.set_cons_succ])
                refine wpAnyH_ready (rs := [32]) (by kernel_rfl) (by simp) ?_
                refine AllReadyH.cons (o := ({ dst := some 142, op := Op.call { callee := Callee.value (Operand.func 38), args := #[Operand.tmp 140, Operand.tmp 141], argTypes := #[28, 28] }, type := 28, pos := "more.go:35", after := #[{ on := 30, ground := Ground.data }, { on := 31, ground := Ground.data }, { on := 29, ground := Ground.chain }, { on := 26, ground := Ground.guard }], guard := some (26, false) } : Oper)) rfl (fun K hK => ?_) AllReadyH.nil
                go_simp
                refine (add_int _ sy sz by' bz m2 m3 k2 k3 zs zt (Y) (Z) (IYc.out.below Xe24) (IZc.out.below Xe24) (by omega) (by omega)).mono ?_
                rintro e ve25 ⟨se25, ae25, ne25, ce25, ze25, rfl, ge25, pe25, ue25⟩
                have qe25 : ne25 ≤ 9 := (by omega)
                clear pe25
                have Re2qx5 := Lib.hid ge25
                clear ge25
                have Xe25 : Below wc.heap.size wc ve25 := Xe24.trans (ue25.mono Xe24.size)
                have Ze25 := ue25.size
                have Re2px5 := Lib.hid (Re2px4.out.below ue25)
                clear Re2px4
                refine hK.out _ _ ?_ (fun hHe25 => ?_)
                · exact HKPc.out _ Xe25
                clear hK K hHe24
                (try simp only [Act.put, List.setIfInBounds_toArray, List.set_cons_zero, List.set_cons_succ])
                refine wpAnyH_ready (rs := [33]) (by kernel_rfl) (by simp) ?_
                refine AllReadyH.cons (o := ({ dst := some 143, op := Op.call { callee := Callee.value (Operand.func 32), args := #[Operand.tmp 139, Operand.tmp 142], argTypes := #[28, 28] }, type := 3, pos := "more.go:35", after := #[{ on := 29, ground := Ground.data }, { on := 32, ground := Ground.data }, { on := 32, ground := Ground.chain }, { on := 26, ground := Ground.guard }], guard := some (26, false) } : Oper)) rfl (fun K hK => ?_) AllReadyH.nil
                go_simp
                refine (cmp_eq _ se24 se25 ae24 ae25 ne24 ne25 ce24 ce25 ze24 ze25 ((X) + (Z)) ((Y) + (Z)) Re2px5.out Re2qx5.out HC6.out).mono ?_
                rintro e ve26 ⟨rfl, ue26⟩
                have Xe26 : Below wc.heap.size wc ve26 := Xe25.trans (ue26.mono Xe25.size)
                have Ze26 := ue26.size
                refine hK.out _ _ ?_ (fun hHe26 => ?_)
                · exact HKPc.out _ Xe26
                clear hK K hHe25
                (try simp only [Act.put, List.setIfInBounds_toArray, List.set_cons_zero, List.set_cons_succ])
                refine wpAnyH_ready (rs := [36]) (by kernel_rfl) (by simp) ?_
                refine AllReadyH.cons (o := ({ dst := some 146, op := Op.call { callee := Callee.value (Operand.func 32), args := #[Operand.tmp 144, Operand.tmp 145], argTypes := #[28, 28] }, type := 3, pos := "more.go:35", after := #[{ on := 34, ground := Ground.data }, { on := 35, ground := Ground.data }, { on := 33, ground := Ground.chain }, { on := 26, ground := Ground.guard }], guard := some (26, false) } : Oper)) rfl (fun K hK => ?_) AllReadyH.nil
                go_simp
                refine (cmp_eq _ sx sy bx by' m1 m2 k1 k2 zr zs (X) (Y) (IXc.out.below Xe26) (IYc.out.below Xe26) HC1.out).mono ?_
                rintro e ve27 ⟨rfl, ue27⟩
                have Xe27 : Below wc.heap.size wc ve27 := Xe26.trans (ue27.mono Xe26.size)
                have Ze27 := ue27.size
                refine hK.out _ _ ?_ (fun hHe27 => ?_)
                · exact HKPc.out _ Xe27
                clear hK K hHe26
                (try simp only [Act.put, List.setIfInBounds_toArray, List.set_cons_zero, List.set_cons_succ])
                refine wpAnyH_take (i := 37) (oi := ({ dst := some 147, op := Op.binOp BinOp.neq 3 (Operand.tmp 143) (Operand.tmp 146) 3, type := 4, pos := "more.go:35", after := #[{ on := 33, ground := Ground.data }, { on := 36, ground := Ground.data }, { on := 26, ground := Ground.guard }], guard := some (26, false) } : Oper)) (v := ?_) rfl (by kernel_rfl) (by kernel_rfl) (by kernel_rfl) (fun _ _ _ h => h) (Or.inl ⟨by rfl, ?_⟩) (by assumption) ?_
                rotate_left
                · (intro w hSw; (try dsimp only at hSw); go_simp; try with_reducible rfl)
                (try simp only [Act.put, List.setIfInBounds_toArray, List.set_cons_zero, List.set_cons_succ])
                refine wpAnyH_take (i := 38) (oi := ({ dst := some 148, op := Op.pick (Operand.tmp 136) (Operand.const (Value.bool true)) (Operand.tmp 147), type := 4, pos := "more.go:35", after := #[{ on := 26, ground := Ground.data }, { on := 37, ground := Ground.data }], guard := none } : Oper)) (v := ?_) rfl (by kernel_rfl) (by kernel_rfl) (by kernel_rfl) (fun _ _ _ h => h) (Or.inl ⟨by rfl, ?_⟩) (by assumption) ?_
                rotate_left
                · (intro w hSw; (try dsimp only at hSw); go_simp; try with_reducible rfl)
                (try simp only [Act.put, List.setIfInBounds_toArray, List.set_cons_zero, List.set_cons_succ])
                refine wpAnyH_take (i := 39) (oi := ({ dst := some 149, op := Op.move (Operand.tmp 148), type := 4, pos := "more.go:35", after := #[{ on := 38, ground := Ground.data }, { on := 36, ground := Ground.chain }], guard := none } : Oper)) (v := ?_) rfl (by kernel_rfl) (by kernel_rfl) (by kernel_rfl) (fun _ _ _ h => h) (Or.inl ⟨by rfl, ?_⟩) (by assumption) ?_
                rotate_left
                · (intro w hSw; (try dsimp only at hSw); go_simp; try with_reducible rfl)
                (try simp only [Act.put, List.setIfInBounds_toArray, List.set_cons_zero, List.set_cons_succ])
                refine wpAnyH_take (i := 40) (oi := ({ dst := some 150, op := Op.load 28 (Operand.tmp 10), type := 28, pos := "more.go:35", after := #[{ on := 39, ground := Ground.guard }], guard := some (39, false) } : Oper)) (v := ?_) rfl (by kernel_rfl) (by kernel_rfl) (by kernel_rfl) (fun _ _ _ h => h) (Or.inl ⟨by rfl, ?_⟩) (by assumption) ?_
                rotate_left
                · (intro w hSw; (try dsimp only at hSw); go_simp; try with_reducible rfl)
                (try simp only [Act.put, List.setIfInBounds_toArray, List.set_cons_zero, List.set_cons_succ])
                refine wpAnyH_ready (rs := [41]) (by kernel_rfl) (by simp) ?_
                refine AllReadyH.cons (o := ({ dst := some 151, op := Op.call { callee := Callee.value (Operand.func 22), args := #[Operand.tmp 150], argTypes := #[28] }, type := 3, pos := "more.go:35", after := #[{ on := 40, ground := Ground.data }, { on := 39, ground := Ground.chain }, { on := 39, ground := Ground.guard }], guard := some (39, false) } : Oper)) rfl (fun K hK => ?_) AllReadyH.nil
                go_simp
                refine (sign_eq _ sz bz m3 k3 zt (Z) (IZc.out.below Xe27) HC5.out).mono ?_
                rintro e ve28 ⟨rfl, ue28⟩
                have Xe28 : Below wc.heap.size wc ve28 := Xe27.trans (ue28.mono Xe27.size)
                have Ze28 := ue28.size
                refine hK.out _ _ ?_ (fun hHe28 => ?_)
                · exact HKPc.out _ Xe28
                clear hK K hHe27
                (try simp only [Act.put, List.setIfInBounds_toArray, List.set_cons_zero, List.set_cons_succ])
                refine wpAnyH_take (i := 42) (oi := ({ dst := some 152, op := Op.binOp BinOp.gtr 3 (Operand.tmp 151) (Operand.const (Value.int IntKind.i64 0)) 3, type := 4, pos := "more.go:35", after := #[{ on := 41, ground := Ground.data }, { on := 39, ground := Ground.guard }], guard := some (39, false) } : Oper)) (v := ?_) rfl (by kernel_rfl) (by kernel_rfl) (by kernel_rfl) (fun _ _ _ h => h) (Or.inl ⟨by rfl, ?_⟩) (by assumption) ?_
                rotate_left
                · (intro w hSw; (try dsimp only at hSw); go_simp; try with_reducible rfl)
                (try simp only [Act.put, List.setIfInBounds_toArray, List.set_cons_zero, List.set_cons_succ])
                refine wpAnyH_take (i := 43) (oi := ({ dst := some 153, op := Op.move (Operand.tmp 152), type := 4, pos := "more.go:35", after := #[{ on := 42, ground := Ground.data }, { on := 41, ground := Ground.chain }, { on := 39, ground := Ground.guard }], guard := some (39, false) } : Oper)) (v := ?_) rfl (by kernel_rfl) (by kernel_rfl) (by kernel_rfl) (fun _ _ _ h => h) (Or.inl ⟨by rfl, ?_⟩) (by assumption) ?_
                rotate_left
                · (intro w hSw; (try dsimp only at hSw); go_simp; try with_reducible rfl)
                (try simp only [Act.put, List.setIfInBounds_toArray, List.set_cons_zero, List.set_cons_succ])
                refine wpAnyH_take (i := 44) (oi := ({ dst := some 154, op := Op.load 28 (Operand.tmp 8), type := 28, pos := "more.go:35", after := #[{ on := 43, ground := Ground.guard }], guard := some (43, true) } : Oper)) (v := undef) rfl (by kernel_rfl) (by kernel_rfl) (by kernel_rfl) (fun _ _ _ h => h) (Or.inr ⟨by rfl, rfl⟩) (by assumption) ?_
                (try simp only [Act.put, List.setIfInBounds_toArray, List.set_cons_zero, List.set_cons_succ])
                refine wpAnyH_take (i := 45) (oi := ({ dst := some 155, op := Op.load 28 (Operand.tmp 10), type := 28, pos := "more.go:35", after := #[{ on := 43, ground := Ground.guard }], guard := some (43, true) } : Oper)) (v := undef) rfl (by kernel_rfl) (by kernel_rfl) (by kernel_rfl) (fun _ _ _ h => h) (Or.inr ⟨by rfl, rfl⟩) (by assumption) ?_
                (try simp only [Act.put, List.setIfInBounds_toArray, List.set_cons_zero, List.set_cons_succ])
                refine wpAnyH_take (i := 46) (oi := ({ dst := some 156, op := Op.call { callee := Callee.value (Operand.func 42), args := #[Operand.tmp 154, Operand.tmp 155], argTypes := #[28, 28] }, type := 28, pos := "more.go:35", after := #[{ on := 44, ground := Ground.data }, { on := 45, ground := Ground.data }, { on := 43, ground := Ground.chain }, { on := 43, ground := Ground.guard }], guard := some (43, true) } : Oper)) (v := undef) rfl (by kernel_rfl) (by kernel_rfl) (by kernel_rfl) (fun _ _ _ h => h) (Or.inr ⟨by rfl, rfl⟩) (by assumption) ?_
                (try simp only [Act.put, List.setIfInBounds_toArray, List.set_cons_zero, List.set_cons_succ])
                refine wpAnyH_take (i := 47) (oi := ({ dst := some 157, op := Op.load 28 (Operand.tmp 9), type := 28, pos := "more.go:35", after := #[{ on := 43, ground := Ground.guard }], guard := some (43, true) } : Oper)) (v := undef) rfl (by kernel_rfl) (by kernel_rfl) (by kernel_rfl) (fun _ _ _ h => h) (Or.inr ⟨by rfl, rfl⟩) (by assumption) ?_
                (try simp only [Act.put, List.setIfInBounds_toArray, List.set_cons_zero, List.set_cons_succ])
                refine wpAnyH_take (i := 48) (oi := ({ dst := some 158, op := Op.load 28 (Operand.tmp 10), type := 28, pos := "more.go:35", after := #[{ on := 43, ground := Ground.guard }], guard := some (43, true) } : Oper)) (v := undef) rfl (by kernel_rfl) (by kernel_rfl) (by kernel_rfl) (fun _ _ _ h => h) (Or.inr ⟨by rfl, rfl⟩) (by assumption) ?_
                (try simp only [Act.put, List.setIfInBounds_toArray, List.set_cons_zero, List.set_cons_succ])
                refine wpAnyH_take (i := 49) (oi := ({ dst := some 159, op := Op.call { callee := Callee.value (Operand.func 42), args := #[Operand.tmp 157, Operand.tmp 158], argTypes := #[28, 28] }, type := 28, pos := "more.go:35", after := #[{ on := 47, ground := Ground.data }, { on := 48, ground := Ground.data }, { on := 46, ground := Ground.chain }, { on := 43, ground := Ground.guard }], guard := some (43, true) } : Oper)) (v := undef) rfl (by kernel_rfl) (by kernel_rfl) (by kernel_rfl) (fun _ _ _ h => h) (Or.inr ⟨by rfl, rfl⟩) (by assumption) ?_
                (try simp only [Act.put, List.setIfInBounds_toArray, List.set_cons_zero, List.set_cons_succ])
                refine wpAnyH_take (i := 50) (oi := ({ dst := some 160, op := Op.call { callee := Callee.value (Operand.func 32), args := #[Operand.tmp 156, Operand.tmp 159], argTypes := #[28, 28] }, type := 3, pos := "more.go:35", after := #[{ on := 46, ground := Ground.data }, { on := 49, ground := Ground.data }, { on := 49, ground := Ground.chain }, { on := 43, ground := Ground.guard }], guard := some (43, true) } : Oper)) (v := undef) rfl (by kernel_rfl) (by kernel_rfl) (by kernel_rfl) (fun _ _ _ h => h) (Or.inr ⟨by rfl, rfl⟩) (by assumption) ?_
                (try simp only [Act.put, List.setIfInBounds_toArray, List.set_cons_zero, List.set_cons_succ])
                refine wpAnyH_take (i := 51) (oi := ({ dst := some 161, op := Op.load 28 (Operand.tmp 8), type := 28, pos := "more.go:35", after := #[{ on := 43, ground := Ground.guard }], guard := some (43, true) } : Oper)) (v := undef) rfl (by kernel_rfl) (by kernel_rfl) (by kernel_rfl) (fun _ _ _ h => h) (Or.inr ⟨by rfl, rfl⟩) (by assumption) ?_
                (try simp only [Act.put, List.setIfInBounds_toArray, List.set_cons_zero, List.set_cons_succ])
                refine wpAnyH_take (i := 52) (oi := ({ dst := some 162, op := Op.load 28 (Operand.tmp 9), type := 28, pos := "more.go:35", after := #[{ on := 43, ground := Ground.guard }], guard := some (43, true) } : Oper)) (v := undef) rfl (by kernel_rfl) (by kernel_rfl) (by kernel_rfl) (fun _ _ _ h => h) (Or.inr ⟨by rfl, rfl⟩) (by assumption) ?_
                (try simp only [Act.put, List.setIfInBounds_toArray, List.set_cons_zero, List.set_cons_succ])
                refine wpAnyH_take (i := 53) (oi := ({ dst := some 163, op := Op.call { callee := Callee.value (Operand.func 32), args := #[Operand.tmp 161, Operand.tmp 162], argTypes := #[28, 28] }, type := 3, pos := "more.go:35", after := #[{ on := 51, ground := Ground.data }, { on := 52, ground := Ground.data }, { on := 50, ground := Ground.chain }, { on := 43, ground := Ground.guard }], guard := some (43, true) } : Oper)) (v := undef) rfl (by kernel_rfl) (by kernel_rfl) (by kernel_rfl) (fun _ _ _ h => h) (Or.inr ⟨by rfl, rfl⟩) (by assumption) ?_
                (try simp only [Act.put, List.setIfInBounds_toArray, List.set_cons_zero, List.set_cons_succ])
                refine wpAnyH_take (i := 54) (oi := ({ dst := some 164, op := Op.binOp BinOp.neq 3 (Operand.tmp 160) (Operand.tmp 163) 3, type := 4, pos := "more.go:35", after := #[{ on := 50, ground := Ground.data }, { on := 53, ground := Ground.data }, { on := 43, ground := Ground.guard }], guard := some (43, true) } : Oper)) (v := undef) rfl (by kernel_rfl) (by kernel_rfl) (by kernel_rfl) (fun _ _ _ h => h) (Or.inr ⟨by rfl, rfl⟩) (by assumption) ?_
                (try simp only [Act.put, List.setIfInBounds_toArray, List.set_cons_zero, List.set_cons_succ])
                refine wpAnyH_take (i := 55) (oi := ({ dst := some 165, op := Op.pick (Operand.tmp 153) (Operand.tmp 164) (Operand.const (Value.bool false)), type := 4, pos := "more.go:35", after := #[{ on := 43, ground := Ground.data }, { on := 54, ground := Ground.data }, { on := 39, ground := Ground.guard }], guard := some (39, false) } : Oper)) (v := ?_) rfl (by kernel_rfl) (by kernel_rfl) (by kernel_rfl) (fun _ _ _ h => h) (Or.inl ⟨by rfl, ?_⟩) (by assumption) ?_
                rotate_left
                · (intro w hSw; (try dsimp only at hSw); go_simp; try with_reducible rfl)
                (try simp only [Act.put, List.setIfInBounds_toArray, List.set_cons_zero, List.set_cons_succ])
                refine wpAnyH_take (i := 56) (oi := ({ dst := some 166, op := Op.pick (Operand.tmp 149) (Operand.const (Value.bool true)) (Operand.tmp 165), type := 4, pos := "more.go:35", after := #[{ on := 39, ground := Ground.data }, { on := 55, ground := Ground.data }], guard := none } : Oper)) (v := ?_) rfl (by kernel_rfl) (by kernel_rfl) (by kernel_rfl) (fun _ _ _ h => h) (Or.inl ⟨by rfl, ?_⟩) (by assumption) ?_
                rotate_left
                · (intro w hSw; (try dsimp only at hSw); go_simp; try with_reducible rfl)
                (try simp only [Act.put, List.setIfInBounds_toArray, List.set_cons_zero, List.set_cons_succ])
                refine wpAnyH_done (by kernel_rfl) ?_ _
                refine NoPanic.normal ?_
                go_wp2
                go_meet
                exact ⟨rfl, HKPc.out _ Xe28, HBWc.out.trans (Xe28.mono HBWc.out.size)⟩
        case rest =>
          obtain ⟨rfl, -, hbwd⟩ := hcut
          go_wp2_with fail
          refine (awake_any _).mono ?_
          rintro e w9 ⟨rfl, hb9⟩
          go_wp2_with fail
          go_ret
          exact ⟨rfl, HW.out.trans ((hbwd.trans (hb9.mono hbwd.size)).mono HW.out.size)⟩
end Go.Proofs.Ytihfokdehcdgdaa
