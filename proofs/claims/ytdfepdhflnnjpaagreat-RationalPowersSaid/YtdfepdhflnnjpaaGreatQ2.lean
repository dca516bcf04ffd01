/- Fractions in lowest terms are made. -/
import Derived.Test.YtdfepdhflnnjpaaGreatQA
import Derived.Test.YtdfepdhflnnjpaaGreatGcdN
import Derived.Test.YtdfepdhflnnjpaaGreatLongs
import Derived.Deep.DeepCutAuto
import Derived.Sort.AtCall
namespace Go.Proofs.YtdfepdhflnnjpaaGreat
open Go.RowKit
set_option autoImplicit false
set_option linter.unusedVariables false

/-- Two boxes with integers, and a third one for a fraction. -/
structure LowSt (w : World) (P : Nat) (N D : Int) (K : Nat) (wx : World) (nx : Bool) (ao : Option Addr) (n ca : Nat) (xs : List Int) (ny : Bool) (bo : Option Addr) (m cb : Nat) (ys : List Int) : Prop where
  r0 : wx.heap[P]? = some (.cells #[.bool nx, .slice ao n ca] 31 (0, 0))
  r1 : wx.heap[P + 1]? = some (.cells #[.bool ny, .slice bo m cb] 31 (0, 0))
  r2 : wx.heap[P + 1 + 1]? = some (.cells #[.bool false, .slice none 0 0, .bool false, .slice none 0 0] 38 (0, 0))
  ix : IntAt wx nx ao n ca xs N
  iy : IntAt wx ny bo m cb ys D
  hn : n ≤ K
  hm : m ≤ K
  hb : Below w.heap.size w wx
def LowEx (w : World) (P : Nat) (N D : Int) (K : Nat) (wx : World) : Prop := ∃ nx ao n ca xs ny bo m cb ys, LowSt w P N D K wx nx ao n ca xs ny bo m cb ys

theorem LowSt.below {w wx wy : World} {P K : Nat} {N D : Int} {nx : Bool} {ao : Option Addr} {n ca : Nat} {xs : List Int} {ny : Bool} {bo : Option Addr} {m cb : Nat} {ys : List Int} (h : LowSt w P N D K wx nx ao n ca xs ny bo m cb ys) (hb : Below wx.heap.size wx wy) : LowSt w P N D K wy nx ao n ca xs ny bo m cb ys :=
  ⟨(hb.block _ (Array.getElem?_eq_some_iff.1 h.r0).1).trans h.r0, (hb.block _ (Array.getElem?_eq_some_iff.1 h.r1).1).trans h.r1, (hb.block _ (Array.getElem?_eq_some_iff.1 h.r2).1).trans h.r2, h.ix.below hb, h.iy.below hb, h.hn, h.hm, h.hb.trans (hb.mono h.hb.size)⟩

theorem row_stored {w : World} {P : Nat} {a b u v : Value} {t : TypeId} (h : w.heap[P]? = some (.cells #[a, b] t (0, 0))) :
    ((w.setCell ⟨P, 0, none⟩ u).setCell ⟨P, 1, none⟩ v).heap[P]? = some (.cells #[u, v] t (0, 0)) := by
  have h1 := heap_setCell_same w P 0 _ t u h
  have h2 := heap_setCell_same _ P 1 _ t v h1
  simpa using h2

theorem LowSt.set0 {w wx : World} {P K : Nat} {N D N' : Int} {nx : Bool} {ao : Option Addr} {n ca : Nat} {xs : List Int} {ny : Bool} {bo : Option Addr} {m cb : Nat} {ys : List Int} (h : LowSt w P N D K wx nx ao n ca xs ny bo m cb ys) (hP : P = w.heap.size)
    {nz : Bool} {co : Option Addr} {k cc : Nat} {zs : List Int} (iz : IntAt wx nz co k cc zs N') (hk : k ≤ K) :
    LowSt w P N' D K ((wx.setCell ⟨P, 0, none⟩ (.bool nz)).setCell ⟨P, 1, none⟩ (.slice co k cc)) nz co k cc zs ny bo m cb ys :=
  ⟨row_stored h.r0, by rw [Below.heap_setCell _ _ _ _ (by dsimp only; omega), Below.heap_setCell _ _ _ _ (by dsimp only; omega)]; exact h.r1, by rw [Below.heap_setCell _ _ _ _ (by dsimp only; omega), Below.heap_setCell _ _ _ _ (by dsimp only; omega)]; exact h.r2,
    iz.stored h.r0 _ _, h.iy.stored h.r0 _ _, hk, h.hm, (h.hb.setCell (p := ⟨P, 0, none⟩) (by dsimp only; omega) _).setCell (p := ⟨P, 1, none⟩) (by dsimp only; omega) _⟩
theorem LowSt.set1 {w wx : World} {P K : Nat} {N D D' : Int} {nx : Bool} {ao : Option Addr} {n ca : Nat} {xs : List Int} {ny : Bool} {bo : Option Addr} {m cb : Nat} {ys : List Int} (h : LowSt w P N D K wx nx ao n ca xs ny bo m cb ys) (hP : P = w.heap.size)
    {nz : Bool} {co : Option Addr} {k cc : Nat} {zs : List Int} (iz : IntAt wx nz co k cc zs D') (hk : k ≤ K) :
    LowSt w P N D' K ((wx.setCell ⟨P + 1, 0, none⟩ (.bool nz)).setCell ⟨P + 1, 1, none⟩ (.slice co k cc)) nx ao n ca xs nz co k cc zs :=
  ⟨by rw [Below.heap_setCell _ _ _ _ (by dsimp only; omega), Below.heap_setCell _ _ _ _ (by dsimp only; omega)]; exact h.r0, row_stored h.r1, by rw [Below.heap_setCell _ _ _ _ (by dsimp only; omega), Below.heap_setCell _ _ _ _ (by dsimp only; omega)]; exact h.r2,
    h.ix.stored h.r1 _ _, iz.stored h.r1 _ _, h.hn, hk, (h.hb.setCell (p := ⟨P + 1, 0, none⟩) (by dsimp only; omega) _).setCell (p := ⟨P + 1, 1, none⟩) (by dsimp only; omega) _⟩

theorem blk4f {w : World} {B : Nat} {a b c d : Value} {t : TypeId} (h : w.heap[B]? = some (.cells #[a, b, c, d] t (0, 0))) :
    w.frozen? ⟨B, 0, none⟩ = false ∧ w.frozen? ⟨B, 1, none⟩ = false ∧ w.frozen? ⟨B, 2, none⟩ = false ∧ w.frozen? ⟨B, 3, none⟩ = false :=
  ⟨frozen_of_row w B 0 _ t h, frozen_of_row w B 1 _ t h, frozen_of_row w B 2 _ t h, frozen_of_row w B 3 _ t h⟩
theorem stored4 {w : World} {neg : Bool} {ao : Option Addr} {n cap : Nat} {zs : List Int} {x : Int} (h : IntAt w neg ao n cap zs x) {B : Nat} {a : Bool} {b : Option Addr} {c d : Nat} {a' : Bool} {b' : Option Addr} {c' d' : Nat} {t : TypeId}
    (hb : w.heap[B]? = some (.cells #[.bool a, .slice b c d, .bool a', .slice b' c' d'] t (0, 0))) (u1 u2 u3 u4 : Value) :
    IntAt ((((w.setCell ⟨B, 0, none⟩ u1).setCell ⟨B, 1, none⟩ u2).setCell ⟨B, 2, none⟩ u3).setCell ⟨B, 3, none⟩ u4) neg ao n cap zs x := by
  obtain ⟨h0, h1, h2, h3⟩ := blk4 hb
  refine (((h.setCell u1 ?_).setCell u2 ?_).setCell u3 ?_).setCell u4 ?_
  · rw [h0]; simp
  · intro z; rw [World.cell?_setCell_other _ _ _ _ (by simp), h1]; simp
  · intro z; rw [World.cell?_setCell_other _ _ _ _ (by simp), World.cell?_setCell_other _ _ _ _ (by simp), h2]; simp
  · intro z; rw [World.cell?_setCell_other _ _ _ _ (by simp), World.cell?_setCell_other _ _ _ _ (by simp), World.cell?_setCell_other _ _ _ _ (by simp), h3]; simp
theorem below4 {N : Nat} {w0 w : World} (h : Below N w0 w) {B : Nat} (hB : N ≤ B) (u1 u2 u3 u4 : Value) :
    Below N w0 ((((w.setCell ⟨B, 0, none⟩ u1).setCell ⟨B, 1, none⟩ u2).setCell ⟨B, 2, none⟩ u3).setCell ⟨B, 3, none⟩ u4) :=
  (((h.setCell (p := ⟨B, 0, none⟩) hB _).setCell (p := ⟨B, 1, none⟩) hB _).setCell (p := ⟨B, 2, none⟩) hB _).setCell (p := ⟨B, 3, none⟩) hB _

theorem LowSt.drew {w wx : World} {P K : Nat} {N D : Int} {nx : Bool} {ao : Option Addr} {n ca : Nat} {xs : List Int} {ny : Bool} {bo : Option Addr} {m cb : Nat} {ys : List Int} (h : LowSt w P N D K wx nx ao n ca xs ny bo m cb ys) : LowSt w P N D K wx.drew nx ao n ca xs ny bo m cb ys :=
  h.below (Below.refl _ _).drew

set_option maxRecDepth 100000 in
set_option maxHeartbeats 4000000 in
theorem lowest_any (w : World) (nx ny : Bool) (ao bo : Option Addr) (n m capa capb : Nat) (xs ys : List Int) (N D : Int) (hx : IntAt w nx ao n capa xs N) (hy : IntAt w ny bo m capb ys D) (hD : D ≠ 0) (K : Nat) (hn : n ≤ K) (hm : m ≤ K) (hK : K ≤ 100000) :
    Calls Tryz.prog 76 #[.agg #[.bool nx, .slice ao n capa], .agg #[.bool ny, .slice bo m capb]] w (RetRat w (qn N D) (qd N D) K K) := by
  have HX := Lib.hid hx
  have HY := Lib.hid hy
  obtain ⟨c, hc⟩ : ∃ c, cmpI D 0 = c := ⟨_, rfl⟩
  have HCD : Hid (c < 0 ↔ D < 0) := Lib.hid (by rw [← hc]; unfold cmpI; by_cases h1 : D < 0 <;> by_cases h2 : 0 < D <;> simp [h1, h2])
  obtain ⟨N', hN'⟩ : ∃ N', (if D < 0 then -N else N) = N' := ⟨_, rfl⟩
  obtain ⟨D', hD'⟩ : ∃ D', (if D < 0 then -D else D) = D' := ⟨_, rfl⟩
  have hgcd : Nat.gcd N.natAbs D.natAbs = Nat.gcd N'.natAbs D'.natAbs := by
    rw [← hN', ← hD']; split <;> simp
  have HQN : Hid (qn N D = N'.tdiv (Nat.gcd N'.natAbs D'.natAbs : Int)) := Lib.hid (by unfold qn; rw [hN', hgcd])
  have HQD : Hid (qd N D = D'.tdiv (Nat.gcd N'.natAbs D'.natAbs : Int)) := Lib.hid (by unfold qd; rw [hD', hgcd])
  have HLOW := Lib.hid (low_q (n := N) hD)
  have hDp : 0 < D' := by rw [← hD']; split <;> omega
  have HG0 := Lib.hid (gcd_pos (n := N') (d := D') (by omega))
  have HN' := Lib.hid hN'
  have HD' := Lib.hid hD'
  clear hx hy hD hN' hD' hgcd
  go_enter Tryz.func76, Tryz.ntmps76
  go_upto_region 1 with (fail)
  obtain ⟨w1, hw1⟩ : ∃ w1, w1 = ((w.alloc (.cells #[.bool nx, .slice ao n capa] 31)).alloc (.cells #[.bool ny, .slice bo m capb] 31)).alloc (.cells #[.bool false, .slice none 0 0, .bool false, .slice none 0 0] 38) := ⟨_, rfl⟩
  have hbw : Below w.heap.size w w1 := by rw [hw1]; exact (((Below.refl _ _).alloc (Nat.le_refl _) _).alloc (by simp) _).alloc (by simp; omega) _
  have r0 : w1.heap[w.heap.size]? = some (.cells #[.bool nx, .slice ao n capa] 31 (0, 0)) := by rw [hw1, heap_alloc_old _ _ (by simp; omega), heap_alloc_old _ _ (by simp)]; exact heap_alloc_new w _
  have r1 : w1.heap[w.heap.size + 1]? = some (.cells #[.bool ny, .slice bo m capb] 31 (0, 0)) := by
    rw [hw1, heap_alloc_old _ _ (by simp)]
    have := heap_alloc_new (w.alloc (.cells #[.bool nx, .slice ao n capa] 31)) (.cells #[.bool ny, .slice bo m capb] 31)
    simpa using this
  have r2 : w1.heap[w.heap.size + 1 + 1]? = some (.cells #[.bool false, .slice none 0 0, .bool false, .slice none 0 0] 38 (0, 0)) := by
    rw [hw1]
    have := heap_alloc_new ((w.alloc (.cells #[.bool nx, .slice ao n capa] 31)).alloc (.cells #[.bool ny, .slice bo m capb] 31)) (.cells #[.bool false, .slice none 0 0, .bool false, .slice none 0 0] 38)
    simpa using this
  rw [← hw1]
  clear hw1
  obtain ⟨P, hP⟩ : ∃ P, P = w.heap.size := ⟨_, rfl⟩
  rw [← hP] at r0 r1 r2 ⊢
  have HP := Lib.hid hP
  have ST := Lib.hid (show LowSt w P N D K w1 nx ao n capa xs ny bo m capb ys from ⟨r0, r1, r2, HX.out.below hbw, HY.out.below hbw, hn, hm, hbw⟩)
  clear r0 r1 r2 hbw hP HX HY
  obtain ⟨y0, y1, -, -⟩ := blk2 ST.out.r1
  go_upto_if 8 with (go_at_call 64; refine (sign_int _ _ _ _ _ _ D ST.out.iy).mono ?_; rintro e w2 ⟨rfl, b2⟩; rw [hc])
  replace ST := Lib.hid (ST.out.below b2)
  clear b2 y0 y1
  go_cut [] (fun wx => LowEx w P N' D' K wx)
  case first =>
    by_cases hneg : c < 0
    · obtain ⟨x0, x1, -, -⟩ := blk2 ST.out.r0
      obtain ⟨y0, y1, -, -⟩ := blk2 ST.out.r1
      go_wp2_with fail
      go_region_with (first | (go_at_call 62; have T := ub1; clear T; refine (neg_int _ _ _ _ _ _ D ST1.out.iy (by have := ST1.out.hm; omega)).mono ?_; rintro e wv2 ⟨s2, a2, m2, k2, z2, rfl, i2, g2, ub2⟩; have ST2 := Lib.hid (ST1.out.below ub2); have I1 := Lib.hid (i1.below ub2); have I2 := Lib.hid i2; clear i1 i2 e0 e1 ub2 ub1; obtain ⟨t0, t1, tf0, tf1⟩ := blk2 ST2.out.r0; obtain ⟨u0, u1, uf0, uf1⟩ := blk2 ST2.out.r1) | (go_at_call 62; refine (neg_int _ _ _ _ _ _ N ST.out.drew.ix (by have := ST.out.hn; omega)).mono ?_; rintro e wv1 ⟨s1, a1, m1, k1, z1, rfl, i1, g1, ub1⟩; have ST1 := Lib.hid (ST.out.drew.below ub1); obtain ⟨e0, e1, -, -⟩ := blk2 ST1.out.r1))
      all_goals
        go_wp2_with fail
        go_meet
        have h0 := ST2.out.set0 HP.out I1.out (by have := ST.out.hn; omega)
        have h9 := h0.set1 HP.out (I2.out.stored ST2.out.r0 _ _) (by have := ST.out.hm; omega)
        have hneg' := HCD.out.1 hneg
        have e1 := HN'.out
        have e2 := HD'.out
        rw [if_pos hneg'] at e1 e2
        rw [e1, e2] at h9
        exact ⟨_, _, _, _, _, _, _, _, _, _, h9⟩
    · have HNEG := Lib.hid hneg
      go_wp2_with fail
      go_meet
      have hneg' : ¬ c < 0 := by have := HNEG.out; omega
      have e1 : N = N' := by rw [← HN'.out, if_neg (fun h => absurd (HCD.out.2 h) hneg')]
      have e2 : D = D' := by rw [← HD'.out, if_neg (fun h => absurd (HCD.out.2 h) hneg')]
      rw [← e1, ← e2]
      exact ⟨_, _, _, _, _, _, _, _, _, _, ST.out⟩
  case rest =>
    clear ST HCD hc HN' HD' hn hm
    obtain ⟨kx, ko, kn, kc, ks, jx, jo, jn, jc, js, hst⟩ := hcut
    have ST := Lib.hid hst
    clear hst
    obtain ⟨G, hG⟩ : ∃ G : Nat, Nat.gcd N'.natAbs D'.natAbs = G := ⟨_, rfl⟩
    rw [hG] at HQN HQD HG0
    have HG := Lib.hid hG
    clear hG
    obtain ⟨x0, x1, -, -⟩ := blk2 ST.out.r0
    obtain ⟨y0, y1, -, -⟩ := blk2 ST.out.r1
    go_wp2_with fail
    refine (gcd_int _ _ _ _ _ _ _ _ _ _ _ N' D' ST.out.ix ST.out.iy K ST.out.hn ST.out.hm (by omega)).mono ?_
    rintro e wg ⟨sg, ag, mg, kg, zg, rfl, ig, gg, ub⟩
    rw [HG.out] at ig
    replace ST := Lib.hid (ST.out.below ub)
    have IG := Lib.hid ig
    clear ig ub x0 x1 y0 y1
    go_wp2_with fail
    obtain ⟨wa, hwa⟩ : ∃ wa, wa = wg.alloc (.cells #[.bool sg, .slice ag mg kg] 31) := ⟨_, rfl⟩
    have ba : Below wg.heap.size wg wa := by rw [hwa]; go_grown
    have rc : wa.heap[wg.heap.size]? = some (.cells #[.bool sg, .slice ag mg kg] 31 (0, 0)) := by rw [hwa]; exact heap_alloc_new wg _
    have hQP : P + 1 + 1 < wg.heap.size := (Array.getElem?_eq_some_iff.1 ST.out.r2).1
    rw [← hwa]
    clear hwa
    obtain ⟨Q, hQ⟩ : ∃ Q, Q = wg.heap.size := ⟨_, rfl⟩
    rw [← hQ] at rc hQP ⊢
    replace ST := Lib.hid (ST.out.below ba)
    replace IG := Lib.hid (IG.out.below ba)
    have lQ : Q < wa.heap.size := (Array.getElem?_eq_some_iff.1 rc).1
    obtain ⟨q0, q1, -, -⟩ := blk2 rc
    have RC := Lib.hid rc
    have HKQ : Hid (∀ w', Below wa.heap.size wa w' → (w'.cell? ⟨Q, 0, none⟩ = some (.bool sg) ∧ w'.cell? ⟨Q, 1, none⟩ = some (.slice ag mg kg))) := Lib.hid (fun w' hb => ⟨(hb.cell (p := ⟨Q, 0, none⟩) lQ).trans q0, (hb.cell (p := ⟨Q, 1, none⟩) lQ).trans q1⟩)
    clear hQ ba rc
    obtain ⟨c2, hc2⟩ : ∃ c, cmpI (G : Int) 1 = c := ⟨_, rfl⟩
    have HC2 := Lib.hid hc2
    clear hc2
    go_region_held3 (fun w' => w'.cell? ⟨Q, 0, none⟩ = some (.bool sg) ∧ w'.cell? ⟨Q, 1, none⟩ = some (.slice ag mg kg)) ((first | exact HKQ.out _ X2 | exact HKQ.out _ X1 | exact HKQ.out _ (Below.refl _ _).drew))
    (first | (go_at_call 63; have T2 := X1; clear T2; refine (cmp_int _ _ _ _ _ _ _ _ _ _ _ _ _ (IG.out.below X1) I5.out).mono ?_; rintro e v2 ⟨rfl, u2⟩; have X2 : Below wa.heap.size wa v2 := X1.trans (u2.mono X1.size); rw [HC2.out]) | (go_at_call 65; refine (new_int _ 1 (by omega) (by omega)).mono ?_; rintro e v1 ⟨s5, a5, m5, k5, z5, rfl, i5, g5, u1⟩; have X1 : Below wa.heap.size wa v1 := (Below.refl _ _).drew.trans u1; have I5 := Lib.hid i5; clear i5))
    replace ST := Lib.hid (ST.out.below X2)
    replace IG := Lib.hid (IG.out.below X2)
    have RQ := Lib.hid ((X2.block _ lQ).trans RC.out)
    clear HKQ X1 X2 u1 u2 q0 q1 I5 RC
    obtain ⟨x0, x1, xf0, xf1⟩ := blk2 ST.out.r0
    obtain ⟨y0, y1, yf0, yf1⟩ := blk2 ST.out.r1
    obtain ⟨p0, p1, p2, p3⟩ := blk4 ST.out.r2
    obtain ⟨pf0, pf1, pf2, pf3⟩ := blk4f ST.out.r2
    obtain ⟨q0, q1, -, -⟩ := blk2 RQ.out
    by_cases h1 : G = 1
    · have hcz : (c2 == 0) = true := by rw [← HC2.out, h1]; rfl
      subst h1
      have e1 : qn N D = N' := by rw [HQN.out]; simp
      have e2 : qd N D = D' := by rw [HQD.out]; simp
      have HL := HLOW.out
      rw [e1, e2] at HL
      have HLL := Lib.hid HL
      have E1 := Lib.hid e1
      have E2 := Lib.hid e2
      have HX := Lib.hid (stored4 ST.out.ix ST.out.r2 (.bool kx) (.slice ko kn kc) (.bool jx) (.slice jo jn jc))
      have HY := Lib.hid (stored4 ST.out.iy ST.out.r2 (.bool kx) (.slice ko kn kc) (.bool jx) (.slice jo jn jc))
      have HB := Lib.hid (below4 ST.out.hb (B := P + 1 + 1) (by have := HP.out; omega) (.bool kx) (.slice ko kn kc) (.bool jx) (.slice jo jn jc))
      have hn := ST.out.hn
      have hm := ST.out.hm
      clear HL e1 e2 HQN HQD HC2
      go_wp2_with fail
      refine bodyPost_ret (v := .agg #[.bool kx, .slice ko kn kc, .bool jx, .slice jo jn jc]) (by simp [results, Tryz.results76, go_sem, p0, p1, p2, p3]) rfl ?_
      rw [E1.out, E2.out]
      exact ⟨_, _, _, _, _, _, _, _, _, _, _, rfl, ⟨HX.out, HY.out, .inl rfl, HLL.out⟩, hn, hm, HB.out⟩
    · have hcz : (c2 == 0) = false := by
        rw [← HC2.out]; unfold cmpI
        have := HG0.out
        by_cases a1 : (G : Int) < 1
        · omega
        · rw [if_neg a1, if_pos (by omega)]; rfl
      have hG0 : (G : Int) ≠ 0 := by have := HG0.out; omega
      clear h1 HG0 HC2
      go_wp2_with fail
      have hkn := ST.out.hn
      have hjn := ST.out.hm
      refine (divide_int _ _ _ _ _ _ _ _ _ _ _ N' (G : Int) ST.out.ix IG.out hG0 (by omega)).mono ?_
      rintro e w4 ⟨s6, a6, m6, k6, z6, s7, a7, m7, k7, z7, rfl, i6, g6, -, -, ub⟩
      replace ST := Lib.hid (ST.out.below ub)
      replace IG := Lib.hid (IG.out.below ub)
      replace RQ := Lib.hid ((ub.block _ (Array.getElem?_eq_some_iff.1 RQ.out).1).trans RQ.out)
      have S5 := Lib.hid (ST.out.set0 HP.out i6 (by omega))
      have IG5 := Lib.hid (IG.out.stored ST.out.r0 (.bool s6) (.slice a6 m6 k6))
      have RQ5 := Lib.hid (show ((w4.setCell ⟨P, 0, none⟩ (.bool s6)).setCell ⟨P, 1, none⟩ (.slice a6 m6 k6)).heap[Q]? = some (.cells #[.bool sg, .slice ag mg kg] 31 (0, 0)) by rw [Below.heap_setCell _ _ _ _ (by dsimp only; omega), Below.heap_setCell _ _ _ _ (by dsimp only; omega)]; exact RQ.out)
      clear x0 x1 xf0 xf1 y0 y1 yf0 yf1 p0 p1 p2 p3 pf0 pf1 pf2 pf3 q0 q1 i6 ub
      obtain ⟨x0, x1, xf0, xf1⟩ := blk2 ST.out.r0
      obtain ⟨y0, y1, -, -⟩ := blk2 S5.out.r1
      obtain ⟨q0, q1, -, -⟩ := blk2 RQ5.out
      go_wp2_with fail
      refine (divide_int _ _ _ _ _ _ _ _ _ _ _ D' (G : Int) S5.out.iy IG5.out hG0 (by omega)).mono ?_
      rintro e w6 ⟨s8, a8, m8, k8, z8, s9, a9, m9, k9, z9, rfl, i8, g8, -, -, ub⟩
      have S6 := Lib.hid (S5.out.below ub)
      have S7 := Lib.hid (S6.out.set1 HP.out i8 (by omega))
      clear x0 x1 xf0 xf1 y0 y1 q0 q1 i8 ub IG IG5 RQ RQ5 ST S5
      obtain ⟨y0, y1, yf0, yf1⟩ := blk2 S6.out.r1
      obtain ⟨a0, a1, -, -⟩ := blk2 S7.out.r0
      obtain ⟨b0, b1, -, -⟩ := blk2 S7.out.r1
      obtain ⟨p0, p1, p2, p3⟩ := blk4 S7.out.r2
      obtain ⟨pf0, pf1, pf2, pf3⟩ := blk4f S7.out.r2
      have HX := Lib.hid (stored4 S7.out.ix S7.out.r2 (.bool s6) (.slice a6 m6 k6) (.bool s8) (.slice a8 m8 k8))
      have HY := Lib.hid (stored4 S7.out.iy S7.out.r2 (.bool s6) (.slice a6 m6 k6) (.bool s8) (.slice a8 m8 k8))
      have HB := Lib.hid (below4 S7.out.hb (B := P + 1 + 1) (by have := HP.out; omega) (.bool s6) (.slice a6 m6 k6) (.bool s8) (.slice a8 m8 k8))
      go_wp2_with fail
      refine bodyPost_ret (v := .agg #[.bool s6, .slice a6 m6 k6, .bool s8, .slice a8 m8 k8]) (by simp [results, Tryz.results76, go_sem, p0, p1, p2, p3]) rfl ?_
      have HL := HLOW.out
      rw [HQN.out, HQD.out] at HL ⊢
      exact ⟨_, _, _, _, _, _, _, _, _, _, _, rfl, ⟨HX.out, HY.out, .inl rfl, HL⟩, by omega, by omega, HB.out⟩

end Go.Proofs.YtdfepdhflnnjpaaGreat
