/- RPow, RPow2, RRoot in one text. -/
import Derived.Test.YtpakfknacmcohaaRShift
import Derived.Deep.DeepCutAuto
import Derived.Sort.AtCall
namespace Go.Proofs.Ytpakfknacmcohaa
open Go.RowKit
set_option autoImplicit false
set_option linter.unusedVariables false

theorem rpower_neg (w : World) (nx : Bool) (ao : Option Addr) (n cap : Nat) (k : Int) (hk : k < 0) :
    Calls Try.prog 47 #[.agg #[.bool nx, .slice ao n cap], .int .i64 k] w (RetZeroR w 1) := by
  go_enter Try.func47, Try.ntmps47
  go_wp2_with fail
  obtain ⟨c0, c1, f0, f1⟩ := blk2 (heap_alloc2 w (.cells #[.bool nx, .slice ao n cap] 31) (.cells #[.bool false, .slice none 0 0] 31)).1
  refine bodyPost_ret (v := .tuple #[.agg #[.bool false, .slice none 0 0], .int .i64 1]) (by simp [results, Try.results47, go_sem, c0, c1]) rfl ?_
  exact ⟨rfl, by go_grown⟩

/-- A reference's number in a box. -/
structure RBox (w : World) (p : Nat) (neg : Bool) (ao : Option Addr) (n cap : Nat) (zs : List Int) (x : Int) : Prop where
  row : w.heap[p]? = some (.cells #[.bool neg, .slice ao n cap] 31 (0, 0))
  it : RefAt w neg ao n cap zs x
theorem RBox.below {w w' : World} {p : Nat} {neg : Bool} {ao : Option Addr} {n cap : Nat} {zs : List Int} {x : Int} (h : RBox w p neg ao n cap zs x) (hb : Below w.heap.size w w') : RBox w' p neg ao n cap zs x :=
  ⟨(hb.block p (Array.getElem?_eq_some_iff.1 h.row).1).trans h.row, h.it.below hb⟩

theorem RBox.put {w : World} {p : Nat} {neg a : Bool} {ao b : Option Addr} {n cap c d : Nat} {zs : List Int} {x : Int} (h : RefAt w neg ao n cap zs x) (hr : w.heap[p]? = some (.cells #[.bool a, .slice b c d] 31 (0, 0))) :
    RBox ((w.setCell ⟨p, 0, none⟩ (.bool neg)).setCell ⟨p, 1, none⟩ (.slice ao n cap)) p neg ao n cap zs x :=
  ⟨heap_setCell_same _ p 1 _ _ _ (heap_setCell_same w p 0 _ _ _ hr), h.stored hr _ _⟩

/-- The loop of Power: j factors. -/
def PowAt (w : World) (p : Nat) (x : Int) (k : Nat) (rx rz : Obj) (i : Value) (wr : World) : Prop :=
  ∃ (j : Nat) (neg : Bool) (ao : Option Addr) (n cap : Nat) (zs : List Int), j ≤ k ∧ i = .int .i64 (j : Int) ∧ RBox wr p neg ao n cap zs (x ^ j) ∧ n ≤ 4 + 9 * j ∧ Below w.heap.size w wr ∧ wr.heap[w.heap.size]? = some rx ∧ wr.heap[w.heap.size + 1]? = some rz

set_option maxRecDepth 100000 in
set_option maxHeartbeats 1000000 in
theorem rpower_loop (w : World) (nx : Bool) (ao : Option Addr) (n cap : Nat) (xs : List Int) (x : Int) (k : Nat) (hx : RefAt w nx ao n cap xs x) (hn : n ≤ 8) (hw : 1 < blen x.natAbs) (hk : k ≤ 40) :
    Calls Try.prog 47 #[.agg #[.bool nx, .slice ao n cap], .int .i64 (k : Int)] w (RetRE w (x ^ k) 400) := by
  obtain ⟨W, hW⟩ : ∃ W, blen x.natAbs = W := ⟨_, rfl⟩
  have HWD : Hid (∀ w', Below w.heap.size w w' → Calls Try.prog 79 #[.agg #[.bool nx, .slice ao n cap]] w' (RetV w' (.int .i64 (W : Int)))) := Lib.hid (fun w' hb => by
    rw [← hW]; exact rwidth_any w' nx ao n cap xs x (hx.below hb) (by omega))
  have HX := Lib.hid hx
  have hw1 : ¬ (W : Int) ≤ 1 := by omega
  have hk0 : ¬ (k : Int) < 0 := by omega
  clear hx hW hw
  go_enter Try.func47, Try.ntmps47
  go_wp2_with fail
  refine (rnew_any _ 1 (by omega) (by omega)).mono ?_
  rintro e w1 ⟨s1, a1, m1, c1, z1, rfl, i1, g1, hb1⟩
  have r1 := (hb1.block w.heap.size (by go_size)).trans (heap_alloc2 w _ _).2
  have r2 := (hb1.block (w.heap.size + 1) (by go_size)).trans (heap_alloc2 w _ _).1
  have hz1 : w.heap.size + 1 + 1 ≤ w1.heap.size := Nat.le_trans (by go_size) hb1.size
  have hb2 : Below w.heap.size w w1 := Below.trans (by go_grown) (hb1.mono (by go_size))
  obtain ⟨x0, x1, -, -⟩ := blk2 r1
  have R1 := Lib.hid r1
  have R2 := Lib.hid r2
  have I1 := Lib.hid i1
  clear r1 r2 hb1 i1
  have hl1 : w.heap.size < w1.heap.size := by omega
  have hl2 : w.heap.size + 1 < w1.heap.size := by omega
  go_wp2_with fail
  obtain ⟨p, hp⟩ : ∃ p, p = w1.heap.size := ⟨_, rfl⟩
  obtain ⟨w2, hw2⟩ : ∃ w2, w2 = w1.alloc (.cells #[.bool s1, .slice a1 m1 c1] 31) := ⟨_, rfl⟩
  have hb12 : Below w1.heap.size w1 w2 := by rw [hw2]; go_grown
  have B1 : RBox w2 p s1 a1 m1 c1 z1 1 := ⟨by rw [hw2, hp]; exact heap_alloc_new _ _, I1.out.below hb12⟩
  rw [← hw2, ← hp]
  have hpl : w.heap.size + 1 < p := by omega
  have hb3 := Lib.hid (hb2.trans (hb12.mono hb2.size))
  have Q1 := Lib.hid ((hb12.block _ hl1).trans R1.out)
  have Q2 := Lib.hid ((hb12.block _ hl2).trans R2.out)
  have HB1 := Lib.hid B1
  clear hw2 hp hb12 B1 R1 R2 I1 hb2 x0 x1 hz1 hl1 hl2
  refine (HWD.out _ hb3.out).mono ?_
  rintro e w3 ⟨rfl, u3⟩
  have hb4 := Lib.hid (hb3.out.trans (u3.mono hb3.out.size))
  have HB3 := Lib.hid (HB1.out.below u3)
  have T1 := Lib.hid ((u3.block _ (Array.getElem?_eq_some_iff.1 Q1.out).1).trans Q1.out)
  have T2 := Lib.hid ((u3.block _ (Array.getElem?_eq_some_iff.1 Q2.out).1).trans Q2.out)
  clear u3 Q1 Q2 HB1 hb3
  go_wp2_with fail
  go_loopw [7] (fun i wr => PowAt w p x k (.cells #[.bool nx, .slice ao n cap] 31 (0, 0)) (.cells #[.bool false, .slice none 0 0] 31 (0, 0)) i wr) (fun i _ => k - (intOf i).toNat)
  case atStart => exact ⟨0, s1, a1, m1, c1, z1, Nat.zero_le _, rfl, by rw [Int.pow_zero]; exact HB3.out, by omega, hb4.out, T1.out, T2.out⟩
  case round =>
    obtain ⟨j, sj, aj, mj, cj, zj, hj, rfl, hbox, hmj, hbl, hrx, hrz⟩ := hrel
    obtain ⟨b0, b1, bf0, bf1⟩ := blk2 hbox.row
    obtain ⟨y0, y1, -, -⟩ := blk2 hrx
    have HBX := Lib.hid hbox
    have HBL := Lib.hid hbl
    have HRX := Lib.hid hrx
    have HRZ := Lib.hid hrz
    have hpw : p < wr.heap.size := World.block_lt_of_cell? wr _ b0
    clear hbox hbl hrx hrz
    by_cases hjk : j < k
    · have hjk' : (j : Int) < (k : Int) := by omega
      go_wp2_with fail
      refine (rmul_any _ sj nx aj ao mj n cj cap zj xs (x ^ j) x HBX.out.it (HX.out.below HBL.out) (by omega) (by omega)).mono ?_
      rintro e w4 ⟨s4, a4, m4, c4, z4, rfl, i4, g4, u4⟩
      have r4 := (u4.block p hpw).trans HBX.out.row
      have HB4 := Lib.hid (RBox.put i4 r4)
      have hbl4 := Lib.hid (((HBL.out.trans (u4.mono HBL.out.size)).setCell (p := ⟨p, 0, none⟩) (by dsimp only; omega) (.bool s4)).setCell (p := ⟨p, 1, none⟩) (by dsimp only; omega) (.slice a4 m4 c4))
      have hz4 := u4.size
      have hx4 : ((w4.setCell ⟨p, 0, none⟩ (.bool s4)).setCell ⟨p, 1, none⟩ (.slice a4 m4 c4)).heap[w.heap.size]? = some (.cells #[.bool nx, .slice ao n cap] 31 (0, 0)) := by rw [Below.heap_setCell _ _ _ _ (by dsimp only; omega), Below.heap_setCell _ _ _ _ (by dsimp only; omega), u4.block _ (by omega)]; exact HRX.out
      have hx5 : ((w4.setCell ⟨p, 0, none⟩ (.bool s4)).setCell ⟨p, 1, none⟩ (.slice a4 m4 c4)).heap[w.heap.size + 1]? = some (.cells #[.bool false, .slice none 0 0] 31 (0, 0)) := by rw [Below.heap_setCell _ _ _ _ (by dsimp only; omega), Below.heap_setCell _ _ _ _ (by dsimp only; omega), u4.block _ (by omega)]; exact HRZ.out
      have HX4 := Lib.hid hx4
      have HX5 := Lib.hid hx5
      obtain ⟨v0, v1, -, -⟩ := blk2 HB4.out.row
      obtain ⟨t0, t1, tf0, tf1⟩ := blk2 r4
      clear y0 y1 i4 r4 hx4 hx5 u4
      obtain ⟨W4, hW4⟩ : ∃ W4, blen (x ^ j * x).natAbs = W4 := ⟨_, rfl⟩
      have hWb := rwidth_bd HB4.out.it (by omega)
      rw [hW4] at hWb
      have hW4n : ¬ (65537 : Int) < (W4 : Int) := by omega
      have HWC : Hid (∀ w', Below _ ((w4.setCell ⟨p, 0, none⟩ (.bool s4)).setCell ⟨p, 1, none⟩ (.slice a4 m4 c4)) w' → Calls Try.prog 79 #[.agg #[.bool s4, .slice a4 m4 c4]] w' (RetV w' (.int .i64 (W4 : Int)))) := Lib.hid (fun w' hb => by
        rw [← hW4]; exact rwidth_any w' s4 a4 m4 c4 z4 _ (HB4.out.it.below hb) (by omega))
      clear hWb hW4
      go_wp2_with fail
      refine (HWC.out _ (Below.refl _ _)).mono ?_
      rintro e w5 ⟨rfl, u5⟩
      clear HWC
      have hlt5 : p < ((w4.setCell ⟨p, 0, none⟩ (.bool s4)).setCell ⟨p, 1, none⟩ (.slice a4 m4 c4)).heap.size := (Array.getElem?_eq_some_iff.1 HB4.out.row).1
      have P5 : PowAt w p x k (.cells #[.bool nx, .slice ao n cap] 31 (0, 0)) (.cells #[.bool false, .slice none 0 0] 31 (0, 0)) (.int .i64 ((j + 1 : Nat) : Int)) w5 :=
        ⟨j + 1, s4, a4, m4, c4, z4, by omega, rfl, by rw [Int.pow_succ]; exact HB4.out.below u5, by omega, hbl4.out.trans (u5.mono hbl4.out.size), (u5.block _ (by omega)).trans HX4.out, (u5.block _ (by omega)).trans HX5.out⟩
      have HP5 := Lib.hid P5
      clear P5 u5 v0 v1 t0 t1 tf0 tf1 b0 b1 bf0 bf1
      go_wp2_with fail
      go_roundw
      case rel => exact HP5.out
      case measure => simp [intOf]; omega
    · obtain rfl : j = k := by omega
      have hLb := rlen_bd HBX.out.it (by omega)
      obtain ⟨L, hL⟩ : ∃ L, blen (cpl (x ^ j)).toNat = L := ⟨_, rfl⟩
      rw [hL] at hLb
      have hL2 : ¬ (65536 : Int) < (L : Int) := by omega
      have HLN : Hid (Calls Try.prog 27 #[.agg #[.bool sj, .slice aj mj cj]] wr (RetV wr (.int .i64 (L : Int)))) := Lib.hid (by rw [← hL]; exact rlength_any wr sj aj mj cj zj _ HBX.out.it (by omega))
      clear hLb hL
      go_wp2_with fail
      refine HLN.out.mono ?_
      rintro e w4 ⟨rfl, u4⟩
      have HB4 := Lib.hid (HBX.out.below u4)
      have hbl4 := Lib.hid (HBL.out.trans (u4.mono HBL.out.size))
      have hz4 := u4.size
      have r5 := (u4.block _ (by omega)).trans HRZ.out
      obtain ⟨c0, c1, f0, f1⟩ := blk2 r5
      have HI := Lib.hid (HB4.out.it.stored r5 (.bool sj) (.slice aj mj cj))
      obtain ⟨v0, v1, -, -⟩ := blk2 HB4.out.row
      clear b0 b1 bf0 bf1 y0 y1 u4 r5 HLN
      go_wp2_with fail
      refine bodyPost_ret (v := .tuple #[.agg #[.bool sj, .slice aj mj cj], .int .i64 0]) (by simp [results, Try.results47, go_sem, c0, c1]) rfl ?_
      exact ⟨_, _, _, _, _, rfl, HI.out, by omega, (hbl4.out.setCell (p := ⟨w.heap.size + 1, 0, none⟩) (by dsimp only; omega) _).setCell (p := ⟨w.heap.size + 1, 1, none⟩) (by dsimp only; omega) _⟩

set_option maxRecDepth 100000 in
theorem rps_zero (w : World) (nx : Bool) (ao : Option Addr) (n cap : Nat) (xs : List Int) (x : Int) (k : Nat) (hx : RefAt w nx ao n cap xs x) (hn : n ≤ 100) (hw : blen x.natAbs ≤ 1) (hk : k ≤ 9223372036854775807) (h0 : k = 0) (hv : (1 : Int) = x ^ k) :
    Calls Try.prog 47 #[.agg #[.bool nx, .slice ao n cap], .int .i64 (k : Int)] w (RetRE w (x ^ k) 400) := by
  obtain ⟨W, hW⟩ : ∃ W, blen x.natAbs = W := ⟨_, rfl⟩
  have HWD : Hid (∀ w', Below w.heap.size w w' → Calls Try.prog 79 #[.agg #[.bool nx, .slice ao n cap]] w' (RetV w' (.int .i64 (W : Int)))) := Lib.hid (fun w' hb => by
    rw [← hW]; exact rwidth_any w' nx ao n cap xs x (hx.below hb) (by omega))
  obtain ⟨c, hc⟩ : ∃ c, cmpI x 0 = c := ⟨_, rfl⟩
  have HS : Hid (∀ w', Below w.heap.size w w' → Calls Try.prog 23 #[.agg #[.bool nx, .slice ao n cap]] w' (RetV w' (.int .i64 c))) := Lib.hid (fun w' hb => by
    rw [← hc]; exact rsign_any w' nx ao n cap xs x (hx.below hb))
  have HX := Lib.hid hx
  have HV := Lib.hid hv
  have hw1 : (W : Int) ≤ 1 := by omega
  have hk0 : ¬ (k : Int) < 0 := by omega
  have hk1 : ((k : Int) == 0) = true := by simp; omega
  clear hx hW hw hc hv
  go_enter Try.func47, Try.ntmps47
  go_wp2_with fail
  refine (rnew_any _ 1 (by omega) (by omega)).mono ?_
  rintro e w1 ⟨s1, a1, m1, c1, z1, rfl, i1, g1, hb1⟩
  have r1 := (hb1.block w.heap.size (by go_size)).trans (heap_alloc2 w _ _).2
  have r2 := (hb1.block (w.heap.size + 1) (by go_size)).trans (heap_alloc2 w _ _).1
  have hz1 : w.heap.size + 1 + 1 ≤ w1.heap.size := Nat.le_trans (by go_size) hb1.size
  have hb2 : Below w.heap.size w w1 := Below.trans (by go_grown) (hb1.mono (by go_size))
  obtain ⟨x0, x1, -, -⟩ := blk2 r1
  have R1 := Lib.hid r1
  have R2 := Lib.hid r2
  have I1 := Lib.hid i1
  clear r1 r2 hb1 i1
  have hl1 : w.heap.size < w1.heap.size := by omega
  have hl2 : w.heap.size + 1 < w1.heap.size := by omega
  go_wp2_with fail
  obtain ⟨p, hp⟩ : ∃ p, p = w1.heap.size := ⟨_, rfl⟩
  obtain ⟨w2, hw2⟩ : ∃ w2, w2 = w1.alloc (.cells #[.bool s1, .slice a1 m1 c1] 31) := ⟨_, rfl⟩
  have hb12 : Below w1.heap.size w1 w2 := by rw [hw2]; go_grown
  have B1 : RBox w2 p s1 a1 m1 c1 z1 1 := ⟨by rw [hw2, hp]; exact heap_alloc_new _ _, I1.out.below hb12⟩
  rw [← hw2, ← hp]
  have hpl : w.heap.size + 1 < p := by omega
  have hb3 := Lib.hid (hb2.trans (hb12.mono hb2.size))
  have Q1 := Lib.hid ((hb12.block _ hl1).trans R1.out)
  have Q2 := Lib.hid ((hb12.block _ hl2).trans R2.out)
  have HB1 := Lib.hid B1
  clear hw2 hp hb12 B1 R1 R2 I1 hb2 x0 x1 hz1 hl1 hl2
  refine (HWD.out _ hb3.out).mono ?_
  rintro e w3 ⟨rfl, u3⟩
  have hb4 := Lib.hid (hb3.out.trans (u3.mono hb3.out.size))
  have HB3 := Lib.hid (HB1.out.below u3)
  have T1 := Lib.hid ((u3.block _ (Array.getElem?_eq_some_iff.1 Q1.out).1).trans Q1.out)
  have T2 := Lib.hid ((u3.block _ (Array.getElem?_eq_some_iff.1 Q2.out).1).trans Q2.out)
  clear u3 Q1 Q2 HB1 hb3
  obtain ⟨y0, y1, -, -⟩ := blk2 T1.out
  obtain ⟨v0, v1, -, -⟩ := blk2 HB3.out.row
  obtain ⟨c0, c1', f0, f1⟩ := blk2 T2.out
  have HI := Lib.hid (HB3.out.it.stored T2.out (.bool s1) (.slice a1 m1 c1))
  rw [HV.out] at HI
  go_wp2_with fail
  refine bodyPost_ret (v := .tuple #[.agg #[.bool s1, .slice a1 m1 c1], .int .i64 0]) (by simp [results, Try.results47, go_sem, c0, c1']) rfl ?_
  exact ⟨_, _, _, _, _, rfl, HI.out, by omega, (hb4.out.setCell (p := ⟨w.heap.size + 1, 0, none⟩) (by dsimp only; omega) _).setCell (p := ⟨w.heap.size + 1, 1, none⟩) (by dsimp only; omega) _⟩

set_option maxRecDepth 100000 in
theorem rps_one (w : World) (nx : Bool) (ao : Option Addr) (n cap : Nat) (xs : List Int) (x : Int) (k : Nat) (hx : RefAt w nx ao n cap xs x) (hn : n ≤ 100) (hw : blen x.natAbs ≤ 1) (hk : k ≤ 9223372036854775807) (h0 : 0 < k) (h1 : x = 1) (hv : (1 : Int) = x ^ k) :
    Calls Try.prog 47 #[.agg #[.bool nx, .slice ao n cap], .int .i64 (k : Int)] w (RetRE w (x ^ k) 400) := by
  obtain ⟨W, hW⟩ : ∃ W, blen x.natAbs = W := ⟨_, rfl⟩
  have HWD : Hid (∀ w', Below w.heap.size w w' → Calls Try.prog 79 #[.agg #[.bool nx, .slice ao n cap]] w' (RetV w' (.int .i64 (W : Int)))) := Lib.hid (fun w' hb => by
    rw [← hW]; exact rwidth_any w' nx ao n cap xs x (hx.below hb) (by omega))
  obtain ⟨c, hc⟩ : ∃ c, cmpI x 0 = c := ⟨_, rfl⟩
  have HS : Hid (∀ w', Below w.heap.size w w' → Calls Try.prog 23 #[.agg #[.bool nx, .slice ao n cap]] w' (RetV w' (.int .i64 c))) := Lib.hid (fun w' hb => by
    rw [← hc]; exact rsign_any w' nx ao n cap xs x (hx.below hb))
  have HX := Lib.hid hx
  have HV := Lib.hid hv
  have hw1 : (W : Int) ≤ 1 := by omega
  have hk0 : ¬ (k : Int) < 0 := by omega
  have hk1 : ((k : Int) == 0) = false := by simp; omega
  have hc1 : (0 : Int) < c := by rw [← hc, h1]; decide
  clear h1
  clear hx hW hw hc hv
  go_enter Try.func47, Try.ntmps47
  go_wp2_with fail
  refine (rnew_any _ 1 (by omega) (by omega)).mono ?_
  rintro e w1 ⟨s1, a1, m1, c1, z1, rfl, i1, g1, hb1⟩
  have r1 := (hb1.block w.heap.size (by go_size)).trans (heap_alloc2 w _ _).2
  have r2 := (hb1.block (w.heap.size + 1) (by go_size)).trans (heap_alloc2 w _ _).1
  have hz1 : w.heap.size + 1 + 1 ≤ w1.heap.size := Nat.le_trans (by go_size) hb1.size
  have hb2 : Below w.heap.size w w1 := Below.trans (by go_grown) (hb1.mono (by go_size))
  obtain ⟨x0, x1, -, -⟩ := blk2 r1
  have R1 := Lib.hid r1
  have R2 := Lib.hid r2
  have I1 := Lib.hid i1
  clear r1 r2 hb1 i1
  have hl1 : w.heap.size < w1.heap.size := by omega
  have hl2 : w.heap.size + 1 < w1.heap.size := by omega
  go_wp2_with fail
  obtain ⟨p, hp⟩ : ∃ p, p = w1.heap.size := ⟨_, rfl⟩
  obtain ⟨w2, hw2⟩ : ∃ w2, w2 = w1.alloc (.cells #[.bool s1, .slice a1 m1 c1] 31) := ⟨_, rfl⟩
  have hb12 : Below w1.heap.size w1 w2 := by rw [hw2]; go_grown
  have B1 : RBox w2 p s1 a1 m1 c1 z1 1 := ⟨by rw [hw2, hp]; exact heap_alloc_new _ _, I1.out.below hb12⟩
  rw [← hw2, ← hp]
  have hpl : w.heap.size + 1 < p := by omega
  have hb3 := Lib.hid (hb2.trans (hb12.mono hb2.size))
  have Q1 := Lib.hid ((hb12.block _ hl1).trans R1.out)
  have Q2 := Lib.hid ((hb12.block _ hl2).trans R2.out)
  have HB1 := Lib.hid B1
  clear hw2 hp hb12 B1 R1 R2 I1 hb2 x0 x1 hz1 hl1 hl2
  refine (HWD.out _ hb3.out).mono ?_
  rintro e w3 ⟨rfl, u3⟩
  have hb4 := Lib.hid (hb3.out.trans (u3.mono hb3.out.size))
  have HB3 := Lib.hid (HB1.out.below u3)
  have T1 := Lib.hid ((u3.block _ (Array.getElem?_eq_some_iff.1 Q1.out).1).trans Q1.out)
  have T2 := Lib.hid ((u3.block _ (Array.getElem?_eq_some_iff.1 Q2.out).1).trans Q2.out)
  clear u3 Q1 Q2 HB1 hb3
  obtain ⟨y0, y1, -, -⟩ := blk2 T1.out
  obtain ⟨v0, v1, -, -⟩ := blk2 HB3.out.row
  obtain ⟨c0, c1', f0, f1⟩ := blk2 T2.out
  go_wp2_with fail
  refine (HS.out _ hb4.out).mono ?_
  rintro e w4 ⟨rfl, u⟩
  have hb40 := Lib.hid (hb4.out.trans (u.mono hb4.out.size))
  have HB30 := Lib.hid (HB3.out.below u)
  have T10 := Lib.hid ((u.block _ (Array.getElem?_eq_some_iff.1 T1.out).1).trans T1.out)
  have T20 := Lib.hid ((u.block _ (Array.getElem?_eq_some_iff.1 T2.out).1).trans T2.out)
  clear u y0 y1 v0 v1 c0 c1' f0 f1
  obtain ⟨y0, y1, -, -⟩ := blk2 T10.out
  obtain ⟨v0, v1, -, -⟩ := blk2 HB30.out.row
  obtain ⟨c0, c1', f0, f1⟩ := blk2 T20.out
  have HI := Lib.hid (HB30.out.it.stored T20.out (.bool s1) (.slice a1 m1 c1))
  rw [HV.out] at HI
  go_wp2_with fail
  refine bodyPost_ret (v := .tuple #[.agg #[.bool s1, .slice a1 m1 c1], .int .i64 0]) (by simp [results, Try.results47, go_sem, c0, c1']) rfl ?_
  exact ⟨_, _, _, _, _, rfl, HI.out, by omega, (hb40.out.setCell (p := ⟨w.heap.size + 1, 0, none⟩) (by dsimp only; omega) _).setCell (p := ⟨w.heap.size + 1, 1, none⟩) (by dsimp only; omega) _⟩

set_option maxRecDepth 100000 in
theorem rps_even (w : World) (nx : Bool) (ao : Option Addr) (n cap : Nat) (xs : List Int) (x : Int) (k : Nat) (hx : RefAt w nx ao n cap xs x) (hn : n ≤ 100) (hw : blen x.natAbs ≤ 1) (hk : k ≤ 9223372036854775807) (h0 : 0 < k) (h1 : x = -1) (h2 : k % 2 = 0) (hv : (1 : Int) = x ^ k) :
    Calls Try.prog 47 #[.agg #[.bool nx, .slice ao n cap], .int .i64 (k : Int)] w (RetRE w (x ^ k) 400) := by
  obtain ⟨W, hW⟩ : ∃ W, blen x.natAbs = W := ⟨_, rfl⟩
  have HWD : Hid (∀ w', Below w.heap.size w w' → Calls Try.prog 79 #[.agg #[.bool nx, .slice ao n cap]] w' (RetV w' (.int .i64 (W : Int)))) := Lib.hid (fun w' hb => by
    rw [← hW]; exact rwidth_any w' nx ao n cap xs x (hx.below hb) (by omega))
  obtain ⟨c, hc⟩ : ∃ c, cmpI x 0 = c := ⟨_, rfl⟩
  have HS : Hid (∀ w', Below w.heap.size w w' → Calls Try.prog 23 #[.agg #[.bool nx, .slice ao n cap]] w' (RetV w' (.int .i64 c))) := Lib.hid (fun w' hb => by
    rw [← hc]; exact rsign_any w' nx ao n cap xs x (hx.below hb))
  have HX := Lib.hid hx
  have HV := Lib.hid hv
  have hw1 : (W : Int) ≤ 1 := by omega
  have hk0 : ¬ (k : Int) < 0 := by omega
  have hk1 : ((k : Int) == 0) = false := by simp; omega
  have hc1 : ¬ (0 : Int) < c := by rw [← hc, h1]; decide
  have hc2 : c < (0 : Int) := by rw [← hc, h1]; decide
  have hm : ((k : Int) % 2 == 0) = true := by simp; omega
  have hm2 : (k : Int).tmod 2 = 0 := by rw [Int.tmod_eq_emod_of_nonneg (by omega)]; omega
  have hm3 : (k : Int) % 2 = 0 := by omega
  clear h1 h2
  clear hx hW hw hc hv
  go_enter Try.func47, Try.ntmps47
  go_wp2_with fail
  refine (rnew_any _ 1 (by omega) (by omega)).mono ?_
  rintro e w1 ⟨s1, a1, m1, c1, z1, rfl, i1, g1, hb1⟩
  have r1 := (hb1.block w.heap.size (by go_size)).trans (heap_alloc2 w _ _).2
  have r2 := (hb1.block (w.heap.size + 1) (by go_size)).trans (heap_alloc2 w _ _).1
  have hz1 : w.heap.size + 1 + 1 ≤ w1.heap.size := Nat.le_trans (by go_size) hb1.size
  have hb2 : Below w.heap.size w w1 := Below.trans (by go_grown) (hb1.mono (by go_size))
  obtain ⟨x0, x1, -, -⟩ := blk2 r1
  have R1 := Lib.hid r1
  have R2 := Lib.hid r2
  have I1 := Lib.hid i1
  clear r1 r2 hb1 i1
  have hl1 : w.heap.size < w1.heap.size := by omega
  have hl2 : w.heap.size + 1 < w1.heap.size := by omega
  go_wp2_with fail
  obtain ⟨p, hp⟩ : ∃ p, p = w1.heap.size := ⟨_, rfl⟩
  obtain ⟨w2, hw2⟩ : ∃ w2, w2 = w1.alloc (.cells #[.bool s1, .slice a1 m1 c1] 31) := ⟨_, rfl⟩
  have hb12 : Below w1.heap.size w1 w2 := by rw [hw2]; go_grown
  have B1 : RBox w2 p s1 a1 m1 c1 z1 1 := ⟨by rw [hw2, hp]; exact heap_alloc_new _ _, I1.out.below hb12⟩
  rw [← hw2, ← hp]
  have hpl : w.heap.size + 1 < p := by omega
  have hb3 := Lib.hid (hb2.trans (hb12.mono hb2.size))
  have Q1 := Lib.hid ((hb12.block _ hl1).trans R1.out)
  have Q2 := Lib.hid ((hb12.block _ hl2).trans R2.out)
  have HB1 := Lib.hid B1
  clear hw2 hp hb12 B1 R1 R2 I1 hb2 x0 x1 hz1 hl1 hl2
  refine (HWD.out _ hb3.out).mono ?_
  rintro e w3 ⟨rfl, u3⟩
  have hb4 := Lib.hid (hb3.out.trans (u3.mono hb3.out.size))
  have HB3 := Lib.hid (HB1.out.below u3)
  have T1 := Lib.hid ((u3.block _ (Array.getElem?_eq_some_iff.1 Q1.out).1).trans Q1.out)
  have T2 := Lib.hid ((u3.block _ (Array.getElem?_eq_some_iff.1 Q2.out).1).trans Q2.out)
  clear u3 Q1 Q2 HB1 hb3
  obtain ⟨y0, y1, -, -⟩ := blk2 T1.out
  obtain ⟨v0, v1, -, -⟩ := blk2 HB3.out.row
  obtain ⟨c0, c1', f0, f1⟩ := blk2 T2.out
  go_wp2_with fail
  refine (HS.out _ hb4.out).mono ?_
  rintro e w4 ⟨rfl, u⟩
  have hb40 := Lib.hid (hb4.out.trans (u.mono hb4.out.size))
  have HB30 := Lib.hid (HB3.out.below u)
  have T10 := Lib.hid ((u.block _ (Array.getElem?_eq_some_iff.1 T1.out).1).trans T1.out)
  have T20 := Lib.hid ((u.block _ (Array.getElem?_eq_some_iff.1 T2.out).1).trans T2.out)
  clear u y0 y1 v0 v1 c0 c1' f0 f1
  obtain ⟨y0, y1, -, -⟩ := blk2 T10.out
  obtain ⟨v0, v1, -, -⟩ := blk2 HB30.out.row
  obtain ⟨c0, c1', f0, f1⟩ := blk2 T20.out
  go_wp2_with fail
  refine (HS.out _ hb40.out).mono ?_
  rintro e w5 ⟨rfl, u⟩
  have hb401 := Lib.hid (hb40.out.trans (u.mono hb40.out.size))
  have HB301 := Lib.hid (HB30.out.below u)
  have T101 := Lib.hid ((u.block _ (Array.getElem?_eq_some_iff.1 T10.out).1).trans T10.out)
  have T201 := Lib.hid ((u.block _ (Array.getElem?_eq_some_iff.1 T20.out).1).trans T20.out)
  clear u y0 y1 v0 v1 c0 c1' f0 f1
  obtain ⟨y0, y1, -, -⟩ := blk2 T101.out
  obtain ⟨v0, v1, -, -⟩ := blk2 HB301.out.row
  obtain ⟨c0, c1', f0, f1⟩ := blk2 T201.out
  have HI := Lib.hid (HB301.out.it.stored T201.out (.bool s1) (.slice a1 m1 c1))
  rw [HV.out] at HI
  go_wp2_with fail
  refine bodyPost_ret (v := .tuple #[.agg #[.bool s1, .slice a1 m1 c1], .int .i64 0]) (by simp [results, Try.results47, go_sem, c0, c1']) rfl ?_
  exact ⟨_, _, _, _, _, rfl, HI.out, by omega, (hb401.out.setCell (p := ⟨w.heap.size + 1, 0, none⟩) (by dsimp only; omega) _).setCell (p := ⟨w.heap.size + 1, 1, none⟩) (by dsimp only; omega) _⟩

set_option maxRecDepth 100000 in
theorem rps_odd (w : World) (nx : Bool) (ao : Option Addr) (n cap : Nat) (xs : List Int) (x : Int) (k : Nat) (hx : RefAt w nx ao n cap xs x) (hn : n ≤ 100) (hw : blen x.natAbs ≤ 1) (hk : k ≤ 9223372036854775807) (h0 : 0 < k) (h1 : x = -1) (h2 : k % 2 = 1) (hv : x = x ^ k) :
    Calls Try.prog 47 #[.agg #[.bool nx, .slice ao n cap], .int .i64 (k : Int)] w (RetRE w (x ^ k) 400) := by
  obtain ⟨W, hW⟩ : ∃ W, blen x.natAbs = W := ⟨_, rfl⟩
  have HWD : Hid (∀ w', Below w.heap.size w w' → Calls Try.prog 79 #[.agg #[.bool nx, .slice ao n cap]] w' (RetV w' (.int .i64 (W : Int)))) := Lib.hid (fun w' hb => by
    rw [← hW]; exact rwidth_any w' nx ao n cap xs x (hx.below hb) (by omega))
  obtain ⟨c, hc⟩ : ∃ c, cmpI x 0 = c := ⟨_, rfl⟩
  have HS : Hid (∀ w', Below w.heap.size w w' → Calls Try.prog 23 #[.agg #[.bool nx, .slice ao n cap]] w' (RetV w' (.int .i64 c))) := Lib.hid (fun w' hb => by
    rw [← hc]; exact rsign_any w' nx ao n cap xs x (hx.below hb))
  have HX := Lib.hid hx
  have HV := Lib.hid hv
  have hw1 : (W : Int) ≤ 1 := by omega
  have hk0 : ¬ (k : Int) < 0 := by omega
  have hk1 : ((k : Int) == 0) = false := by simp; omega
  have hc1 : ¬ (0 : Int) < c := by rw [← hc, h1]; decide
  have hc2 : c < (0 : Int) := by rw [← hc, h1]; decide
  have hm : ((k : Int) % 2 == 0) = false := by simp; omega
  have hm2 : (k : Int).tmod 2 = 1 := by rw [Int.tmod_eq_emod_of_nonneg (by omega)]; omega
  have hm3 : (k : Int) % 2 = 1 := by omega
  clear h1 h2
  clear hx hW hw hc hv
  go_enter Try.func47, Try.ntmps47
  go_wp2_with fail
  refine (rnew_any _ 1 (by omega) (by omega)).mono ?_
  rintro e w1 ⟨s1, a1, m1, c1, z1, rfl, i1, g1, hb1⟩
  have r1 := (hb1.block w.heap.size (by go_size)).trans (heap_alloc2 w _ _).2
  have r2 := (hb1.block (w.heap.size + 1) (by go_size)).trans (heap_alloc2 w _ _).1
  have hz1 : w.heap.size + 1 + 1 ≤ w1.heap.size := Nat.le_trans (by go_size) hb1.size
  have hb2 : Below w.heap.size w w1 := Below.trans (by go_grown) (hb1.mono (by go_size))
  obtain ⟨x0, x1, -, -⟩ := blk2 r1
  have R1 := Lib.hid r1
  have R2 := Lib.hid r2
  have I1 := Lib.hid i1
  clear r1 r2 hb1 i1
  have hl1 : w.heap.size < w1.heap.size := by omega
  have hl2 : w.heap.size + 1 < w1.heap.size := by omega
  go_wp2_with fail
  obtain ⟨p, hp⟩ : ∃ p, p = w1.heap.size := ⟨_, rfl⟩
  obtain ⟨w2, hw2⟩ : ∃ w2, w2 = w1.alloc (.cells #[.bool s1, .slice a1 m1 c1] 31) := ⟨_, rfl⟩
  have hb12 : Below w1.heap.size w1 w2 := by rw [hw2]; go_grown
  have B1 : RBox w2 p s1 a1 m1 c1 z1 1 := ⟨by rw [hw2, hp]; exact heap_alloc_new _ _, I1.out.below hb12⟩
  rw [← hw2, ← hp]
  have hpl : w.heap.size + 1 < p := by omega
  have hb3 := Lib.hid (hb2.trans (hb12.mono hb2.size))
  have Q1 := Lib.hid ((hb12.block _ hl1).trans R1.out)
  have Q2 := Lib.hid ((hb12.block _ hl2).trans R2.out)
  have HB1 := Lib.hid B1
  clear hw2 hp hb12 B1 R1 R2 I1 hb2 x0 x1 hz1 hl1 hl2
  refine (HWD.out _ hb3.out).mono ?_
  rintro e w3 ⟨rfl, u3⟩
  have hb4 := Lib.hid (hb3.out.trans (u3.mono hb3.out.size))
  have HB3 := Lib.hid (HB1.out.below u3)
  have T1 := Lib.hid ((u3.block _ (Array.getElem?_eq_some_iff.1 Q1.out).1).trans Q1.out)
  have T2 := Lib.hid ((u3.block _ (Array.getElem?_eq_some_iff.1 Q2.out).1).trans Q2.out)
  clear u3 Q1 Q2 HB1 hb3
  obtain ⟨y0, y1, -, -⟩ := blk2 T1.out
  obtain ⟨v0, v1, -, -⟩ := blk2 HB3.out.row
  obtain ⟨c0, c1', f0, f1⟩ := blk2 T2.out
  go_wp2_with fail
  refine (HS.out _ hb4.out).mono ?_
  rintro e w4 ⟨rfl, u⟩
  have hb40 := Lib.hid (hb4.out.trans (u.mono hb4.out.size))
  have HB30 := Lib.hid (HB3.out.below u)
  have T10 := Lib.hid ((u.block _ (Array.getElem?_eq_some_iff.1 T1.out).1).trans T1.out)
  have T20 := Lib.hid ((u.block _ (Array.getElem?_eq_some_iff.1 T2.out).1).trans T2.out)
  clear u y0 y1 v0 v1 c0 c1' f0 f1
  obtain ⟨y0, y1, -, -⟩ := blk2 T10.out
  obtain ⟨v0, v1, -, -⟩ := blk2 HB30.out.row
  obtain ⟨c0, c1', f0, f1⟩ := blk2 T20.out
  go_wp2_with fail
  refine (HS.out _ hb40.out).mono ?_
  rintro e w5 ⟨rfl, u⟩
  have hb401 := Lib.hid (hb40.out.trans (u.mono hb40.out.size))
  have HB301 := Lib.hid (HB30.out.below u)
  have T101 := Lib.hid ((u.block _ (Array.getElem?_eq_some_iff.1 T10.out).1).trans T10.out)
  have T201 := Lib.hid ((u.block _ (Array.getElem?_eq_some_iff.1 T20.out).1).trans T20.out)
  clear u y0 y1 v0 v1 c0 c1' f0 f1
  obtain ⟨y0, y1, -, -⟩ := blk2 T101.out
  obtain ⟨v0, v1, -, -⟩ := blk2 HB301.out.row
  obtain ⟨c0, c1', f0, f1⟩ := blk2 T201.out
  have HI := Lib.hid ((HX.out.below hb401.out).stored T201.out (.bool nx) (.slice ao n cap))
  rw [HV.out] at HI
  go_wp2_with fail
  refine bodyPost_ret (v := .tuple #[.agg #[.bool nx, .slice ao n cap], .int .i64 0]) (by simp [results, Try.results47, go_sem, c0, c1']) rfl ?_
  exact ⟨_, _, _, _, _, rfl, HI.out, by omega, (hb401.out.setCell (p := ⟨w.heap.size + 1, 0, none⟩) (by dsimp only; omega) _).setCell (p := ⟨w.heap.size + 1, 1, none⟩) (by dsimp only; omega) _⟩

set_option maxRecDepth 100000 in
theorem rps_nil (w : World) (nx : Bool) (ao : Option Addr) (n cap : Nat) (xs : List Int) (x : Int) (k : Nat) (hx : RefAt w nx ao n cap xs x) (hn : n ≤ 100) (hw : blen x.natAbs ≤ 1) (hk : k ≤ 9223372036854775807) (h0 : 0 < k) (h1 : x = 0) (hv : x = x ^ k) :
    Calls Try.prog 47 #[.agg #[.bool nx, .slice ao n cap], .int .i64 (k : Int)] w (RetRE w (x ^ k) 400) := by
  obtain ⟨W, hW⟩ : ∃ W, blen x.natAbs = W := ⟨_, rfl⟩
  have HWD : Hid (∀ w', Below w.heap.size w w' → Calls Try.prog 79 #[.agg #[.bool nx, .slice ao n cap]] w' (RetV w' (.int .i64 (W : Int)))) := Lib.hid (fun w' hb => by
    rw [← hW]; exact rwidth_any w' nx ao n cap xs x (hx.below hb) (by omega))
  obtain ⟨c, hc⟩ : ∃ c, cmpI x 0 = c := ⟨_, rfl⟩
  have HS : Hid (∀ w', Below w.heap.size w w' → Calls Try.prog 23 #[.agg #[.bool nx, .slice ao n cap]] w' (RetV w' (.int .i64 c))) := Lib.hid (fun w' hb => by
    rw [← hc]; exact rsign_any w' nx ao n cap xs x (hx.below hb))
  have HX := Lib.hid hx
  have HV := Lib.hid hv
  have hw1 : (W : Int) ≤ 1 := by omega
  have hk0 : ¬ (k : Int) < 0 := by omega
  have hk1 : ((k : Int) == 0) = false := by simp; omega
  have hc1 : ¬ (0 : Int) < c := by rw [← hc, h1]; decide
  have hc2 : ¬ c < (0 : Int) := by rw [← hc, h1]; decide
  clear h1
  clear hx hW hw hc hv
  go_enter Try.func47, Try.ntmps47
  go_wp2_with fail
  refine (rnew_any _ 1 (by omega) (by omega)).mono ?_
  rintro e w1 ⟨s1, a1, m1, c1, z1, rfl, i1, g1, hb1⟩
  have r1 := (hb1.block w.heap.size (by go_size)).trans (heap_alloc2 w _ _).2
  have r2 := (hb1.block (w.heap.size + 1) (by go_size)).trans (heap_alloc2 w _ _).1
  have hz1 : w.heap.size + 1 + 1 ≤ w1.heap.size := Nat.le_trans (by go_size) hb1.size
  have hb2 : Below w.heap.size w w1 := Below.trans (by go_grown) (hb1.mono (by go_size))
  obtain ⟨x0, x1, -, -⟩ := blk2 r1
  have R1 := Lib.hid r1
  have R2 := Lib.hid r2
  have I1 := Lib.hid i1
  clear r1 r2 hb1 i1
  have hl1 : w.heap.size < w1.heap.size := by omega
  have hl2 : w.heap.size + 1 < w1.heap.size := by omega
  go_wp2_with fail
  obtain ⟨p, hp⟩ : ∃ p, p = w1.heap.size := ⟨_, rfl⟩
  obtain ⟨w2, hw2⟩ : ∃ w2, w2 = w1.alloc (.cells #[.bool s1, .slice a1 m1 c1] 31) := ⟨_, rfl⟩
  have hb12 : Below w1.heap.size w1 w2 := by rw [hw2]; go_grown
  have B1 : RBox w2 p s1 a1 m1 c1 z1 1 := ⟨by rw [hw2, hp]; exact heap_alloc_new _ _, I1.out.below hb12⟩
  rw [← hw2, ← hp]
  have hpl : w.heap.size + 1 < p := by omega
  have hb3 := Lib.hid (hb2.trans (hb12.mono hb2.size))
  have Q1 := Lib.hid ((hb12.block _ hl1).trans R1.out)
  have Q2 := Lib.hid ((hb12.block _ hl2).trans R2.out)
  have HB1 := Lib.hid B1
  clear hw2 hp hb12 B1 R1 R2 I1 hb2 x0 x1 hz1 hl1 hl2
  refine (HWD.out _ hb3.out).mono ?_
  rintro e w3 ⟨rfl, u3⟩
  have hb4 := Lib.hid (hb3.out.trans (u3.mono hb3.out.size))
  have HB3 := Lib.hid (HB1.out.below u3)
  have T1 := Lib.hid ((u3.block _ (Array.getElem?_eq_some_iff.1 Q1.out).1).trans Q1.out)
  have T2 := Lib.hid ((u3.block _ (Array.getElem?_eq_some_iff.1 Q2.out).1).trans Q2.out)
  clear u3 Q1 Q2 HB1 hb3
  obtain ⟨y0, y1, -, -⟩ := blk2 T1.out
  obtain ⟨v0, v1, -, -⟩ := blk2 HB3.out.row
  obtain ⟨c0, c1', f0, f1⟩ := blk2 T2.out
  go_wp2_with fail
  refine (HS.out _ hb4.out).mono ?_
  rintro e w4 ⟨rfl, u⟩
  have hb40 := Lib.hid (hb4.out.trans (u.mono hb4.out.size))
  have HB30 := Lib.hid (HB3.out.below u)
  have T10 := Lib.hid ((u.block _ (Array.getElem?_eq_some_iff.1 T1.out).1).trans T1.out)
  have T20 := Lib.hid ((u.block _ (Array.getElem?_eq_some_iff.1 T2.out).1).trans T2.out)
  clear u y0 y1 v0 v1 c0 c1' f0 f1
  obtain ⟨y0, y1, -, -⟩ := blk2 T10.out
  obtain ⟨v0, v1, -, -⟩ := blk2 HB30.out.row
  obtain ⟨c0, c1', f0, f1⟩ := blk2 T20.out
  go_wp2_with fail
  refine (HS.out _ hb40.out).mono ?_
  rintro e w5 ⟨rfl, u⟩
  have hb401 := Lib.hid (hb40.out.trans (u.mono hb40.out.size))
  have HB301 := Lib.hid (HB30.out.below u)
  have T101 := Lib.hid ((u.block _ (Array.getElem?_eq_some_iff.1 T10.out).1).trans T10.out)
  have T201 := Lib.hid ((u.block _ (Array.getElem?_eq_some_iff.1 T20.out).1).trans T20.out)
  clear u y0 y1 v0 v1 c0 c1' f0 f1
  obtain ⟨y0, y1, -, -⟩ := blk2 T101.out
  obtain ⟨v0, v1, -, -⟩ := blk2 HB301.out.row
  obtain ⟨c0, c1', f0, f1⟩ := blk2 T201.out
  have HI := Lib.hid ((HX.out.below hb401.out).stored T201.out (.bool nx) (.slice ao n cap))
  rw [HV.out] at HI
  go_wp2_with fail
  refine bodyPost_ret (v := .tuple #[.agg #[.bool nx, .slice ao n cap], .int .i64 0]) (by simp [results, Try.results47, go_sem, c0, c1']) rfl ?_
  exact ⟨_, _, _, _, _, rfl, HI.out, by omega, (hb401.out.setCell (p := ⟨w.heap.size + 1, 0, none⟩) (by dsimp only; omega) _).setCell (p := ⟨w.heap.size + 1, 1, none⟩) (by dsimp only; omega) _⟩

theorem rpower_in (w : World) (nx : Bool) (ao : Option Addr) (n cap : Nat) (xs : List Int) (x : Int) (k : Nat) (hx : RefAt w nx ao n cap xs x) (hn : n ≤ 8) (hk : k ≤ 9223372036854775807) (h : x.natAbs ≤ 1 ∨ k ≤ 40) :
    Calls Try.prog 47 #[.agg #[.bool nx, .slice ao n cap], .int .i64 (k : Int)] w (RetRE w (x ^ k) 400) := by
  by_cases hw : blen x.natAbs ≤ 1
  · have h1 : x.natAbs ≤ 1 := by
      have := blen_le_iff.1 hw
      omega
    rcases Nat.eq_zero_or_pos k with h0 | h0
    · exact rps_zero w nx ao n cap xs x k hx (by omega) hw hk h0 (by rw [h0, Int.pow_zero])
    · have hx3 : x = 0 ∨ x = 1 ∨ x = -1 := by omega
      rcases hx3 with h2 | h2 | h2
      · exact rps_nil w nx ao n cap xs x k hx (by omega) hw hk h0 h2 (by rw [h2, Int.zero_pow (by omega)])
      · exact rps_one w nx ao n cap xs x k hx (by omega) hw hk h0 h2 (by rw [h2, Int.one_pow])
      · rcases Nat.mod_two_eq_zero_or_one k with h3 | h3
        · exact rps_even w nx ao n cap xs x k hx (by omega) hw hk h0 h2 h3 (by
            obtain ⟨q, rfl⟩ : ∃ q, k = 2 * q := ⟨k / 2, by omega⟩
            rw [h2, Int.pow_mul, show ((-1 : Int) ^ 2) = 1 from rfl, Int.one_pow])
        · exact rps_odd w nx ao n cap xs x k hx (by omega) hw hk h0 h2 h3 (by
            obtain ⟨q, rfl⟩ : ∃ q, k = 2 * q + 1 := ⟨k / 2, by omega⟩
            rw [h2, Int.pow_succ, Int.pow_mul, show ((-1 : Int) ^ 2) = 1 from rfl, Int.one_pow]; rfl)
  · have h2 : k ≤ 40 := by
      rcases h with h | h
      · exfalso
        exact hw (blen_le_iff.2 (by omega))
      · exact h
    exact rpower_loop w nx ao n cap xs x k hx hn (by omega) h2

theorem ite_prop_pos3 {c : Prop} [Decidable c] {A B : Prop} (hc : c) (h : A) : if c then A else B := by rw [if_pos hc]; exact h
theorem RBox.new {w : World} {neg : Bool} {ao : Option Addr} {n cap : Nat} {zs : List Int} {x : Int} (h : RefAt w neg ao n cap zs x) : RBox (w.alloc (.cells #[.bool neg, .slice ao n cap] 31)) w.heap.size neg ao n cap zs x :=
  ⟨heap_alloc_new _ _, h.below ((Below.refl _ _).alloc (Nat.le_refl _) _)⟩
theorem RefAt.len_le {w : World} {neg : Bool} {ao : Option Addr} {n cap : Nat} {zs : List Int} {x : Int} (h : RefAt w neg ao n cap zs x) {k : Nat} (hk : (x.natAbs : Int) < 65536 ^ k) : n ≤ k := by
  have h0 := dval_nonneg (r := 65536) (by omega) h.lim
  have hv := h.val
  have : (x.natAbs : Int) = dval 65536 zs := by
    obtain ⟨v, hv'⟩ : ∃ v, dval 65536 zs = v := ⟨_, rfl⟩
    rw [hv'] at h0 hv ⊢
    cases neg <;> simp [sgn] at hv <;> omega
  rw [this] at hk
  have := rlen_lt h.lim h.top hk
  rwa [h.sl.len] at this
theorem RefAt.lt_pow {w : World} {neg : Bool} {ao : Option Addr} {n cap : Nat} {zs : List Int} {x : Int} (h : RefAt w neg ao n cap zs x) : (x.natAbs : Int) < 65536 ^ n := by
  have h0 := dval_nonneg (r := 65536) (by omega) h.lim
  have h1 := dval_lt (r := 65536) (by omega) h.lim
  rw [h.sl.len] at h1
  have hv := h.val
  obtain ⟨v, hv'⟩ : ∃ v, dval 65536 zs = v := ⟨_, rfl⟩
  obtain ⟨P, hP⟩ : ∃ P : Int, (65536 : Int) ^ n = P := ⟨_, rfl⟩
  rw [hv'] at h0 hv h1
  rw [hP] at h1 ⊢
  cases neg <;> simp [sgn] at hv <;> omega

def RetRtR (w : World) (X L : Nat) (e : Ending) (w' : World) : Prop :=
  ∃ G : Nat, G * G ≤ X ∧ X < (G + 1) * (G + 1) ∧ RetRE w (G : Int) L e w'

/-- The loop of Root: the power 2^t is to be tried next but one. -/
def RootAt (w : World) (p X : Nat) (rx rz : Obj) (i : Value) (wr : World) : Prop :=
  ∃ (t V : Nat) (neg : Bool) (ao : Option Addr) (n cap : Nat) (zs : List Int), ((t = 0 ∧ i = .int .i64 (-1)) ∨ (∃ s, t = s + 1 ∧ s ≤ 1000 ∧ i = .int .i64 (s : Int))) ∧ V * V ≤ X ∧ X < (V + 2 ^ t) * (V + 2 ^ t) ∧
    RBox wr p neg ao n cap zs (V : Int) ∧ Below w.heap.size w wr ∧ wr.heap[w.heap.size]? = some rx ∧ wr.heap[w.heap.size + 1]? = some rz

theorem rroot_start (X W : Nat) (h : blen X = W) : X < (0 + 2 ^ (W / 2 + 1)) * (0 + 2 ^ (W / 2 + 1)) := by
  have h1 : X < 2 ^ W := blen_le_iff.1 (by omega)
  have h2 : 2 ^ W ≤ 2 ^ (2 * (W / 2 + 1)) := Nat.pow_le_pow_right (by omega) (by omega)
  have h3 : 2 ^ (2 * (W / 2 + 1)) = 2 ^ (W / 2 + 1) * 2 ^ (W / 2 + 1) := by rw [Nat.two_mul, Nat.pow_add]
  simp only [Nat.zero_add]
  omega
theorem rsq_le {V X : Nat} (h : V * V ≤ X) : V ≤ X := by
  rcases Nat.eq_zero_or_pos V with h0 | h0
  · omega
  · exact Nat.le_trans (Nat.le_mul_of_pos_right V h0) h

set_option maxRecDepth 100000 in
theorem rroot_neg (w : World) (nx : Bool) (ao : Option Addr) (n cap : Nat) (xs : List Int) (x : Int) (hx : RefAt w nx ao n cap xs x) (h : x < 0) :
    Calls Try.prog 49 #[.agg #[.bool nx, .slice ao n cap]] w (RetZeroR w 1) := by
  obtain ⟨c, hc⟩ : ∃ c, cmpI x 0 = c := ⟨_, rfl⟩
  have HS : Hid (∀ w', Below w.heap.size w w' → Calls Try.prog 23 #[.agg #[.bool nx, .slice ao n cap]] w' (RetV w' (.int .i64 c))) := Lib.hid (fun w' hb => by
    rw [← hc]; exact rsign_any w' nx ao n cap xs x (hx.below hb))
  have hcn : c < (0 : Int) := by rw [← hc, cmpI_lt h]; omega
  clear hx hc h
  go_enter Try.func49, Try.ntmps49
  go_wp2_with fail
  refine (HS.out _ (by go_grown)).mono ?_
  rintro e w1 ⟨rfl, hb1⟩
  have r2 := (hb1.block (w.heap.size + 1) (by go_size)).trans (heap_alloc2 w _ _).1
  have hz1 : w.heap.size + 1 + 1 ≤ w1.heap.size := Nat.le_trans (by go_size) hb1.size
  have hb2 : Below w.heap.size w w1 := Below.trans (by go_grown) (hb1.mono (by go_size))
  obtain ⟨c0, c1, f0, f1⟩ := blk2 r2
  clear r2 hb1
  go_wp2_with fail
  refine bodyPost_ret (v := .tuple #[.agg #[.bool false, .slice none 0 0], .int .i64 1]) (by simp [results, Try.results49, go_sem, c0, c1]) rfl ?_
  exact ⟨rfl, (hb2.setCell (p := ⟨w.heap.size + 1, 0, none⟩) (by dsimp only; omega) _).setCell (p := ⟨w.heap.size + 1, 1, none⟩) (by dsimp only; omega) _⟩

theorem rcmp_is (w : World) (nx ny : Bool) (ao bo : Option Addr) (n m capa capb : Nat) (xs ys : List Int) (x y c : Int) (hx : RefAt w nx ao n capa xs x) (hy : RefAt w ny bo m capb ys y) (hn : n ≤ 4294967296) (hm : m ≤ 4294967296) (hc : cmpI x y = c) :
    Calls Try.prog 33 #[.agg #[.bool nx, .slice ao n capa], .agg #[.bool ny, .slice bo m capb]] w (RetV w (.int .i64 c)) := by
  rw [← hc]; exact rcmp_any w nx ny ao bo n m capa capb xs ys x y hx hy hn hm

set_option maxRecDepth 100000 in
set_option maxHeartbeats 4000000 in
theorem rroot_pos (w : World) (nx : Bool) (ao : Option Addr) (n cap : Nat) (xs : List Int) (X : Nat) (hx : RefAt w nx ao n cap xs (X : Int)) (hn : n ≤ 100) :
    Calls Try.prog 49 #[.agg #[.bool nx, .slice ao n cap]] w (RetRtR w X n) := by
  obtain ⟨c, hc⟩ : ∃ c, cmpI (X : Int) 0 = c := ⟨_, rfl⟩
  have HS : Hid (∀ w', Below w.heap.size w w' → Calls Try.prog 23 #[.agg #[.bool nx, .slice ao n cap]] w' (RetV w' (.int .i64 c))) := Lib.hid (fun w' hb => by
    rw [← hc]; exact rsign_any w' nx ao n cap xs _ (hx.below hb))
  have hcn : ¬ c < (0 : Int) := by rw [← hc]; unfold cmpI; rw [if_neg (by omega)]; split <;> omega
  obtain ⟨W, hW⟩ : ∃ W, blen (X : Int).natAbs = W := ⟨_, rfl⟩
  have hWb := rwidth_bd' hx 1600 (by omega)
  rw [hW] at hWb
  have HWD : Hid (∀ w', Below w.heap.size w w' → Calls Try.prog 79 #[.agg #[.bool nx, .slice ao n cap]] w' (RetV w' (.int .i64 (W : Int)))) := Lib.hid (fun w' hb => by
    rw [← hW]; exact rwidth_any w' nx ao n cap xs _ (hx.below hb) (by omega))
  have hst := rroot_start X W (by simpa using hW)
  obtain ⟨s0, hs0⟩ : ∃ s, W / 2 = s := ⟨_, rfl⟩
  rw [hs0] at hst
  have hdv : (W : Int) / 2 = (s0 : Int) := by omega
  have hdt : (W : Int).tdiv 2 = (s0 : Int) := by rw [Int.tdiv_eq_ediv_of_nonneg (by omega)]; exact hdv
  have hs1 : s0 ≤ 1000 := by omega
  have HST := Lib.hid hst
  have HX := Lib.hid hx
  have hXp : (X : Int) < 65536 ^ n := by have := hx.lt_pow; simpa using this
  have HXP := Lib.hid hXp
  clear hx hc hW hst hs0 hXp
  go_enter Try.func49, Try.ntmps49
  go_wp2_with fail
  refine (HS.out _ (by go_grown)).mono ?_
  rintro e w1 ⟨rfl, hb1⟩
  have r1 := (hb1.block w.heap.size (by go_size)).trans (heap_alloc2 w _ _).2
  have r2 := (hb1.block (w.heap.size + 1) (by go_size)).trans (heap_alloc2 w _ _).1
  have hz1 : w.heap.size + 1 + 1 ≤ w1.heap.size := Nat.le_trans (by go_size) hb1.size
  have hb2 : Below w.heap.size w w1 := Below.trans (by go_grown) (hb1.mono (by go_size))
  have R1 := Lib.hid r1
  have R2 := Lib.hid r2
  clear r1 r2 hb1
  go_wp2_with fail
  refine (rnew_any _ 0 (by omega) (by omega)).mono ?_
  rintro e w2 ⟨s1, a1, m1, c1, z1, rfl, i1, g1, u2⟩
  have hb3 : Below w.heap.size w w2 := hb2.trans (u2.mono hb2.size)
  have hl1 : w.heap.size < w2.heap.size := by have := u2.size; omega
  have hl2 : w.heap.size + 1 < w2.heap.size := by have := u2.size; omega
  have Q1 := Lib.hid ((u2.block _ (by omega)).trans R1.out)
  have Q2 := Lib.hid ((u2.block _ (by omega)).trans R2.out)
  obtain ⟨x0, x1, -, -⟩ := blk2 Q1.out
  have I1 := Lib.hid i1
  clear R1 R2 u2 i1 hb2 hz1
  go_wp2_with fail
  obtain ⟨p, hp⟩ : ∃ p, p = w2.heap.size := ⟨_, rfl⟩
  obtain ⟨w3, hw3⟩ : ∃ w3, w3 = w2.alloc (.cells #[.bool s1, .slice a1 m1 c1] 31) := ⟨_, rfl⟩
  have hb23 : Below w2.heap.size w2 w3 := by rw [hw3]; go_grown
  have B1 : RBox w3 p s1 a1 m1 c1 z1 0 := by rw [hw3, hp]; exact RBox.new I1.out
  rw [← hw3, ← hp]
  have hpl : w.heap.size + 1 < p := by omega
  have hb4 := Lib.hid (hb3.trans (hb23.mono hb3.size))
  have T1 := Lib.hid ((hb23.block _ hl1).trans Q1.out)
  have T2 := Lib.hid ((hb23.block _ hl2).trans Q2.out)
  have HB1 := Lib.hid B1
  clear hw3 hp hb23 B1 Q1 Q2 I1 hb3 x0 x1 hl1 hl2
  refine (HWD.out _ hb4.out).mono ?_
  rintro e w4 ⟨rfl, u4⟩
  have hb5 := Lib.hid (hb4.out.trans (u4.mono hb4.out.size))
  have HB4 := Lib.hid (HB1.out.below u4)
  have S1 := Lib.hid ((u4.block _ (Array.getElem?_eq_some_iff.1 T1.out).1).trans T1.out)
  have S2 := Lib.hid ((u4.block _ (Array.getElem?_eq_some_iff.1 T2.out).1).trans T2.out)
  clear u4 T1 T2 HB1 hb4
  go_wp2_with fail
  go_loopw [5, 6] (fun i _ wr => RootAt w p X (.cells #[.bool nx, .slice ao n cap] 31 (0, 0)) (.cells #[.bool false, .slice none 0 0] 31 (0, 0)) i wr) (fun i _ _ => (intOf i + 1).toNat)
  case atStart => exact ⟨s0 + 1, 0, s1, a1, m1, c1, z1, .inr ⟨s0, rfl, hs1, rfl⟩, by omega, HST.out, HB4.out, hb5.out, S1.out, S2.out⟩
  case round =>
    obtain ⟨t, V, sj, aj, mj, cj, zj, hcase, hV1, hV2, hbox, hbl, hrx, hrz⟩ := hrel
    obtain ⟨b0, b1, bf0, bf1⟩ := blk2 hbox.row
    obtain ⟨y0, y1, -, -⟩ := blk2 hrx
    have hmj : mj ≤ n := hbox.it.len_le (by have := HXP.out; have h3 := rsq_le hV1; simp; omega)
    have HBX := Lib.hid hbox
    have HBL := Lib.hid hbl
    have HRX := Lib.hid hrx
    have HRZ := Lib.hid hrz
    have HV1 := Lib.hid hV1
    have HV2 := Lib.hid hV2
    have hpw : p < wr.heap.size := World.block_lt_of_cell? wr _ b0
    have hxw : w.heap.size < wr.heap.size := World.block_lt_of_cell? wr _ y0
    clear hbox hbl hrx hrz hV1 hV2
    rcases hcase with ⟨rfl, rfl⟩ | ⟨s, rfl, hs, rfl⟩
    · have HZ := Lib.hid (HBX.out.it.stored HRZ.out (.bool sj) (.slice aj mj cj))
      obtain ⟨c0, c1', f0, f1⟩ := blk2 HRZ.out
      have HBE := Lib.hid ((HBL.out.setCell (p := ⟨w.heap.size + 1, 0, none⟩) (by dsimp only; omega) (.bool sj)).setCell (p := ⟨w.heap.size + 1, 1, none⟩) (by dsimp only; omega) (.slice aj mj cj))
      have hV3 : X < (V + 1) * (V + 1) := by have := HV2.out; simpa using this
      have HV3 := Lib.hid hV3
      clear hV3
      go_wp2_with fail
      refine bodyPost_ret (v := .tuple #[.agg #[.bool sj, .slice aj mj cj], .int .i64 0]) (by simp [results, Try.results49, go_sem, c0, c1']) rfl ?_
      exact ⟨V, HV1.out, HV3.out, _, _, _, _, _, rfl, HZ.out, hmj, HBE.out⟩
    · have hs0 : (0 : Int) ≤ (s : Int) := by omega
      have HKP : Hid (∀ w', Below wr.heap.size wr w' → (w'.cell? ⟨p, 0, none⟩ = some (.bool sj) ∧ w'.cell? ⟨p, 1, none⟩ = some (.slice aj mj cj))) := Lib.hid (fun w' hb => ⟨(hb.cell (p := ⟨p, 0, none⟩) hpw).trans b0, (hb.cell (p := ⟨p, 1, none⟩) hpw).trans b1⟩)
      go_wp2_with fail
      go_cut [6] (fun pv wx => ∃ (b : Nat) (neg : Bool) (ao : Option Addr) (n cp : Nat) (z : List Int), pv = .pointer (some ⟨b, 0, none⟩) ∧ RBox wx b neg ao n cp z ((V : Int) + 2 ^ s) ∧ wr.heap.size ≤ b ∧ n ≤ 1000 ∧ Below wr.heap.size wr wx)
      case first =>
        as_aux_lemma =>
          refine wp_region_noPanic ?_
          refine wp_region_held_drew (S := (fun w' => w'.cell? ⟨p, 0, none⟩ = some (.bool sj) ∧ w'.cell? ⟨p, 1, none⟩ = some (.slice aj mj cj))) (by kernel_rfl) ?_ (fun hH0 => ?_)
          · exact HKP.out _ (Below.refl _ _).drew
          refine wpAnyH_take (i := 0) (oi := ({ dst := some 19, op := Op.load 31 (Operand.tmp 4), type := 31, pos := "ref.go:309", after := #[], guard := none } : Oper)) (v := ?_) rfl (by kernel_rfl) (by kernel_rfl) (by kernel_rfl) (fun _ _ _ h => h) (Or.inl ⟨by rfl, ?_⟩) (by assumption) ?_
          rotate_left
          · (intro w hSw; (try dsimp only at hSw); go_simp; try with_reducible rfl)
          (try simp only [Act.put, List.setIfInBounds_toArray, List.set_cons_zero, List.set_cons_succ])
          refine wpAnyH_take (i := 1) (oi := ({ dst := some 20, op := Op.move (Operand.tmp 5), type := 3, pos := "ref.go:309", after := #[], guard := none } : Oper)) (v := ?_) rfl (by kernel_rfl) (by kernel_rfl) (by kernel_rfl) (fun _ _ _ h => h) (Or.inl ⟨by rfl, ?_⟩) (by assumption) ?_
          rotate_left
          · (intro w hSw; (try dsimp only at hSw); go_simp; try with_reducible rfl)
          (try simp only [Act.put, List.setIfInBounds_toArray, List.set_cons_zero, List.set_cons_succ])
          refine wpAnyH_ready (rs := [2, 4]) (by kernel_rfl) (by simp) ?_
          refine (AllReadyH.cons (o := ({ dst := some 21, op := Op.call { callee := Callee.value (Operand.func 97), args := #[Operand.tmp 20], argTypes := #[3] }, type := 31, pos := "ref.go:309", after := #[{ on := 1, ground := Ground.data }], guard := none } : Oper)) rfl (fun K hK => ?_) (AllReadyH.cons (o := ({ dst := some 6, op := Op.alloc 31, type := 0, pos := "ref.go:309", after := #[], guard := none } : Oper)) rfl (fun K hK => ?_) AllReadyH.nil))
          · go_simp
            refine (rtwo_any _ s (by omega)).mono ?_
            rintro e v1 ⟨nA, aA, kA, cA, zA, rfl, iA, gA, uA⟩
            have X1 : Below wr.heap.size wr v1 := Below.trans (Below.refl _ _).drew (uA.mono (by first | exact Nat.le_refl _ | simp))
            have IA := Lib.hid iA
            clear iA uA
            refine hK.out _ _ ?_ (fun hH1 => ?_)
            · exact HKP.out _ X1
            clear hK K hH0
            (try simp only [Act.put, List.setIfInBounds_toArray, List.set_cons_zero, List.set_cons_succ])
            refine wpAnyH_ready (rs := [3, 4]) (by kernel_rfl) (by simp) ?_
            refine (AllReadyH.cons (o := ({ dst := some 22, op := Op.call { callee := Callee.value (Operand.func 39), args := #[Operand.tmp 19, Operand.tmp 21], argTypes := #[31, 31] }, type := 31, pos := "ref.go:309", after := #[{ on := 0, ground := Ground.data }, { on := 2, ground := Ground.data }, { on := 2, ground := Ground.chain }], guard := none } : Oper)) rfl (fun K hK => ?_) (AllReadyH.cons (o := ({ dst := some 6, op := Op.alloc 31, type := 0, pos := "ref.go:309", after := #[], guard := none } : Oper)) rfl (fun K hK => ?_) AllReadyH.nil))
            · go_simp
              refine (radd_any _ _ _ _ _ _ _ _ _ _ _ (V : Int) (2 ^ s) (HBX.out.it.below X1) (IA.out) (by omega) (by omega)).mono ?_
              rintro e v2 ⟨nB, aB, kB, cB, zB, rfl, iB, gB, uB⟩
              have X2 : Below wr.heap.size wr v2 := X1.trans (uB.mono X1.size)
              have IB := Lib.hid iB
              clear iB uB
              refine hK.out _ _ ?_ (fun hH2 => ?_)
              · exact HKP.out _ X2
              clear hK K hH1
              (try simp only [Act.put, List.setIfInBounds_toArray, List.set_cons_zero, List.set_cons_succ])
              refine wpAnyH_ready (rs := [4]) (by kernel_rfl) (by simp) ?_
              refine (AllReadyH.cons (o := ({ dst := some 6, op := Op.alloc 31, type := 0, pos := "ref.go:309", after := #[], guard := none } : Oper)) rfl (fun K hK => ?_) AllReadyH.nil)
              go_simp
              refine hK.out _ _ ?_ (fun hH3 => ?_)
              · exact HKP.out _ (X2.alloc X2.size _)
              clear hK K hH2
              (try simp only [Act.put, List.setIfInBounds_toArray, List.set_cons_zero, List.set_cons_succ])
              refine wpAnyH_ready (rs := [5]) (by kernel_rfl) (by simp) ?_
              refine (AllReadyH.cons (o := ({ dst := none, op := Op.store 31 (Operand.tmp 6) (Operand.tmp 22), type := 0, pos := "ref.go:309", after := #[{ on := 4, ground := Ground.data }, { on := 3, ground := Ground.data }, { on := 3, ground := Ground.chain }, { on := 0, ground := Ground.phase }, { on := 1, ground := Ground.phase }, { on := 2, ground := Ground.phase }, { on := 3, ground := Ground.phase }, { on := 4, ground := Ground.phase }], guard := none } : Oper)) rfl (fun K hK => ?_) AllReadyH.nil)
              go_simp
              refine hK.out _ _ ?_ (fun hH4 => ?_)
              · exact HKP.out _ (X2.alloc X2.size _)
              clear hK K hH3
              (try simp only [Act.put, List.setIfInBounds_toArray, List.set_cons_zero, List.set_cons_succ])
              refine wpAnyH_done (by kernel_rfl) ?_ _
              refine NoPanic.normal ?_
              go_wp2
              go_meet
              exact ⟨_, _, _, _, _, _, rfl, RBox.new IB.out, X2.size, by omega, X2.alloc X2.size _⟩
            · go_simp
              refine hK.out _ _ ?_ (fun hH2 => ?_)
              · exact HKP.out _ (X1.alloc X1.size _)
              clear hK K hH1
              (try simp only [Act.put, List.setIfInBounds_toArray, List.set_cons_zero, List.set_cons_succ])
              refine wpAnyH_ready (rs := [3]) (by kernel_rfl) (by simp) ?_
              refine (AllReadyH.cons (o := ({ dst := some 22, op := Op.call { callee := Callee.value (Operand.func 39), args := #[Operand.tmp 19, Operand.tmp 21], argTypes := #[31, 31] }, type := 31, pos := "ref.go:309", after := #[{ on := 0, ground := Ground.data }, { on := 2, ground := Ground.data }, { on := 2, ground := Ground.chain }], guard := none } : Oper)) rfl (fun K hK => ?_) AllReadyH.nil)
              go_simp
              refine (radd_any _ _ _ _ _ _ _ _ _ _ _ (V : Int) (2 ^ s) (HBX.out.it.below (X1.alloc X1.size _)) (IA.out.below ((Below.refl _ _).alloc (Nat.le_refl _) _)) (by omega) (by omega)).mono ?_
              rintro e v2 ⟨nB, aB, kB, cB, zB, rfl, iB, gB, uB⟩
              have X2 : Below wr.heap.size wr v2 := (X1.alloc X1.size _).trans (uB.mono (X1.alloc X1.size _).size)
              have IB := Lib.hid iB
              have row : v2.heap[v1.heap.size]? = some (.cells #[.bool false, .slice none 0 0] 31 (0, 0)) := (uB.block v1.heap.size (by simp)).trans (heap_alloc_new v1 _)
              obtain ⟨t0, t1, q0, q1⟩ := blk2 row
              clear iB uB
              refine hK.out _ _ ?_ (fun hH3 => ?_)
              · exact HKP.out _ X2
              clear hK K hH2
              (try simp only [Act.put, List.setIfInBounds_toArray, List.set_cons_zero, List.set_cons_succ])
              refine wpAnyH_ready (rs := [5]) (by kernel_rfl) (by simp) ?_
              refine (AllReadyH.cons (o := ({ dst := none, op := Op.store 31 (Operand.tmp 6) (Operand.tmp 22), type := 0, pos := "ref.go:309", after := #[{ on := 4, ground := Ground.data }, { on := 3, ground := Ground.data }, { on := 3, ground := Ground.chain }, { on := 0, ground := Ground.phase }, { on := 1, ground := Ground.phase }, { on := 2, ground := Ground.phase }, { on := 3, ground := Ground.phase }, { on := 4, ground := Ground.phase }], guard := none } : Oper)) rfl (fun K hK => ?_) AllReadyH.nil)
              go_simp
              refine hK.out _ _ ?_ (fun hH4 => ?_)
              · exact HKP.out _ ((X2.setCell (p := ⟨v1.heap.size, 0, none⟩) (X1.size) _).setCell (p := ⟨v1.heap.size, 1, none⟩) (X1.size) _)
              clear hK K hH3
              (try simp only [Act.put, List.setIfInBounds_toArray, List.set_cons_zero, List.set_cons_succ])
              refine wpAnyH_done (by kernel_rfl) ?_ _
              refine NoPanic.normal ?_
              go_wp2
              go_meet
              exact ⟨_, _, _, _, _, _, rfl, RBox.put IB.out row, X1.size, by omega, (X2.setCell (p := ⟨v1.heap.size, 0, none⟩) (X1.size) _).setCell (p := ⟨v1.heap.size, 1, none⟩) (X1.size) _⟩
          · go_simp
            refine hK.out _ _ ?_ (fun hH1 => ?_)
            · exact HKP.out _ ((Below.refl _ _).drew.alloc (Nat.le_refl _) _)
            clear hK K hH0
            (try simp only [Act.put, List.setIfInBounds_toArray, List.set_cons_zero, List.set_cons_succ])
            refine wpAnyH_ready (rs := [2]) (by kernel_rfl) (by simp) ?_
            refine (AllReadyH.cons (o := ({ dst := some 21, op := Op.call { callee := Callee.value (Operand.func 97), args := #[Operand.tmp 20], argTypes := #[3] }, type := 31, pos := "ref.go:309", after := #[{ on := 1, ground := Ground.data }], guard := none } : Oper)) rfl (fun K hK => ?_) AllReadyH.nil)
            go_simp
            refine (rtwo_any _ s (by omega)).mono ?_
            rintro e v1 ⟨nA, aA, kA, cA, zA, rfl, iA, gA, uA⟩
            have X1 : Below wr.heap.size wr v1 := Below.trans ((Below.refl _ _).drew.alloc (Nat.le_refl _) _) (uA.mono (by first | exact Nat.le_refl _ | simp))
            have IA := Lib.hid iA
            have row : v1.heap[wr.heap.size]? = some (.cells #[.bool false, .slice none 0 0] 31 (0, 0)) := (uA.block wr.heap.size (by simp)).trans (heap_alloc_new wr.drew _)
            clear iA uA
            refine hK.out _ _ ?_ (fun hH2 => ?_)
            · exact HKP.out _ X1
            clear hK K hH1
            (try simp only [Act.put, List.setIfInBounds_toArray, List.set_cons_zero, List.set_cons_succ])
            refine wpAnyH_ready (rs := [3]) (by kernel_rfl) (by simp) ?_
            refine (AllReadyH.cons (o := ({ dst := some 22, op := Op.call { callee := Callee.value (Operand.func 39), args := #[Operand.tmp 19, Operand.tmp 21], argTypes := #[31, 31] }, type := 31, pos := "ref.go:309", after := #[{ on := 0, ground := Ground.data }, { on := 2, ground := Ground.data }, { on := 2, ground := Ground.chain }], guard := none } : Oper)) rfl (fun K hK => ?_) AllReadyH.nil)
            go_simp
            refine (radd_any _ _ _ _ _ _ _ _ _ _ _ (V : Int) (2 ^ s) (HBX.out.it.below X1) (IA.out) (by omega) (by omega)).mono ?_
            rintro e v2 ⟨nB, aB, kB, cB, zB, rfl, iB, gB, uB⟩
            have X2 : Below wr.heap.size wr v2 := X1.trans (uB.mono X1.size)
            have IB := Lib.hid iB
            replace row : v2.heap[wr.heap.size]? = some (.cells #[.bool false, .slice none 0 0] 31 (0, 0)) := (uB.block wr.heap.size (World.block_lt_of_cell? _ _ (blk2 row).1)).trans row
            obtain ⟨t0, t1, q0, q1⟩ := blk2 row
            clear iB uB
            refine hK.out _ _ ?_ (fun hH3 => ?_)
            · exact HKP.out _ X2
            clear hK K hH2
            (try simp only [Act.put, List.setIfInBounds_toArray, List.set_cons_zero, List.set_cons_succ])
            refine wpAnyH_ready (rs := [5]) (by kernel_rfl) (by simp) ?_
            refine (AllReadyH.cons (o := ({ dst := none, op := Op.store 31 (Operand.tmp 6) (Operand.tmp 22), type := 0, pos := "ref.go:309", after := #[{ on := 4, ground := Ground.data }, { on := 3, ground := Ground.data }, { on := 3, ground := Ground.chain }, { on := 0, ground := Ground.phase }, { on := 1, ground := Ground.phase }, { on := 2, ground := Ground.phase }, { on := 3, ground := Ground.phase }, { on := 4, ground := Ground.phase }], guard := none } : Oper)) rfl (fun K hK => ?_) AllReadyH.nil)
            go_simp
            refine hK.out _ _ ?_ (fun hH4 => ?_)
            · exact HKP.out _ ((X2.setCell (p := ⟨wr.heap.size, 0, none⟩) (Nat.le_refl _) _).setCell (p := ⟨wr.heap.size, 1, none⟩) (Nat.le_refl _) _)
            clear hK K hH3
            (try simp only [Act.put, List.setIfInBounds_toArray, List.set_cons_zero, List.set_cons_succ])
            refine wpAnyH_done (by kernel_rfl) ?_ _
            refine NoPanic.normal ?_
            go_wp2
            go_meet
            exact ⟨_, _, _, _, _, _, rfl, RBox.put IB.out row, Nat.le_refl _, by omega, (X2.setCell (p := ⟨wr.heap.size, 0, none⟩) (Nat.le_refl _) _).setCell (p := ⟨wr.heap.size, 1, none⟩) (Nat.le_refl _) _⟩
      case rest =>
        obtain ⟨b, sN, aN, nN, cN, zN, rfl, hnb, hbge, hnN, hbw⟩ := hcut
        rename World => wn
        clear HKP b0 b1 bf0 bf1 y0 y1
        obtain ⟨N, hN⟩ : ∃ N, N = V + 2 ^ s := ⟨_, rfl⟩
        have hNI : (V : Int) + 2 ^ s = (N : Int) := by rw [hN]; simp
        rw [hNI] at hnb
        have HNE := Lib.hid hN
        have HNB := Lib.hid hnb
        have HBX2 := Lib.hid (HBX.out.below hbw)
        have HBL2 := Lib.hid (HBL.out.trans (hbw.mono HBL.out.size))
        have HRX2 := Lib.hid ((hbw.block _ hxw).trans HRX.out)
        have HRZ2 := Lib.hid ((hbw.block _ (by omega)).trans HRZ.out)
        have hlb : b < wn.heap.size := (Array.getElem?_eq_some_iff.1 hnb.row).1
        have hlx : w.heap.size < wn.heap.size := by have := hbw.size; omega
        have hlz : w.heap.size + 1 < wn.heap.size := by have := hbw.size; omega
        have hlp : p < wn.heap.size := by have := hbw.size; omega
        obtain ⟨n0, n1, -, -⟩ := blk2 hnb.row
        obtain ⟨y0, y1, -, -⟩ := blk2 HRX2.out
        have HKN : Hid (∀ w', Below wn.heap.size wn w' → (w'.cell? ⟨b, 0, none⟩ = some (.bool sN) ∧ w'.cell? ⟨b, 1, none⟩ = some (.slice aN nN cN) ∧ w'.cell? ⟨w.heap.size, 0, none⟩ = some (.bool nx) ∧ w'.cell? ⟨w.heap.size, 1, none⟩ = some (.slice ao n cap))) := Lib.hid (fun w' hb => ⟨(hb.cell (p := ⟨b, 0, none⟩) hlb).trans n0, (hb.cell (p := ⟨b, 1, none⟩) hlb).trans n1, (hb.cell (p := ⟨w.heap.size, 0, none⟩) hlx).trans y0, (hb.cell (p := ⟨w.heap.size, 1, none⟩) hlx).trans y1⟩)
        have HXN : Hid (RefAt wn nx ao n cap xs (X : Int)) := Lib.hid (HX.out.below HBL2.out)
        obtain ⟨d, hd⟩ : ∃ d, cmpI ((N : Int) * N) (X : Int) = d := ⟨_, rfl⟩
        have HD := Lib.hid hd
        clear hnb hN hNI HBX HBL HRX HRZ hd hbw
        go_wp2_with fail
        go_region_held3 (fun w' => w'.cell? ⟨b, 0, none⟩ = some (.bool sN) ∧ w'.cell? ⟨b, 1, none⟩ = some (.slice aN nN cN) ∧ w'.cell? ⟨w.heap.size, 0, none⟩ = some (.bool nx) ∧ w'.cell? ⟨w.heap.size, 1, none⟩ = some (.slice ao n cap)) ((first | exact HKN.out _ Xr2 | exact HKN.out _ Xr1 | exact HKN.out _ (Below.refl _ _).drew))
          (first | (go_at_call 33; have Tr2 := Xr1; clear Tr2; refine (rcmp_is _ _ _ _ _ _ _ _ _ _ _ _ _ d IC1.out (HXN.out.below Xr1) (by omega) (by omega) HD.out).mono ?_; rintro e vr2 ⟨rfl, ur2⟩; have Xr2 : Below wn.heap.size wn vr2 := Xr1.trans (ur2.mono Xr1.size)) | (go_at_call 43; refine (rmul_any _ _ _ _ _ _ _ _ _ _ _ (N : Int) (N : Int) (HNB.out.it.below (Below.refl _ _).drew) (HNB.out.it.below (Below.refl _ _).drew) (by omega) (by omega)).mono ?_; rintro e vr1 ⟨nC1, aC1, kC1, cC1, zC1, rfl, iC1, gC1, ur1⟩; have Xr1 : Below wn.heap.size wn vr1 := (Below.refl _ _).drew.trans ur1; have IC1 := Lib.hid iC1; clear iC1))
        have hz8 := Xr2.size
        have HB8 := Lib.hid (HBX2.out.below Xr2)
        have HN8 := Lib.hid (HNB.out.below Xr2)
        have HL8 := Lib.hid (HBL2.out.trans (Xr2.mono HBL2.out.size))
        have HX8 := Lib.hid ((Xr2.block _ hlx).trans HRX2.out)
        have HZ8 := Lib.hid ((Xr2.block _ hlz).trans HRZ2.out)
        clear n0 n1 y0 y1
        by_cases hdc : d ≤ 0
        · have hle : N * N ≤ X := by
            have := HD.out
            rw [← this] at hdc
            unfold cmpI at hdc
            have h3 : ((N : Int) * N) ≤ X := by
              rcases Int.lt_or_le (X : Int) ((N : Int) * N) with h | h
              · exfalso
                split at hdc <;> first | omega | (split at hdc <;> omega)
              · exact h
            exact_mod_cast h3
          have hub : X < (N + 2 ^ s) * (N + 2 ^ s) := by
            have h1 := HV2.out
            have h2 : V + 2 ^ (s + 1) = N + 2 ^ s := by rw [HNE.out, Nat.pow_succ]; omega
            rwa [h2] at h1
          have HLE := Lib.hid hle
          have HUB := Lib.hid hub
          obtain ⟨v0, v1, -, -⟩ := blk2 HN8.out.row
          obtain ⟨q0, q1, qf0, qf1⟩ := blk2 HB8.out.row
          have HPUT := Lib.hid (RBox.put HN8.out.it HB8.out.row)
          have HL9 := Lib.hid ((HL8.out.setCell (p := ⟨p, 0, none⟩) (by dsimp only; omega) (.bool sN)).setCell (p := ⟨p, 1, none⟩) (by dsimp only; omega) (.slice aN nN cN))
          have hx9 : ((vr2.setCell ⟨p, 0, none⟩ (.bool sN)).setCell ⟨p, 1, none⟩ (.slice aN nN cN)).heap[w.heap.size]? = some (.cells #[.bool nx, .slice ao n cap] 31 (0, 0)) := by rw [Below.heap_setCell _ _ _ _ (by dsimp only; omega), Below.heap_setCell _ _ _ _ (by dsimp only; omega)]; exact HX8.out
          have hz9 : ((vr2.setCell ⟨p, 0, none⟩ (.bool sN)).setCell ⟨p, 1, none⟩ (.slice aN nN cN)).heap[w.heap.size + 1]? = some (.cells #[.bool false, .slice none 0 0] 31 (0, 0)) := by rw [Below.heap_setCell _ _ _ _ (by dsimp only; omega), Below.heap_setCell _ _ _ _ (by dsimp only; omega)]; exact HZ8.out
          have HX9 := Lib.hid hx9
          have HZ9 := Lib.hid hz9
          clear hle hub hx9 hz9
          go_wp2_with fail
          go_roundw
          case rel =>
            refine ⟨s, N, sN, aN, nN, cN, zN, ?_, HLE.out, HUB.out, HPUT.out, HL9.out, HX9.out, HZ9.out⟩
            rcases Nat.eq_zero_or_pos s with h0 | h0
            · left; exact ⟨h0, by rw [h0]; rfl⟩
            · right; exact ⟨s - 1, by omega, by omega, by rw [show ((s - 1 : Nat) : Int) = (s : Int) - 1 by omega]⟩
          case measure => simp [intOf]
        · have hgt : X < (V + 2 ^ s) * (V + 2 ^ s) := by
            have := HD.out
            rw [← HNE.out]
            rw [← this] at hdc
            unfold cmpI at hdc
            have h3 : (X : Int) < ((N : Int) * N) := by
              rcases Int.lt_or_le (X : Int) ((N : Int) * N) with h | h
              · exact h
              · exfalso
                apply hdc
                split
                · omega
                · split <;> omega
            exact_mod_cast h3
          have HGT := Lib.hid hgt
          clear hgt
          go_wp2_with fail
          go_roundw
          case rel =>
            refine ⟨s, V, sj, aj, mj, cj, zj, ?_, HV1.out, HGT.out, HB8.out, HL8.out, HX8.out, HZ8.out⟩
            rcases Nat.eq_zero_or_pos s with h0 | h0
            · left; exact ⟨h0, by rw [h0]; rfl⟩
            · right; exact ⟨s - 1, by omega, by omega, by rw [show ((s - 1 : Nat) : Int) = (s : Int) - 1 by omega]⟩
          case measure => simp [intOf]
end Go.Proofs.Ytpakfknacmcohaa
