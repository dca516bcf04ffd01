/- Floor of the reference, by a divisor above 0. -/
import Derived.Test.YtpakfknacmcohaaRDiv
import Derived.Test.YtpakfknacmcohaaDep
namespace Go.Proofs.Ytpakfknacmcohaa
open Go.RowKit
set_option autoImplicit false
set_option linter.unusedVariables false

theorem floor_down {x y : Int} (hy : 0 < y) (hx : x < 0) (hr : Int.tmod x y ≠ 0) : x / y = Int.tdiv x y - 1 := by
  have h1 := Int.mul_tdiv_add_tmod x y
  have h2 : Int.tmod x y < 0 := by
    have h3 : Int.tmod x y ≤ 0 := by
      rw [show x = -(-x) by omega, Int.neg_tmod]
      have := Int.tmod_nonneg (a := -x) y (by omega)
      omega
    omega
  have h4 : -y < Int.tmod x y := by
    rw [show x = -(-x) by omega, Int.neg_tmod]
    have := Int.tmod_lt_of_pos (-x) hy
    omega
  have e : x = (Int.tmod x y + y) + y * (Int.tdiv x y - 1) := by rw [Int.mul_sub]; omega
  obtain ⟨t, ht⟩ : ∃ t, Int.tdiv x y = t := ⟨_, rfl⟩
  obtain ⟨u, hu⟩ : ∃ u, Int.tmod x y = u := ⟨_, rfl⟩
  rw [ht, hu] at e
  rw [ht]
  rw [hu] at h2 h4
  rw [e, Int.add_mul_ediv_left _ _ (by omega), Int.ediv_eq_zero_of_lt (by omega) (by omega)]
  omega
theorem floor_same {x y : Int} (hy : 0 < y) (h : 0 ≤ x ∨ Int.tmod x y = 0) : x / y = Int.tdiv x y := by
  rcases h with h | h
  · exact (Int.tdiv_eq_ediv_of_nonneg h).symm
  · have h1 := Int.mul_tdiv_add_tmod x y
    rw [h, Int.add_zero] at h1
    obtain ⟨t, ht⟩ : ∃ t, Int.tdiv x y = t := ⟨_, rfl⟩
    rw [ht] at h1 ⊢
    rw [← h1, Int.mul_ediv_cancel_left _ (by omega)]

set_option maxRecDepth 100000 in
set_option maxHeartbeats 2000000 in
theorem rfloor_any (w : World) (nx : Bool) (ao bo : Option Addr) (n m capa capb : Nat) (xs ys : List Int) (x y : Int) (hx : RefAt w nx ao n capa xs x) (hy : RefAt w false bo m capb ys y) (hn : n ≤ 1048576) (hm : m ≤ 1048576) (hy0 : 0 < y) :
    Calls Try.prog 106 #[.agg #[.bool nx, .slice ao n capa], .agg #[.bool false, .slice bo m capb]] w (RetRef w (x / y) (n + 5)) := by
  have HD : Hid (∀ w', Below w.heap.size w w' → Calls Try.prog 31 #[.agg #[.bool nx, .slice ao n capa], .agg #[.bool false, .slice bo m capb]] w' (RetQRem w' (Int.tdiv x y) (Int.tmod x y) n (m + 2))) := Lib.hid (fun w' hb =>
    rdivide_any w' nx false ao bo n m capa capb xs ys x y (hx.below hb) (hy.below hb) hn hm (by omega))
  have HNX : Hid (nx = decide (x < 0)) := Lib.hid (neg_iff hx)
  have HY0 := Lib.hid hy0
  clear hx hy hy0
  go_enter Try.func106, Try.ntmps106
  go_wp2_with fail
  refine (HD.out _ (by go_grown)).mono ?_
  rintro e w1 ⟨nA, aA, kA, cA, zA, nB, aB, kB, cB, zB, rfl, iA, iB, gA, gB, hb1⟩
  obtain ⟨r1, r2, r3⟩ := three_rows w (.cells #[.bool nx, .slice ao n capa] 31) (.cells #[.bool false, .slice bo m capb] 31) (.cells #[.bool false, .slice none 0 0] 31)
  replace r1 := (hb1.block w.heap.size (by go_size)).trans r1
  replace r2 := (hb1.block (w.heap.size + 1) (by go_size)).trans r2
  replace r3 := (hb1.block (w.heap.size + 1 + 1) (by go_size)).trans r3
  have hz1 : w.heap.size + 1 + 1 + 1 ≤ w1.heap.size := Nat.le_trans (by go_size) hb1.size
  have hb2 : Below w.heap.size w w1 := Below.trans (by go_grown) (hb1.mono (by go_size))
  have IA := Lib.hid iA
  have IB := Lib.hid iB
  clear hb1 iA iB
  go_upto_region 2 with (fail)
  obtain ⟨ws, hws⟩ : ∃ ws, ws = (w1.alloc (.cells #[.bool nA, .slice aA kA cA] 31)).alloc (.cells #[.bool nB, .slice aB kB cB] 31) := ⟨_, rfl⟩
  have b1s : Below w1.heap.size w1 ws := by rw [hws]; go_grown
  have k5 : ws.heap[w1.heap.size]? = some (.cells #[.bool nA, .slice aA kA cA] 31 (0, 0)) := by rw [hws]; exact (heap_alloc2 w1 _ _).2
  have k6 : ws.heap[w1.heap.size + 1]? = some (.cells #[.bool nB, .slice aB kB cB] 31 (0, 0)) := by rw [hws]; exact (heap_alloc2 w1 _ _).1
  have hzs : w1.heap.size + 1 + 1 ≤ ws.heap.size := by rw [hws]; go_size
  rw [← hws]
  clear hws
  obtain ⟨p5, hp5⟩ : ∃ p, p = w1.heap.size := ⟨_, rfl⟩
  obtain ⟨p6, hp6⟩ : ∃ p, p = w1.heap.size + 1 := ⟨_, rfl⟩
  rw [← hp6] at k6 ⊢
  rw [← hp5] at k5 ⊢
  have hp5l : p5 < ws.heap.size := by omega
  have hp6l : p6 < ws.heap.size := by omega
  have hp5g : w.heap.size + 1 + 1 < p5 := by omega
  have hz3 : w.heap.size + 1 + 1 < ws.heap.size := by omega
  have q1 := (b1s.block _ (by omega)).trans r1
  have q2 := (b1s.block _ (by omega)).trans r2
  have q3 := (b1s.block _ (by omega)).trans r3
  have hb3 : Below w.heap.size w ws := hb2.trans (b1s.mono hb2.size)
  replace IA := Lib.hid (IA.out.below b1s)
  replace IB := Lib.hid (IB.out.below b1s)
  obtain ⟨t0, t1, -, -⟩ := blk2 k6
  have K5 := Lib.hid k5
  have Q1 := Lib.hid q1
  have Q2 := Lib.hid q2
  have Q3 := Lib.hid q3
  clear r1 r2 r3 b1s hp5 hp6 k5 k6 q1 q2 q3 hb2
  go_wp2_with fail
  obtain ⟨c, hc⟩ : ∃ c, cmpI (Int.tmod x y) 0 = c := ⟨_, rfl⟩
  have hsg := rsign_any ws nB aB kB cB zB _ IB.out
  rw [hc] at hsg
  refine hsg.mono ?_
  clear hsg t0 t1
  rintro e w2 ⟨rfl, u2⟩
  have hb4 : Below w.heap.size w w2 := hb3.trans (u2.mono hb3.size)
  have hz4 := u2.size
  obtain ⟨x0, x1, -, -⟩ := blk2 ((u2.block _ (by omega)).trans Q1.out)
  obtain ⟨y0, y1, -, -⟩ := blk2 ((u2.block _ (by omega)).trans Q2.out)
  have q3 := (u2.block _ (by omega)).trans Q3.out
  obtain ⟨c0, c1, f0, f1⟩ := blk2 q3
  obtain ⟨a0, a1, -, -⟩ := blk2 ((u2.block _ (by omega)).trans K5.out)
  replace IA := Lib.hid (IA.out.below u2)
  replace Q3 := Lib.hid q3
  clear Q1 Q2 K5 IB u2 q3
  by_cases hz : Int.tmod x y = 0
  · have hc0 : (c != 0) = false := by rw [← hc, hz]; rfl
    have HF := Lib.hid (floor_same HY0.out (.inr hz))
    clear hc hz
    go_wp2_with fail
    have HI := Lib.hid (IA.out.stored Q3.out (.bool nA) (.slice aA kA cA))
    refine bodyPost_ret (v := .agg #[.bool nA, .slice aA kA cA]) (by simp [results, Try.results106, go_sem, c0, c1]) rfl ?_
    exact fin_ref (by omega) hb4 HI.out HF.out.symm (by omega)
  · have hc0 : (c != 0) = true := by
      have : c ≠ 0 := by rw [← hc]; unfold cmpI; split <;> (try split) <;> omega
      simpa using this
    cases nx
    · have HF := Lib.hid (floor_same HY0.out (.inl (show 0 ≤ x by have := HNX.out; simp at this; omega)))
      clear hc hz
      go_wp2_with fail
      have HI := Lib.hid (IA.out.stored Q3.out (.bool nA) (.slice aA kA cA))
      refine bodyPost_ret (v := .agg #[.bool nA, .slice aA kA cA]) (by simp [results, Try.results106, go_sem, c0, c1]) rfl ?_
      exact fin_ref (by omega) hb4 HI.out HF.out.symm (by omega)
    · have HF := Lib.hid (floor_down HY0.out (show x < 0 by have := HNX.out; simp at this; omega) hz)
      clear hc hz
      go_wp2_with fail
      have HKP : Hid (∀ w', Below w2.heap.size w2 w' → (w'.cell? ⟨p5, 0, none⟩ = some (.bool nA) ∧ w'.cell? ⟨p5, 1, none⟩ = some (.slice aA kA cA))) := Lib.hid (fun w' hb => ⟨(hb.cell (p := ⟨p5, 0, none⟩) (by dsimp only; omega)).trans a0, (hb.cell (p := ⟨p5, 1, none⟩) (by dsimp only; omega)).trans a1⟩)
      go_region_held3 (fun w' => w'.cell? ⟨p5, 0, none⟩ = some (.bool nA) ∧ w'.cell? ⟨p5, 1, none⟩ = some (.slice aA kA cA)) ((first | exact HKP.out _ X2 | exact HKP.out _ X1 | exact HKP.out _ (Below.refl _ _).drew | (go_split_ands; refine ⟨?_, ?_⟩ <;> (rw [World.cell?_setCell_far _ _ _ _ (by dsimp only; omega), World.cell?_setCell_far _ _ _ _ (by dsimp only; omega)]; assumption))))
        (first | (go_at_call 41; have T2 := X1; clear T2; refine (rsub_any v1 nA nC aA aC kA kC cA cC zA zC _ 1 (IA.out.below X1) IC.out (by omega) (by omega)).mono ?_; rintro e v2 ⟨nE, aE, kE, cE, zE, rfl, iE, gE, uE⟩; have X2 : Below w2.heap.size w2 v2 := X1.trans (uE.mono X1.size); have r3 := (X2.block _ (by omega)).trans Q3.out; obtain ⟨c0, c1, f0, f1⟩ := blk2 r3; have IE := Lib.hid (iE.stored r3 (.bool nE) (.slice aE kE cE)); clear iE r3 uE) | (go_at_call 18; refine (rnew_any _ 1 (by omega) (by omega)).mono ?_; rintro e v1 ⟨nC, aC, kC, cC, zC, rfl, iC, gC, uC⟩; have X1 : Below w2.heap.size w2 v1 := (Below.refl _ _).drew.trans uC; have IC := Lib.hid iC; clear iC uC))
      have hb5 : Below w.heap.size w v2 := hb4.trans (X2.mono hb4.size)
      go_wp2_with fail
      refine bodyPost_ret (v := .agg #[.bool nE, .slice aE kE cE]) (by simp [results, Try.results106, go_sem, c0, c1]) rfl ?_
      exact fin_ref (by omega) hb5 IE.out HF.out.symm (by omega)
end Go.Proofs.Ytpakfknacmcohaa
