/- Shift of the reference. -/
import Derived.Test.YtpakfknacmcohaaFloor
import Derived.Test.YtpakfknacmcohaaBoo4
namespace Go.Proofs.Ytpakfknacmcohaa
open Go.RowKit
set_option autoImplicit false
set_option linter.unusedVariables false

theorem rwidth_bd' {w : World} {nx : Bool} {ao : Option Addr} {n cap : Nat} {xs : List Int} {x : Int} (hx : RefAt w nx ao n cap xs x) (E : Nat) (hn : 16 * n ≤ E) : blen x.natAbs ≤ E := by
  have h1 := dval_lt (r := 65536) (by omega) hx.lim
  rw [hx.sl.len, pow16] at h1
  have h2 := dval_nonneg (r := 65536) (by omega) hx.lim
  have h3 := hx.val
  rw [blen_le_iff]
  obtain ⟨v, hv⟩ : ∃ v, dval 65536 xs = v := ⟨_, rfl⟩
  rw [hv] at h1 h2 h3
  have h4 : x.natAbs = v.toNat := by cases nx <;> simp [sgn] at h3 <;> omega
  have h6 : 2 ^ (16 * n) ≤ 2 ^ E := Nat.pow_le_pow_right (by omega) hn
  omega
theorem rlen_bd' {w : World} {nx : Bool} {ao : Option Addr} {n cap : Nat} {xs : List Int} {x : Int} (hx : RefAt w nx ao n cap xs x) (E : Nat) (hn : 16 * n ≤ E) : blen (cpl x).toNat ≤ E := by
  have h1 := rwidth_bd' hx E hn
  rw [blen_le_iff] at h1 ⊢
  unfold cpl
  split <;> omega
theorem rwidth_bd {w : World} {nx : Bool} {ao : Option Addr} {n cap : Nat} {xs : List Int} {x : Int} (hx : RefAt w nx ao n cap xs x) (hn : n ≤ 1000) : blen x.natAbs ≤ 16000 := rwidth_bd' hx _ (by omega)
theorem rlen_bd {w : World} {nx : Bool} {ao : Option Addr} {n cap : Nat} {xs : List Int} {x : Int} (hx : RefAt w nx ao n cap xs x) (hn : n ≤ 1000) : blen (cpl x).toNat ≤ 16000 := rlen_bd' hx _ (by omega)
theorem rfloor_pos (w : World) (nx ny : Bool) (ao bo : Option Addr) (n m capa capb : Nat) (xs ys : List Int) (x y : Int) (hx : RefAt w nx ao n capa xs x) (hy : RefAt w ny bo m capb ys y) (hn : n ≤ 1048576) (hm : m ≤ 1048576) (hy0 : 0 < y) :
    Calls Try.prog 106 #[.agg #[.bool nx, .slice ao n capa], .agg #[.bool ny, .slice bo m capb]] w (RetRef w (x / y) (n + 5)) := by
  have h := neg_iff hy
  rw [decide_eq_false (by omega)] at h
  subst h
  exact rfloor_any w nx ao bo n m capa capb xs ys x y hx hy hn hm hy0

set_option maxRecDepth 100000 in
theorem rshift_zero (w : World) (nx : Bool) (ao : Option Addr) (n cap : Nat) (xs : List Int) (x : Int) (k : Int) (hx : RefAt w nx ao n cap xs x) (h0 : x = 0) :
    Calls Try.prog 55 #[.agg #[.bool nx, .slice ao n cap], .int .i64 k] w (RetRE w 0 n) := by
  obtain ⟨c, hc⟩ : ∃ c, cmpI x 0 = c := ⟨_, rfl⟩
  have HS : Hid (∀ w', Below w.heap.size w w' → Calls Try.prog 23 #[.agg #[.bool nx, .slice ao n cap]] w' (RetV w' (.int .i64 c))) := Lib.hid (fun w' hb => by
    rw [← hc]; exact rsign_any w' nx ao n cap xs x (hx.below hb))
  have HX := Lib.hid hx
  have hc0 : (c == 0) = true := by rw [← hc, h0]; rfl
  rw [h0] at HX
  clear hx hc h0
  go_enter Try.func55, Try.ntmps55
  go_wp2_with fail
  refine (HS.out _ (by go_grown)).mono ?_
  rintro e w1 ⟨rfl, hb1⟩
  have r1 := (hb1.block w.heap.size (by go_size)).trans (heap_alloc2 w _ _).2
  have r2 := (hb1.block (w.heap.size + 1) (by go_size)).trans (heap_alloc2 w _ _).1
  have hz1 : w.heap.size + 1 + 1 ≤ w1.heap.size := Nat.le_trans (by go_size) hb1.size
  have hb2 : Below w.heap.size w w1 := Below.trans (by go_grown) (hb1.mono (by go_size))
  obtain ⟨x0, x1, -, -⟩ := blk2 r1
  have R1 := Lib.hid r1
  have R2 := Lib.hid r2
  obtain ⟨c0, c1, f0, f1⟩ := blk2 r2
  clear r1 r2
  have hb3 : Below w.heap.size w w1 := hb2
  have HI := Lib.hid ((HX.out.below hb2).stored R2.out (.bool nx) (.slice ao n cap))
  clear hb1
  go_wp2_with fail
  refine bodyPost_ret (v := .tuple #[.agg #[.bool nx, .slice ao n cap], .int .i64 0]) (by simp [results, Try.results55, go_sem, c0, c1]) rfl ?_
  exact ⟨_, _, _, _, _, rfl, HI.out, by omega, (hb3.setCell (p := ⟨w.heap.size + 1, 0, none⟩) (by dsimp only; omega) _).setCell (p := ⟨w.heap.size + 1, 1, none⟩) (by dsimp only; omega) _⟩

set_option maxRecDepth 100000 in
theorem rshift_large (w : World) (nx : Bool) (ao : Option Addr) (n cap : Nat) (xs : List Int) (x : Int) (k : Int) (hx : RefAt w nx ao n cap xs x) (h0 : x ≠ 0) (hk : 65536 < k) :
    Calls Try.prog 55 #[.agg #[.bool nx, .slice ao n cap], .int .i64 k] w (RetZeroR w 14) := by
  obtain ⟨c, hc⟩ : ∃ c, cmpI x 0 = c := ⟨_, rfl⟩
  have HS : Hid (∀ w', Below w.heap.size w w' → Calls Try.prog 23 #[.agg #[.bool nx, .slice ao n cap]] w' (RetV w' (.int .i64 c))) := Lib.hid (fun w' hb => by
    rw [← hc]; exact rsign_any w' nx ao n cap xs x (hx.below hb))
  have HX := Lib.hid hx
  have hcn : (c == 0) = false := by
    have : c ≠ 0 := by rw [← hc]; unfold cmpI; split <;> (try split) <;> omega
    simpa using this
  have hk0 : 0 ≤ k := by omega
  clear hx hc h0
  go_enter Try.func55, Try.ntmps55
  go_wp2_with fail
  refine (HS.out _ (by go_grown)).mono ?_
  rintro e w1 ⟨rfl, hb1⟩
  have r1 := (hb1.block w.heap.size (by go_size)).trans (heap_alloc2 w _ _).2
  have r2 := (hb1.block (w.heap.size + 1) (by go_size)).trans (heap_alloc2 w _ _).1
  have hz1 : w.heap.size + 1 + 1 ≤ w1.heap.size := Nat.le_trans (by go_size) hb1.size
  have hb2 : Below w.heap.size w w1 := Below.trans (by go_grown) (hb1.mono (by go_size))
  obtain ⟨x0, x1, -, -⟩ := blk2 r1
  have R1 := Lib.hid r1
  have R2 := Lib.hid r2
  obtain ⟨c0, c1, f0, f1⟩ := blk2 r2
  clear r1 r2 hb1
  go_wp2_with fail
  refine bodyPost_ret (v := .tuple #[.agg #[.bool false, .slice none 0 0], .int .i64 14]) (by simp [results, Try.results55, go_sem, c0, c1]) rfl ?_
  exact ⟨rfl, (hb2.setCell (p := ⟨w.heap.size + 1, 0, none⟩) (by dsimp only; omega) _).setCell (p := ⟨w.heap.size + 1, 1, none⟩) (by dsimp only; omega) _⟩

set_option maxRecDepth 100000 in
set_option maxHeartbeats 1000000 in
theorem rshift_up (w : World) (nx : Bool) (ao : Option Addr) (n cap : Nat) (xs : List Int) (x : Int) (k : Nat) (hx : RefAt w nx ao n cap xs x) (h0 : x ≠ 0) (hk : k ≤ 1000) (hn : n ≤ 1000) :
    Calls Try.prog 55 #[.agg #[.bool nx, .slice ao n cap], .int .i64 (k : Int)] w (RetRE w (x * 2 ^ k) 2000) := by
  obtain ⟨c, hc⟩ : ∃ c, cmpI x 0 = c := ⟨_, rfl⟩
  have HS : Hid (∀ w', Below w.heap.size w w' → Calls Try.prog 23 #[.agg #[.bool nx, .slice ao n cap]] w' (RetV w' (.int .i64 c))) := Lib.hid (fun w' hb => by
    rw [← hc]; exact rsign_any w' nx ao n cap xs x (hx.below hb))
  have HX := Lib.hid hx
  have hcn : (c == 0) = false := by
    have : c ≠ 0 := by rw [← hc]; unfold cmpI; split <;> (try split) <;> omega
    simpa using this
  obtain ⟨L, hL⟩ : ∃ L, blen (cpl x).toNat = L := ⟨_, rfl⟩
  have hLb := rlen_bd hx hn
  rw [hL] at hLb
  have HL : Hid (∀ w', Below w.heap.size w w' → Calls Try.prog 27 #[.agg #[.bool nx, .slice ao n cap]] w' (RetV w' (.int .i64 (L : Int)))) := Lib.hid (fun w' hb => by
    rw [← hL]; exact rlength_any w' nx ao n cap xs x (hx.below hb) (by omega))
  have hk0 : (0 : Int) ≤ k := by omega
  have hk1 : ¬ (65536 : Int) < k := by omega
  have hk2 : ¬ (65536 : Int) < L + k := by omega
  clear hx hc h0 hL
  go_enter Try.func55, Try.ntmps55
  go_wp2_with fail
  refine (HS.out _ (by go_grown)).mono ?_
  rintro e w1 ⟨rfl, hb1⟩
  have r1 := (hb1.block w.heap.size (by go_size)).trans (heap_alloc2 w _ _).2
  have r2 := (hb1.block (w.heap.size + 1) (by go_size)).trans (heap_alloc2 w _ _).1
  have hz1 : w.heap.size + 1 + 1 ≤ w1.heap.size := Nat.le_trans (by go_size) hb1.size
  have hb2 : Below w.heap.size w w1 := Below.trans (by go_grown) (hb1.mono (by go_size))
  obtain ⟨x0, x1, -, -⟩ := blk2 r1
  have R1 := Lib.hid r1
  have R2 := Lib.hid r2
  clear r1 r2 hb1
  go_wp2_with fail
  refine (HL.out _ hb2).mono ?_
  rintro e w2 ⟨rfl, u2⟩
  have hb4 : Below w.heap.size w w2 := hb2.trans (u2.mono hb2.size)
  have hz4 := u2.size
  obtain ⟨z0, z1, -, -⟩ := blk2 ((u2.block _ (by omega)).trans R1.out)
  have Q2 := Lib.hid ((u2.block _ (by omega)).trans R2.out)
  clear u2 x0 x1 R1 R2
  go_wp2_with fail
  have HKP : Hid (∀ w', Below w2.heap.size w2 w' → (w'.cell? ⟨w.heap.size, 0, none⟩ = some (.bool nx) ∧ w'.cell? ⟨w.heap.size, 1, none⟩ = some (.slice ao n cap))) := Lib.hid (fun w' hb => ⟨(hb.cell (p := ⟨w.heap.size, 0, none⟩) (by dsimp only; omega)).trans z0, (hb.cell (p := ⟨w.heap.size, 1, none⟩) (by dsimp only; omega)).trans z1⟩)
  go_region_held3 (fun w' => w'.cell? ⟨w.heap.size, 0, none⟩ = some (.bool nx) ∧ w'.cell? ⟨w.heap.size, 1, none⟩ = some (.slice ao n cap)) ((first | exact HKP.out _ X2 | exact HKP.out _ X1 | exact HKP.out _ (Below.refl _ _).drew | (go_split_ands; refine ⟨?_, ?_⟩ <;> (rw [World.cell?_setCell_far _ _ _ _ (by dsimp only; omega), World.cell?_setCell_far _ _ _ _ (by dsimp only; omega)]; assumption))))
    (first | (go_at_call 43; have T2 := X1; clear T2; refine (rmul_any v1 nx nC ao aC n kC cap cC xs zC x _ ((HX.out.below hb4).below X1) IC.out (by omega) (by omega)).mono ?_; rintro e v2 ⟨nE, aE, kE, cE, zE, rfl, iE, gE, uE⟩; have X2 : Below w2.heap.size w2 v2 := X1.trans (uE.mono X1.size); have r3 := (X2.block _ (by omega)).trans Q2.out; obtain ⟨c0, c1, f0, f1⟩ := blk2 r3; have IE := Lib.hid (iE.stored r3 (.bool nE) (.slice aE kE cE)); clear iE r3 uE) | (go_at_call 97; refine (rtwo_any _ k (by omega)).mono ?_; rintro e v1 ⟨nC, aC, kC, cC, zC, rfl, iC, gC, uC⟩; have X1 : Below w2.heap.size w2 v1 := (Below.refl _ _).drew.trans uC; have IC := Lib.hid iC; clear iC uC))
  have hb5 : Below w.heap.size w v2 := hb4.trans (X2.mono hb4.size)
  go_wp2_with fail
  refine bodyPost_ret (v := .tuple #[.agg #[.bool nE, .slice aE kE cE], .int .i64 0]) (by simp [results, Try.results55, go_sem, c0, c1]) rfl ?_
  exact ⟨_, _, _, _, _, rfl, IE.out, by omega, (hb5.setCell (p := ⟨w.heap.size + 1, 0, none⟩) (by dsimp only; omega) _).setCell (p := ⟨w.heap.size + 1, 1, none⟩) (by dsimp only; omega) _⟩

set_option maxRecDepth 100000 in
set_option maxHeartbeats 1000000 in
theorem rshift_far (w : World) (nx : Bool) (ao : Option Addr) (n cap : Nat) (xs : List Int) (x : Int) (k : Int) (hx : RefAt w nx ao n cap xs x) (h0 : x ≠ 0) (hn : n ≤ 1000) (hk : k < -(blen x.natAbs : Int)) (hk9 : -9223372036854775808 ≤ k) :
    Calls Try.prog 55 #[.agg #[.bool nx, .slice ao n cap], .int .i64 k] w (RetRE w (if x < 0 then -1 else 0) 4) := by
  obtain ⟨c, hc⟩ : ∃ c, cmpI x 0 = c := ⟨_, rfl⟩
  have HS : Hid (∀ w', Below w.heap.size w w' → Calls Try.prog 23 #[.agg #[.bool nx, .slice ao n cap]] w' (RetV w' (.int .i64 c))) := Lib.hid (fun w' hb => by
    rw [← hc]; exact rsign_any w' nx ao n cap xs x (hx.below hb))
  have HX := Lib.hid hx
  have hcn : (c == 0) = false := by
    have : c ≠ 0 := by rw [← hc]; unfold cmpI; split <;> (try split) <;> omega
    simpa using this
  obtain ⟨L, hL⟩ : ∃ L, blen x.natAbs = L := ⟨_, rfl⟩
  rw [hL] at hk
  have hLb := rwidth_bd hx hn
  rw [hL] at hLb
  have HL : Hid (∀ w', Below w.heap.size w w' → Calls Try.prog 79 #[.agg #[.bool nx, .slice ao n cap]] w' (RetV w' (.int .i64 (L : Int)))) := Lib.hid (fun w' hb => by
    rw [← hL]; exact rwidth_any w' nx ao n cap xs x (hx.below hb) (by omega))
  have HNX : Hid (nx = decide (x < 0)) := Lib.hid (neg_iff hx)
  have hk0 : ¬ (0 : Int) ≤ k := by omega
  clear hx hc h0 hL
  obtain ⟨V, hV⟩ : ∃ V : Int, (if x < 0 then (-1 : Int) else 0) = V := ⟨_, rfl⟩
  rw [hV]
  cases nx
  · have HV : Hid (V = 0) := Lib.hid (by rw [← hV, if_neg (by have := HNX.out; simp at this; omega)])
    clear HNX hV
    go_enter Try.func55, Try.ntmps55
    go_wp2_with fail
    refine (HS.out _ (by go_grown)).mono ?_
    rintro e w1 ⟨rfl, hb1⟩
    have r1 := (hb1.block w.heap.size (by go_size)).trans (heap_alloc2 w _ _).2
    have r2 := (hb1.block (w.heap.size + 1) (by go_size)).trans (heap_alloc2 w _ _).1
    have hz1 : w.heap.size + 1 + 1 ≤ w1.heap.size := Nat.le_trans (by go_size) hb1.size
    have hb2 : Below w.heap.size w w1 := Below.trans (by go_grown) (hb1.mono (by go_size))
    obtain ⟨x0, x1, -, -⟩ := blk2 r1
    have R1 := Lib.hid r1
    have R2 := Lib.hid r2
    clear r1 r2 hb1
    go_wp2_with fail
    refine (HL.out _ hb2).mono ?_
    rintro e w2 ⟨rfl, u2⟩
    have hb4 : Below w.heap.size w w2 := hb2.trans (u2.mono hb2.size)
    have hz4 := u2.size
    obtain ⟨z0, z1, -, -⟩ := blk2 ((u2.block _ (by omega)).trans R1.out)
    have Q2 := Lib.hid ((u2.block _ (by omega)).trans R2.out)
    clear u2 x0 x1 R1 R2
    go_wp2_with fail
    refine (rnew_any _ (0) (by omega) (by omega)).mono ?_
    rintro e w3 ⟨nE, aE, kE, cE, zE, rfl, iE, gE, u3⟩
    have hb5 : Below w.heap.size w w3 := hb4.trans (u3.mono hb4.size)
    have r3 := (u3.block _ (by omega)).trans Q2.out
    obtain ⟨c0, c1, f0, f1⟩ := blk2 r3
    have IE := Lib.hid (iE.stored r3 (.bool nE) (.slice aE kE cE))
    have hz5 := u3.size
    clear iE r3 u3
    go_wp2_with fail
    refine bodyPost_ret (v := .tuple #[.agg #[.bool nE, .slice aE kE cE], .int .i64 0]) (by simp [results, Try.results55, go_sem, c0, c1]) rfl ?_
    exact ⟨_, _, _, _, _, rfl, by rw [HV.out]; exact IE.out, by omega, (hb5.setCell (p := ⟨w.heap.size + 1, 0, none⟩) (by dsimp only; omega) _).setCell (p := ⟨w.heap.size + 1, 1, none⟩) (by dsimp only; omega) _⟩
  · have HV : Hid (V = -1) := Lib.hid (by rw [← hV, if_pos (by have := HNX.out; simp at this; omega)])
    clear HNX hV
    go_enter Try.func55, Try.ntmps55
    go_wp2_with fail
    refine (HS.out _ (by go_grown)).mono ?_
    rintro e w1 ⟨rfl, hb1⟩
    have r1 := (hb1.block w.heap.size (by go_size)).trans (heap_alloc2 w _ _).2
    have r2 := (hb1.block (w.heap.size + 1) (by go_size)).trans (heap_alloc2 w _ _).1
    have hz1 : w.heap.size + 1 + 1 ≤ w1.heap.size := Nat.le_trans (by go_size) hb1.size
    have hb2 : Below w.heap.size w w1 := Below.trans (by go_grown) (hb1.mono (by go_size))
    obtain ⟨x0, x1, -, -⟩ := blk2 r1
    have R1 := Lib.hid r1
    have R2 := Lib.hid r2
    clear r1 r2 hb1
    go_wp2_with fail
    refine (HL.out _ hb2).mono ?_
    rintro e w2 ⟨rfl, u2⟩
    have hb4 : Below w.heap.size w w2 := hb2.trans (u2.mono hb2.size)
    have hz4 := u2.size
    obtain ⟨z0, z1, -, -⟩ := blk2 ((u2.block _ (by omega)).trans R1.out)
    have Q2 := Lib.hid ((u2.block _ (by omega)).trans R2.out)
    clear u2 x0 x1 R1 R2
    go_wp2_with fail
    refine (rnew_any _ (-1) (by omega) (by omega)).mono ?_
    rintro e w3 ⟨nE, aE, kE, cE, zE, rfl, iE, gE, u3⟩
    have hb5 : Below w.heap.size w w3 := hb4.trans (u3.mono hb4.size)
    have r3 := (u3.block _ (by omega)).trans Q2.out
    obtain ⟨c0, c1, f0, f1⟩ := blk2 r3
    have IE := Lib.hid (iE.stored r3 (.bool nE) (.slice aE kE cE))
    have hz5 := u3.size
    clear iE r3 u3
    go_wp2_with fail
    refine bodyPost_ret (v := .tuple #[.agg #[.bool nE, .slice aE kE cE], .int .i64 0]) (by simp [results, Try.results55, go_sem, c0, c1]) rfl ?_
    exact ⟨_, _, _, _, _, rfl, by rw [HV.out]; exact IE.out, by omega, (hb5.setCell (p := ⟨w.heap.size + 1, 0, none⟩) (by dsimp only; omega) _).setCell (p := ⟨w.heap.size + 1, 1, none⟩) (by dsimp only; omega) _⟩

set_option maxRecDepth 100000 in
set_option maxHeartbeats 1000000 in
theorem rshift_down (w : World) (nx : Bool) (ao : Option Addr) (n cap : Nat) (xs : List Int) (x : Int) (k : Nat) (hx : RefAt w nx ao n cap xs x) (h0 : x ≠ 0) (hn : n ≤ 1000) (hk1 : 1 ≤ k) (hk : k ≤ blen x.natAbs) :
    Calls Try.prog 55 #[.agg #[.bool nx, .slice ao n cap], .int .i64 (-(k : Int))] w (RetRE w (x / 2 ^ k) (n + 5)) := by
  obtain ⟨c, hc⟩ : ∃ c, cmpI x 0 = c := ⟨_, rfl⟩
  have HS : Hid (∀ w', Below w.heap.size w w' → Calls Try.prog 23 #[.agg #[.bool nx, .slice ao n cap]] w' (RetV w' (.int .i64 c))) := Lib.hid (fun w' hb => by
    rw [← hc]; exact rsign_any w' nx ao n cap xs x (hx.below hb))
  have HX := Lib.hid hx
  have hcn : (c == 0) = false := by
    have : c ≠ 0 := by rw [← hc]; unfold cmpI; split <;> (try split) <;> omega
    simpa using this
  obtain ⟨L, hL⟩ : ∃ L, blen x.natAbs = L := ⟨_, rfl⟩
  rw [hL] at hk
  have hLb := rwidth_bd hx hn
  rw [hL] at hLb
  have HL : Hid (∀ w', Below w.heap.size w w' → Calls Try.prog 79 #[.agg #[.bool nx, .slice ao n cap]] w' (RetV w' (.int .i64 (L : Int)))) := Lib.hid (fun w' hb => by
    rw [← hL]; exact rwidth_any w' nx ao n cap xs x (hx.below hb) (by omega))
  have hk0 : ¬ (0 : Int) ≤ -(k : Int) := by omega
  have hk2 : ¬ -(k : Int) < -(L : Int) := by omega
  have hk3 : (k : Int) ≤ 16000 := by omega
  have hkw : IntKind.i64.wrap (k : Int) = k := by rw [IntKind.wrap_i64]; omega
  have HP : Hid ((0 : Int) < 2 ^ k) := Lib.hid (Int.pow_pos (by omega))
  clear hx hc h0 hL
  go_enter Try.func55, Try.ntmps55
  go_wp2_with fail
  refine (HS.out _ (by go_grown)).mono ?_
  rintro e w1 ⟨rfl, hb1⟩
  have r1 := (hb1.block w.heap.size (by go_size)).trans (heap_alloc2 w _ _).2
  have r2 := (hb1.block (w.heap.size + 1) (by go_size)).trans (heap_alloc2 w _ _).1
  have hz1 : w.heap.size + 1 + 1 ≤ w1.heap.size := Nat.le_trans (by go_size) hb1.size
  have hb2 : Below w.heap.size w w1 := Below.trans (by go_grown) (hb1.mono (by go_size))
  obtain ⟨x0, x1, -, -⟩ := blk2 r1
  have R1 := Lib.hid r1
  have R2 := Lib.hid r2
  clear r1 r2 hb1
  go_wp2_with fail
  refine (HL.out _ hb2).mono ?_
  rintro e w2 ⟨rfl, u2⟩
  have hb4 : Below w.heap.size w w2 := hb2.trans (u2.mono hb2.size)
  have hz4 := u2.size
  obtain ⟨z0, z1, -, -⟩ := blk2 ((u2.block _ (by omega)).trans R1.out)
  have Q2 := Lib.hid ((u2.block _ (by omega)).trans R2.out)
  clear u2 x0 x1 R1 R2
  go_wp2_with fail
  have HKP : Hid (∀ w', Below w2.heap.size w2 w' → (w'.cell? ⟨w.heap.size, 0, none⟩ = some (.bool nx) ∧ w'.cell? ⟨w.heap.size, 1, none⟩ = some (.slice ao n cap))) := Lib.hid (fun w' hb => ⟨(hb.cell (p := ⟨w.heap.size, 0, none⟩) (by dsimp only; omega)).trans z0, (hb.cell (p := ⟨w.heap.size, 1, none⟩) (by dsimp only; omega)).trans z1⟩)
  go_region_held3 (fun w' => w'.cell? ⟨w.heap.size, 0, none⟩ = some (.bool nx) ∧ w'.cell? ⟨w.heap.size, 1, none⟩ = some (.slice ao n cap)) ((first | exact HKP.out _ X2 | exact HKP.out _ X1 | exact HKP.out _ (Below.refl _ _).drew | (go_split_ands; refine ⟨?_, ?_⟩ <;> (rw [World.cell?_setCell_far _ _ _ _ (by dsimp only; omega), World.cell?_setCell_far _ _ _ _ (by dsimp only; omega)]; assumption))))
    (first | (go_at_call 106; have T2 := X1; clear T2; refine (rfloor_pos v1 nx nC ao aC n kC cap cC xs zC x _ ((HX.out.below hb4).below X1) IC.out (by omega) (by omega) HP.out).mono ?_; rintro e v2 ⟨nE, aE, kE, cE, zE, rfl, iE, gE, uE⟩; have X2 : Below w2.heap.size w2 v2 := X1.trans (uE.mono X1.size); have r3 := (X2.block _ (by omega)).trans Q2.out; obtain ⟨c0, c1, f0, f1⟩ := blk2 r3; have IE := Lib.hid (iE.stored r3 (.bool nE) (.slice aE kE cE)); clear iE r3 uE) | (go_at_call 97; refine (rtwo_any _ k (by omega)).mono ?_; rintro e v1 ⟨nC, aC, kC, cC, zC, rfl, iC, gC, uC⟩; have X1 : Below w2.heap.size w2 v1 := (Below.refl _ _).drew.trans uC; have IC := Lib.hid iC; clear iC uC))
  have hb5 : Below w.heap.size w v2 := hb4.trans (X2.mono hb4.size)
  go_wp2_with fail
  refine bodyPost_ret (v := .tuple #[.agg #[.bool nE, .slice aE kE cE], .int .i64 0]) (by simp [results, Try.results55, go_sem, c0, c1]) rfl ?_
  exact ⟨_, _, _, _, _, rfl, IE.out, by omega, (hb5.setCell (p := ⟨w.heap.size + 1, 0, none⟩) (by dsimp only; omega) _).setCell (p := ⟨w.heap.size + 1, 1, none⟩) (by dsimp only; omega) _⟩

end Go.Proofs.Ytpakfknacmcohaa
