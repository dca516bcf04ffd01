/- Field of the reference. -/
import Derived.Test.YtipjbknoeoajnaaRShift
import Derived.Test.YtipjbknoeoajnaaVars
namespace Go.Proofs.Ytipjbknoeoajnaa
open Go.RowKit
set_option autoImplicit false
set_option linter.unusedVariables false

theorem within_yes (w : World) (k : Int) (h0 : 0 ≤ k) (h1 : k ≤ 65536) : Calls Try.prog 109 #[.int .i64 k] w fun e w' => e = .returned (.bool true) ∧ w = w' := by
  go_enter Try.func109, Try.ntmps109
  go_wp2
  go_ret
  exact ⟨rfl, rfl⟩
theorem within_no (w : World) (k : Int) (h : k < 0 ∨ 65536 < k) : Calls Try.prog 109 #[.int .i64 k] w fun e w' => e = .returned (.bool false) ∧ w = w' := by
  rcases h with h | h
  · have h0 : ¬ 0 ≤ k := by omega
    go_enter Try.func109, Try.ntmps109
    go_wp2
    go_ret
    exact ⟨rfl, rfl⟩
  · have h0 : 0 ≤ k := by omega
    have h1 : ¬ k ≤ 65536 := by omega
    go_enter Try.func109, Try.ntmps109
    go_wp2
    go_ret
    exact ⟨rfl, rfl⟩

theorem rfield_no (w : World) (nx : Bool) (ao : Option Addr) (n cap : Nat) (k at' : Int) (h : (k < 0 ∨ 65536 < k) ∨ (at' < 0 ∨ 65536 < at')) :
    Calls Try.prog 57 #[.agg #[.bool nx, .slice ao n cap], .int .i64 k, .int .i64 at'] w (RetZeroR w 1) := by
  by_cases hk : k < 0 ∨ 65536 < k
  · have HK := Lib.hid (fun w1 => within_no w1 k hk)
    clear h hk
    go_enter Try.func57, Try.ntmps57
    go_wp2_with (go_at_call 109; refine (HK.out _).mono ?_; rintro e w1 ⟨rfl, rfl⟩)
    refine bodyPost_ret (v := .tuple #[.agg #[.bool false, .slice none 0 0], .int .i64 1]) (by simp [results, Try.results57, go_sem]) rfl ?_
    exact ⟨rfl, by go_grown⟩
  · have h2 : at' < 0 ∨ 65536 < at' := by omega
    have HK := Lib.hid (fun w1 => within_yes w1 k (by omega) (by omega))
    have HA := Lib.hid (fun w1 => within_no w1 at' h2)
    clear h hk h2
    go_enter Try.func57, Try.ntmps57
    go_wp2_with fail
    refine (HK.out _).mono ?_
    rintro e w1 ⟨rfl, rfl⟩
    go_wp2_with fail
    refine (HA.out _).mono ?_
    rintro e w1 ⟨rfl, rfl⟩
    go_wp2_with fail
    refine bodyPost_ret (v := .tuple #[.agg #[.bool false, .slice none 0 0], .int .i64 1]) (by simp [results, Try.results57, go_sem]) rfl ?_
    exact ⟨rfl, by go_grown⟩

theorem bval_bits (g : Nat → Bool) (k i : Nat) : bitZ ((bval g k : Nat) : Int) i = (decide (i < k) && g i) := by
  rw [bitZ_nat]
  by_cases h : i < k
  · rw [bval_bit _ _ _ h, decide_eq_true h, Bool.true_and]; cases g i <;> rfl
  · have h1 := bval_lt g k
    have h2 : 2 ^ k ≤ 2 ^ i := Nat.pow_le_pow_right (by omega) (by omega)
    rw [Nat.div_eq_of_lt (by omega), decide_eq_false h]; rfl

theorem SlB.drop {w : World} {b o k cap : Nat} {f : Nat → Bool} (h : SlB w (some ⟨b, o, none⟩) k cap f) (q : Nat) (hq : q ≤ k) : SlB w (some ⟨b, o + q, none⟩) (k - q) (cap - q) (fun i => f (q + i)) := by
  refine ⟨by have := h.le; omega, by have := h.most; omega, fun j hj => ?_⟩
  obtain ⟨b', o', h1, h2⟩ := h.cells (q + j) (by omega)
  simp at h1
  obtain ⟨rfl, rfl⟩ := h1
  exact ⟨_, _, rfl, by rw [← h2]; congr 2; omega⟩
theorem SlB.empty (w : World) (ao : Option Addr) (cap : Nat) (f : Nat → Bool) (hc : cap ≤ 9223372036854775807) : SlB w ao 0 cap f := ⟨Nat.zero_le _, hc, fun j hj => absurd hj (Nat.not_lt_zero _)⟩

set_option maxRecDepth 100000 in
set_option maxHeartbeats 1000000 in
theorem rfield_yes (w : World) (nx : Bool) (ao : Option Addr) (n cap : Nat) (xs : List Int) (x : Int) (k at' : Nat) (hx : RefAt w nx ao n cap xs x) (hn : n ≤ 4294967296) (hk : k ≤ 1000) (ha : at' ≤ 1000) :
    Calls Try.prog 57 #[.agg #[.bool nx, .slice ao n cap], .int .i64 (k : Int), .int .i64 (at' : Int)] w (RetRE w (x / 2 ^ at' % 2 ^ k) 1000) := by
  have HX := Lib.hid hx
  have HK := Lib.hid (fun w1 => within_yes w1 k (by omega) (by omega))
  have HA := Lib.hid (fun w1 => within_yes w1 at' (by omega) (by omega))
  have HB : Hid (∀ w1, Below w.heap.size w w1 → Calls Try.prog 81 #[.agg #[.bool nx, .slice ao n cap], .int .i64 ((at' + k : Nat) : Int)] w1 (RetBits w1 (cpl x).toNat nx (at' + k))) := Lib.hid (fun w1 hb =>
    rbits_any w1 nx ao n cap xs x (hx.below hb) hn _ (by omega))
  have hnx := neg_iff hx
  obtain ⟨f, hf⟩ : ∃ f : Nat → Bool, bitOf (cpl x).toNat nx = f := ⟨_, rfl⟩
  have HF : Hid (∀ i, f i = bitZ x i) := Lib.hid (fun i => by rw [← hf, hnx]; exact bitZ_of x i)
  obtain ⟨R, hR⟩ : ∃ R, x / 2 ^ at' % 2 ^ k = R := ⟨_, rfl⟩
  have HV : Hid (ofSign false ((bval (fun i => f (at' + i) != false) k : Nat) : Int) = R) := Lib.hid (by
    rw [← hR]
    apply eq_of_bits
    intro i
    show bitZ ((bval _ k : Nat) : Int) i = _
    rw [bval_bits, field_bit, HF.out]
    simp)
  rw [hR]
  have Hf := Lib.hid hf
  clear hx hnx hR hf
  go_enter Try.func57, Try.ntmps57
  go_wp2_with fail
  refine (HK.out _).mono ?_
  rintro e w1 ⟨rfl, rfl⟩
  go_wp2_with fail
  refine (HA.out _).mono ?_
  rintro e w1 ⟨rfl, rfl⟩
  go_wp2_with fail
  refine (HB.out _ (by go_grown)).mono ?_
  rintro e w1 ⟨bo, bc, rfl, hown, hb1⟩
  have r2 := (hb1.block (w.heap.size + 1) (by go_size)).trans (heap_alloc2 w _ _).1
  have hz1 : w.heap.size + 1 + 1 ≤ w1.heap.size := Nat.le_trans (by go_size) hb1.size
  have hb2 : Below w.heap.size w w1 := Below.trans (by go_grown) (hb1.mono (by go_size))
  have hsl := row_slb hown
  have hle := hsl.le
  have hmost := hsl.most
  have R2 := Lib.hid r2
  have HSL := Lib.hid hsl
  have HOWN := Lib.hid hown
  clear hb1 r2 hown hsl
  have hfin : ∀ (so : Option Addr) (sc : Nat), SlB w1 so k sc (fun i => f (at' + i)) → Calls Try.prog 104 #[.slice so k sc, .bool false] w1 (RetRef w1 R (k / 16 + 5)) := fun so sc h => by
    have := rof_pos w1 so k sc (fun i => f (at' + i)) false h (by omega)
    rwa [HV.out] at this
  have HFIN := Lib.hid hfin
  clear hfin
  by_cases hq : bc = at'
  · obtain rfl : k = 0 := by omega
    subst hq
    go_wp2_with fail
    refine (HFIN.out bo 0 (SlB.empty _ _ _ _ (by omega))).mono ?_
    rintro e w2 ⟨nE, aE, kE, cE, zE, rfl, iE, gE, uE⟩
    have r3 := (uE.block _ (by omega)).trans R2.out
    obtain ⟨c0, c1, f0, f1⟩ := blk2 r3
    have IE := Lib.hid (iE.stored r3 (.bool nE) (.slice aE kE cE))
    have hb4 : Below w.heap.size w w2 := hb2.trans (uE.mono hb2.size)
    have hz4 := uE.size
    clear iE r3 uE
    go_wp2_with fail
    refine bodyPost_ret (v := .tuple #[.agg #[.bool nE, .slice aE kE cE], .int .i64 0]) (by simp [results, Try.results57, go_sem, c0, c1]) rfl ?_
    exact ⟨_, _, _, _, _, rfl, IE.out, by omega, (hb4.setCell (p := ⟨w.heap.size + 1, 0, none⟩) (by dsimp only; omega) _).setCell (p := ⟨w.heap.size + 1, 1, none⟩) (by dsimp only; omega) _⟩
  · have hcall : ∃ g, bo = some ⟨g, 0, none⟩ := by
      rcases HOWN.out.2 with ⟨hv, h0⟩ | ⟨g, c, cur, hv, _⟩
      · simp at hv; omega
      · simp at hv; exact ⟨g, hv.1⟩
    obtain ⟨g, rfl⟩ := hcall
    have hs2 := HSL.out.drop at' (by omega)
    rw [show at' + k - at' = k by omega, Nat.zero_add] at hs2
    simp only [Hf.out] at hs2
    have HS2 := Lib.hid hs2
    clear hs2
    clear HSL HOWN
    go_wp2_with fail
    refine (HFIN.out _ _ HS2.out).mono ?_
    rintro e w2 ⟨nE, aE, kE, cE, zE, rfl, iE, gE, uE⟩
    have r3 := (uE.block _ (by omega)).trans R2.out
    obtain ⟨c0, c1, f0, f1⟩ := blk2 r3
    have IE := Lib.hid (iE.stored r3 (.bool nE) (.slice aE kE cE))
    have hb4 : Below w.heap.size w w2 := hb2.trans (uE.mono hb2.size)
    have hz4 := uE.size
    clear iE r3 uE
    go_wp2_with fail
    refine bodyPost_ret (v := .tuple #[.agg #[.bool nE, .slice aE kE cE], .int .i64 0]) (by simp [results, Try.results57, go_sem, c0, c1]) rfl ?_
    exact ⟨_, _, _, _, _, rfl, IE.out, by omega, (hb4.setCell (p := ⟨w.heap.size + 1, 0, none⟩) (by dsimp only; omega) _).setCell (p := ⟨w.heap.size + 1, 1, none⟩) (by dsimp only; omega) _⟩
end Go.Proofs.Ytipjbknoeoajnaa
