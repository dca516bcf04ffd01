/- The examples of layer 3's statements, walked. -/
import Derived.Test.YtdfepdhflnnjpaaGreatQ16
import Derived.Test.YtdfepdhflnnjpaaGreatQF
namespace Go.Proofs.YtdfepdhflnnjpaaGreat
open Go.Shelf Go.RowKit
set_option autoImplicit false
set_option linter.unusedVariables false

theorem max_six (ts : Array TypeId) (t : TypeId) (w : World) : Sem.run Tryz.prog (Builtin.max_ ts t #[.int .i64 0, .int .i64 0, .int .i64 0, .int .i64 0, .int .i64 0, .int .i64 0]) w = .ok (.int .i64 0) w := by
  simp [Builtin.max_, Builtin.max2]

set_option maxRecDepth 100000 in
set_option maxHeartbeats 4000000 in
theorem awake_q (w : World) : Calls Tryz.prog 14 #[] w (RetV w (.bool true)) := by
  have HB := Lib.hid (Below.refl w.heap.size w)
  go_enter Tryz.func14, Tryz.ntmps14
  go_wp2_with fail
  refine (parse_one w).mono ?_
  rintro e w1 ⟨nP, aP, tP, cP, zP, mP, bP, uP, dP, yP, xP, rfl, hP, gP, fP, ub⟩
  have HRP := Lib.hid hP
  clear hP
  replace HB := Lib.hid (HB.out.trans (ub.mono HB.out.size))
  clear ub
  go_upto_region 2 with (fail)
  obtain ⟨w2, hv⟩ : ∃ x, x = w1.alloc (.cells #[.bool nP, .slice aP tP cP, .bool mP, .slice bP uP dP] 38) := ⟨_, rfl⟩
  have ub : Below w1.heap.size w1 w2 := by rw [hv]; go_grown
  have r : w2.heap[w1.heap.size]? = some (.cells #[.bool nP, .slice aP tP cP, .bool mP, .slice bP uP dP] 38 (0, 0)) := by rw [hv]; exact heap_alloc_new w1 _
  rw [← hv]
  clear hv
  replace HRP := Lib.hid (HRP.out.below ub)
  replace HB := Lib.hid (HB.out.trans (ub.mono HB.out.size))
  clear ub
  obtain ⟨BP, hB⟩ : ∃ x, x = w1.heap.size := ⟨_, rfl⟩
  rw [← hB] at r ⊢
  clear hB
  have RP := Lib.hid r
  clear r
  obtain ⟨xP0, xP1, xP2, xP3⟩ := blk4 RP.out
  go_wp2_with fail
  refine (text_plain w2 _ _ _ _ _ _ _ _ _ _ 3 xP 2 HRP.out (by decide) (by omega) (by omega) ⟨#[51]⟩ ⟨#[50]⟩ ⟨#[51, 47, 50]⟩ (by decide +kernel) (by decide +kernel) (by decide) (by decide) (by decide +kernel)).mono ?_
  rintro e w3 ⟨rfl, ub⟩
  replace HRP := Lib.hid (HRP.out.below ub)
  replace RP := Lib.hid ((ub.block _ (Array.getElem?_eq_some_iff.1 RP.out).1).trans RP.out)
  replace HB := Lib.hid (HB.out.trans (ub.mono HB.out.size))
  clear ub
  clear xP0 xP1 xP2 xP3
  go_wp2_with fail
  refine (parse_two w3).mono ?_
  rintro e w4 ⟨nL, aL, tL, cL, zL, mL, bL, uL, dL, yL, xL, rfl, hL, gL, fL, ub⟩
  have HRL := Lib.hid hL
  clear hL
  replace HRP := Lib.hid (HRP.out.below ub)
  replace RP := Lib.hid ((ub.block _ (Array.getElem?_eq_some_iff.1 RP.out).1).trans RP.out)
  replace HB := Lib.hid (HB.out.trans (ub.mono HB.out.size))
  clear ub
  go_upto_region 4 with (fail)
  obtain ⟨w5, hv⟩ : ∃ x, x = w4.alloc (.cells #[.bool nL, .slice aL tL cL, .bool mL, .slice bL uL dL] 38) := ⟨_, rfl⟩
  have ub : Below w4.heap.size w4 w5 := by rw [hv]; go_grown
  have r : w5.heap[w4.heap.size]? = some (.cells #[.bool nL, .slice aL tL cL, .bool mL, .slice bL uL dL] 38 (0, 0)) := by rw [hv]; exact heap_alloc_new w4 _
  rw [← hv]
  clear hv
  replace HRL := Lib.hid (HRL.out.below ub)
  replace HRP := Lib.hid (HRP.out.below ub)
  replace RP := Lib.hid ((ub.block _ (Array.getElem?_eq_some_iff.1 RP.out).1).trans RP.out)
  replace HB := Lib.hid (HB.out.trans (ub.mono HB.out.size))
  clear ub
  obtain ⟨BL, hB⟩ : ∃ x, x = w4.heap.size := ⟨_, rfl⟩
  rw [← hB] at r ⊢
  clear hB
  have RL := Lib.hid r
  clear r
  go_wp2_with fail
  refine (parse_three w5).mono ?_
  rintro e w6 ⟨nH, aH, tH, cH, zH, mH, bH, uH, dH, yH, xH, rfl, hH, gH, fH, ub⟩
  have HRH := Lib.hid hH
  clear hH
  replace HRP := Lib.hid (HRP.out.below ub)
  replace RP := Lib.hid ((ub.block _ (Array.getElem?_eq_some_iff.1 RP.out).1).trans RP.out)
  replace HRL := Lib.hid (HRL.out.below ub)
  replace RL := Lib.hid ((ub.block _ (Array.getElem?_eq_some_iff.1 RL.out).1).trans RL.out)
  replace HB := Lib.hid (HB.out.trans (ub.mono HB.out.size))
  clear ub
  go_upto_region 5 with (fail)
  obtain ⟨w7, hv⟩ : ∃ x, x = w6.alloc (.cells #[.bool nH, .slice aH tH cH, .bool mH, .slice bH uH dH] 38) := ⟨_, rfl⟩
  have ub : Below w6.heap.size w6 w7 := by rw [hv]; go_grown
  have r : w7.heap[w6.heap.size]? = some (.cells #[.bool nH, .slice aH tH cH, .bool mH, .slice bH uH dH] 38 (0, 0)) := by rw [hv]; exact heap_alloc_new w6 _
  rw [← hv]
  clear hv
  replace HRH := Lib.hid (HRH.out.below ub)
  replace HRP := Lib.hid (HRP.out.below ub)
  replace RP := Lib.hid ((ub.block _ (Array.getElem?_eq_some_iff.1 RP.out).1).trans RP.out)
  replace HRL := Lib.hid (HRL.out.below ub)
  replace RL := Lib.hid ((ub.block _ (Array.getElem?_eq_some_iff.1 RL.out).1).trans RL.out)
  replace HB := Lib.hid (HB.out.trans (ub.mono HB.out.size))
  clear ub
  obtain ⟨BH, hB⟩ : ∃ x, x = w6.heap.size := ⟨_, rfl⟩
  rw [← hB] at r ⊢
  clear hB
  have RH := Lib.hid r
  clear r
  obtain ⟨xL0, xL1, xL2, xL3⟩ := blk4 RL.out
  obtain ⟨xH0, xH1, xH2, xH3⟩ := blk4 RH.out
  go_wp2_with fail
  refine (simplest_up w7 nL aL tL cL zL mL bL uL dL yL 31 xL 100 nH aH tH cH zH mH bH uH dH yH 8 xH 25 HRL.out HRH.out (by omega) (by omega) (by omega) (by omega) (by decide) (by decide) 5 16 100 100 (fun v hv => simplest_awake v nL aL tL cL zL mL bL uL dL yL xL nH aH tH cH zH mH bH uH dH yH xH (HRL.out.below hv) (HRH.out.below hv) (by omega) (by omega) (by omega) (by omega))).mono ?_
  rintro e w8 ⟨nS, aS, tS, cS, zS, mS, bS, uS, dS, yS, xS, rfl, hS, gS, fS, ub⟩
  have HRS := Lib.hid hS
  clear hS
  replace HRP := Lib.hid (HRP.out.below ub)
  replace RP := Lib.hid ((ub.block _ (Array.getElem?_eq_some_iff.1 RP.out).1).trans RP.out)
  replace HRL := Lib.hid (HRL.out.below ub)
  replace RL := Lib.hid ((ub.block _ (Array.getElem?_eq_some_iff.1 RL.out).1).trans RL.out)
  replace HRH := Lib.hid (HRH.out.below ub)
  replace RH := Lib.hid ((ub.block _ (Array.getElem?_eq_some_iff.1 RH.out).1).trans RH.out)
  replace HB := Lib.hid (HB.out.trans (ub.mono HB.out.size))
  clear ub
  go_upto_region 6 with (fail)
  obtain ⟨w9, hv⟩ : ∃ x, x = w8.alloc (.cells #[.bool nS, .slice aS tS cS, .bool mS, .slice bS uS dS] 38) := ⟨_, rfl⟩
  have ub : Below w8.heap.size w8 w9 := by rw [hv]; go_grown
  have r : w9.heap[w8.heap.size]? = some (.cells #[.bool nS, .slice aS tS cS, .bool mS, .slice bS uS dS] 38 (0, 0)) := by rw [hv]; exact heap_alloc_new w8 _
  rw [← hv]
  clear hv
  replace HRS := Lib.hid (HRS.out.below ub)
  replace HRP := Lib.hid (HRP.out.below ub)
  replace RP := Lib.hid ((ub.block _ (Array.getElem?_eq_some_iff.1 RP.out).1).trans RP.out)
  replace HRL := Lib.hid (HRL.out.below ub)
  replace RL := Lib.hid ((ub.block _ (Array.getElem?_eq_some_iff.1 RL.out).1).trans RL.out)
  replace HRH := Lib.hid (HRH.out.below ub)
  replace RH := Lib.hid ((ub.block _ (Array.getElem?_eq_some_iff.1 RH.out).1).trans RH.out)
  replace HB := Lib.hid (HB.out.trans (ub.mono HB.out.size))
  clear ub
  obtain ⟨BS, hB⟩ : ∃ x, x = w8.heap.size := ⟨_, rfl⟩
  rw [← hB] at r ⊢
  clear hB
  have RS := Lib.hid r
  clear r
  clear xL0 xL1 xL2 xL3 xH0 xH1 xH2 xH3
  obtain ⟨xS0, xS1, xS2, xS3⟩ := blk4 RS.out
  go_wp2_with fail
  refine (text_plain w9 _ _ _ _ _ _ _ _ _ _ 5 xS 16 HRS.out (by decide) (by omega) (by omega) ⟨#[53]⟩ ⟨#[49, 54]⟩ ⟨#[53, 47, 49, 54]⟩ (by decide +kernel) (by decide +kernel) (by decide) (by decide) (by decide +kernel)).mono ?_
  rintro e w10 ⟨rfl, ub⟩
  replace HRP := Lib.hid (HRP.out.below ub)
  replace RP := Lib.hid ((ub.block _ (Array.getElem?_eq_some_iff.1 RP.out).1).trans RP.out)
  replace HRL := Lib.hid (HRL.out.below ub)
  replace RL := Lib.hid ((ub.block _ (Array.getElem?_eq_some_iff.1 RL.out).1).trans RL.out)
  replace HRH := Lib.hid (HRH.out.below ub)
  replace RH := Lib.hid ((ub.block _ (Array.getElem?_eq_some_iff.1 RH.out).1).trans RH.out)
  replace HRS := Lib.hid (HRS.out.below ub)
  replace RS := Lib.hid ((ub.block _ (Array.getElem?_eq_some_iff.1 RS.out).1).trans RS.out)
  replace HB := Lib.hid (HB.out.trans (ub.mono HB.out.size))
  clear ub
  clear xS0 xS1 xS2 xS3
  have hmax := max_six
  go_wp2_with fail
  go_ret
  exact ⟨rfl, HB.out⟩

end Go.Proofs.YtdfepdhflnnjpaaGreat
