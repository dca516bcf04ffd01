/- math/bits.Len64 below 2^32, and Len. -/
import Derived.Test.YtpakfknacmcohaaNumC
namespace Go.Proofs.Ytpakfknacmcohaa
open Go.RowKit
set_option autoImplicit false
set_option linter.unusedVariables false

set_option maxRecDepth 100000 in
theorem len64_a (w : World) (d : Nat) (y z : Nat) (e1 : ((d : Int) / 65536) = y) (h1' : (65536 : Int) ≤ d) (h2' : (256 : Int) ≤ y) (e2 : ((y : Int) / 256) = z) (hz : z < 256) (b : blen d = blen z + 24) (hd32 : d < 4294967296) : Calls Try.prog 140 #[.int .u64 (d : Int)] w fun e w' => e = .returned (.int .i64 (blen d : Int)) ∧ w = w' := by
  have hs := blen_small hz
  have h00 : ¬ (4294967296 : Int) ≤ d := by omega
  have hidx := lit_all ⟨z, hz⟩
  unfold lenLit at hidx
  simp only at hidx
  have hz0 : (0 : Int) ≤ z ∧ (z : Int) < 256 := by omega
  have hb : 24 + (blen z : Int) = (blen d : Int) := by omega
  have HB := Lib.hid hb
  clear hb b
  go_enter Try.func140, Try.ntmps140
  go_wp2_with fail
  clear hidx
  go_ret
  exact ⟨congrArg (fun x => Ending.returned (.int .i64 x)) HB.out, rfl⟩

set_option maxRecDepth 100000 in
theorem len64_b (w : World) (d : Nat) (z : Nat) (e1 : ((d : Int) / 65536) = z) (h1' : (65536 : Int) ≤ d) (hz : z < 256) (b : blen d = blen z + 16) (hd32 : d < 4294967296) : Calls Try.prog 140 #[.int .u64 (d : Int)] w fun e w' => e = .returned (.int .i64 (blen d : Int)) ∧ w = w' := by
  have hs := blen_small hz
  have h00 : ¬ (4294967296 : Int) ≤ d := by omega
  have h2' : ¬ (256 : Int) ≤ z := by omega
  have hidx := lit_all ⟨z, hz⟩
  unfold lenLit at hidx
  simp only at hidx
  have hz0 : (0 : Int) ≤ z ∧ (z : Int) < 256 := by omega
  have hb : 16 + (blen z : Int) = (blen d : Int) := by omega
  have HB := Lib.hid hb
  clear hb b
  go_enter Try.func140, Try.ntmps140
  go_wp2_with fail
  clear hidx
  go_ret
  exact ⟨congrArg (fun x => Ending.returned (.int .i64 x)) HB.out, rfl⟩

set_option maxRecDepth 100000 in
theorem len64_c (w : World) (d : Nat) (z : Nat) (h1' : ¬ (65536 : Int) ≤ d) (h2' : (256 : Int) ≤ d) (e2 : ((d : Int) / 256) = z) (hz : z < 256) (b : blen d = blen z + 8) (hd32 : d < 4294967296) : Calls Try.prog 140 #[.int .u64 (d : Int)] w fun e w' => e = .returned (.int .i64 (blen d : Int)) ∧ w = w' := by
  have hs := blen_small hz
  have h00 : ¬ (4294967296 : Int) ≤ d := by omega
  have hidx := lit_all ⟨z, hz⟩
  unfold lenLit at hidx
  simp only at hidx
  have hz0 : (0 : Int) ≤ z ∧ (z : Int) < 256 := by omega
  have hb : 8 + (blen z : Int) = (blen d : Int) := by omega
  have HB := Lib.hid hb
  clear hb b
  go_enter Try.func140, Try.ntmps140
  go_wp2_with fail
  clear hidx
  go_ret
  exact ⟨congrArg (fun x => Ending.returned (.int .i64 x)) HB.out, rfl⟩

set_option maxRecDepth 100000 in
theorem len64_d (w : World) (d : Nat) (hz : d < 256) : Calls Try.prog 140 #[.int .u64 (d : Int)] w fun e w' => e = .returned (.int .i64 (blen d : Int)) ∧ w = w' := by
  have hs := blen_small hz
  have h00 : ¬ (4294967296 : Int) ≤ d := by omega
  have h1' : ¬ (65536 : Int) ≤ d := by omega
  have h2' : ¬ (256 : Int) ≤ d := by omega
  have hidx := lit_all ⟨d, hz⟩
  unfold lenLit at hidx
  simp only at hidx
  have hz0 : (0 : Int) ≤ d ∧ (d : Int) < 256 := by omega
  go_enter Try.func140, Try.ntmps140
  go_wp2_with fail
  clear hidx
  go_ret
  exact ⟨rfl, rfl⟩

theorem len64_any (w : World) (d : Nat) (h : d < 4294967296) : Calls Try.prog 140 #[.int .u64 (d : Int)] w fun e w' => e = .returned (.int .i64 (blen d : Int)) ∧ w = w' := by
  by_cases h1 : 65536 ≤ d
  · have b1 := blen_div d 16 h1
    rw [show 2 ^ 16 = 65536 from rfl] at b1
    by_cases h2 : 256 ≤ d / 65536
    · have b2 := blen_div (d / 65536) 8 h2
      rw [show 2 ^ 8 = 256 from rfl] at b2
      exact len64_a w d (d / 65536) (d / 65536 / 256) (by omega) (by omega) (by omega) (by omega) (by omega) (by omega) h
    · exact len64_b w d (d / 65536) (by omega) (by omega) (by omega) b1 h
  · by_cases h2 : 256 ≤ d
    · have b2 := blen_div d 8 h2
      rw [show 2 ^ 8 = 256 from rfl] at b2
      exact len64_c w d (d / 256) (by omega) (by omega) (by omega) (by omega) b2 h
    · exact len64_d w d (by omega)

theorem len_any (w : World) (d : Nat) (h : d < 4294967296) : Calls Try.prog 125 #[.int .u64 (d : Int)] w fun e w' => e = .returned (.int .i64 (blen d : Int)) ∧ w = w' := by
  have HL := Lib.hid (len64_any w d h)
  go_enter Try.func125, Try.ntmps125
  go_wp2_with fail
  refine HL.out.mono ?_
  rintro e w1 ⟨rfl, rfl⟩
  go_wp2_with fail
  go_ret
  exact ⟨rfl, rfl⟩
end Go.Proofs.Ytpakfknacmcohaa
