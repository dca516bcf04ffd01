/- math/bits.OnesCount32: the walk. -/
import Derived.Test.YtihfokdehcdgdaaNum11
namespace Go.Proofs.Ytihfokdehcdgdaa
open Go.RowKit
set_option autoImplicit false
set_option linter.unusedVariables false

theorem and_255 (y z : Nat) (h : y < 4294967296) (hz : y % 256 = z) : bits BinOp.and IntKind.u32 (y : Int) 255 = (z : Int) := by
  have h1 := u32_and_nat y 255 (by omega) (by omega)
  have h2 : y &&& 255 = y % 256 := Nat.and_two_pow_sub_one_eq_mod y 8
  rw [h2, hz] at h1
  exact h1

set_option maxRecDepth 100000 in
theorem ones_walk (w : World) (d y3 y2 y1 z2 z1 z0 : Nat) (p3 p2 p1 p0 : Nat) (e3 : (d : Int) / 16777216 = y3) (e2 : (d : Int) / 65536 = y2) (e1 : (d : Int) / 256 = y1)
    (a2 : bits BinOp.and IntKind.u32 (y2 : Int) 255 = (z2 : Int)) (a1 : bits BinOp.and IntKind.u32 (y1 : Int) 255 = (z1 : Int)) (a0 : bits BinOp.and IntKind.u32 (d : Int) 255 = (z0 : Int))
    (h3 : y3 < 256) (h2 : z2 < 256) (h1 : z1 < 256) (h0 : z0 < 256)
    (b3 : (popLit[y3]'(by rw [pop_size]; exact h3)).toNat = p3) (b2 : (popLit[z2]'(by rw [pop_size]; exact h2)).toNat = p2) (b1 : (popLit[z1]'(by rw [pop_size]; exact h1)).toNat = p1) (b0 : (popLit[z0]'(by rw [pop_size]; exact h0)).toNat = p0)
    (c3 : p3 ≤ 8) (c2 : p2 ≤ 8) (c1 : p1 ≤ 8) (c0 : p0 ≤ 8) :
    Calls Try.prog 80 #[.int .u32 (d : Int)] w (RetQ w (.int .i64 ((p3 + p2 + p1 + p0 : Nat) : Int))) := by
  unfold popLit at b3 b2 b1 b0
  have i3 : (0 : Int) ≤ y3 ∧ (y3 : Int) < 256 := by omega
  have i2 : (0 : Int) ≤ z2 ∧ (z2 : Int) < 256 := by omega
  have i1 : (0 : Int) ≤ z1 ∧ (z1 : Int) < 256 := by omega
  have i0 : (0 : Int) ≤ z0 ∧ (z0 : Int) < 256 := by omega
  go_enter Try.func80, Try.ntmps80
  go_wp2_with fail
  go_quiet (fail)
  clear b3 b2 b1 b0
  go_wp2_with fail
  go_ret
  exact ⟨rfl, nq, rfl⟩

theorem ones_any (w : World) (d : Nat) (h : d < 4294967296) :
    Calls Try.prog 80 #[.int .u32 (d : Int)] w (RetQ w (.int .i64 (onesTo d 32 : Int))) := by
  have hs := ones32 d
  rw [Nat.mod_eq_of_lt (show d / 16777216 < 256 by omega)] at hs
  rw [hs]
  exact ones_walk w d (d / 16777216) (d / 65536) (d / 256) (d / 65536 % 256) (d / 256 % 256) (d % 256) _ _ _ _ (by omega) (by omega) (by omega) (and_255 _ _ (by omega) rfl) (and_255 _ _ (by omega) rfl) (and_255 _ _ h rfl)
    (by omega) (by omega) (by omega) (by omega) (pop_all ⟨_, by omega⟩) (pop_all ⟨_, by omega⟩) (pop_all ⟨_, by omega⟩) (pop_all ⟨_, by omega⟩) (onesTo_le _ _) (onesTo_le _ _) (onesTo_le _ _) (onesTo_le _ _)
end Go.Proofs.Ytihfokdehcdgdaa
