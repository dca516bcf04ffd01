/- A number that is handed in, opened: a sign, and a slice of limbs. -/
import Derived.Test.YtdfepdhflnnjpaaGreatSmallM
import Derived.Test.YtdfepdhflnnjpaaGreatRows
import Derived.ProofKit
import Derived.OpenShut
import Derived.ShutString
import Derived.ChangeOld
import Derived.Below
import Derived.Lib.SmallJoins
namespace Go.Proofs.YtdfepdhflnnjpaaGreat
open Go.ChangeShapes Go.WideShapes Go.ChangeAt Go.RowKit Go.Joins
set_option autoImplicit false
set_option maxHeartbeats 1000000
set_option linter.unusedVariables false

theorem own : ownKnob Tryz.prog.godebug = none := by kernel_rfl

theorem laidOut : laidOutB Tryz.prog = true := by kernel_rfl

theorem cellsN : Tryz.prog.cellsOf 24 = 2 := by kernel_rfl

set_option maxRecDepth 100000 in
theorem open_num {H : Type} {enc : TypeId × Value → H} {W : World} {b0 : Nat} {r : Reach} {v : Value} {d : DataW H} {p : List MemPlace} (hv : Value.okWide Tryz.prog W r b0 24 v) (h : DataW.Trod enc Tryz.prog W 0 (fun _ => true) true 24 v d p) :
    ∃ neg ao n cap zs, v = .agg #[.bool neg, .slice ao n cap] ∧ Sl W ao n cap zs ∧ Lim zs := by
  obtain ⟨c0, c1, y0, y1, m, rfl, rfl, rfl, hy0, hy1⟩ := open_agg2 Tryz.underlying24 (by kernel_rfl) cellsN hv h
  obtain ⟨neg, e0, rfl⟩ := DataW.trod_bool Tryz.underlying4 hy0
  simp at e0
  subst e0
  rcases open_ints Tryz.underlying22 Tryz.underlying138 (by kernel_rfl) hy1 with ⟨hcs, _⟩ | ⟨a, l, c, zs, hcs, _, hl, hm, hz, _, hcell, hwz⟩
  · simp at hcs
    subst hcs
    exact ⟨neg, none, 0, 0, [], rfl, ⟨rfl, Nat.le_refl _, by unfold maxLen; omega, fun _ => rfl, .inl rfl⟩, by intro z hz; simp at hz⟩
  · simp at hcs
    subst hcs
    simp at hz
    refine ⟨neg, some a, l, c, zs.take l, rfl, ⟨by rw [List.length_take]; omega, hl, hm, fun h => by simp at h, ?_⟩, ?_⟩
    · by_cases h0 : l = 0
      · left; simp [h0]
      · right
        obtain ⟨b, off, spot⟩ := a
        have hc := hcell 0 (by omega)
        have hspot : spot = none := by simpa [Addr.add] using World.cell?_spot hc
        subst hspot
        refine ⟨b, off, rfl, ?_⟩
        intro i hi
        rw [List.length_take] at hi
        have := hcell i (by omega)
        have e : (⟨b, off, none⟩ : Addr).add i = ⟨b, off + i, none⟩ := by
          by_cases h : i = 0 <;> simp [Addr.add, h]
        rw [e] at this
        have h2 : (zs.take l).getD i 0 = zs.getD i 0 := by
          rw [getD_lt (a := zs.take l) (by rw [List.length_take]; omega), getD_lt (a := zs) (by omega), List.getElem_take]
        rw [this, h2]
    · intro z hz2
      have := hwz z (List.mem_of_mem_take hz2)
      simp only [Lit.wf, Bool.and_eq_true, decide_eq_true_eq] at this
      have h1 : IntKind.u32.min = 0 := by decide
      have h2 : IntKind.u32.max = 4294967295 := by decide
      rw [h1, h2] at this
      omega
end Go.Proofs.YtdfepdhflnnjpaaGreat
