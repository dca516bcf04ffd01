/- RPow, RPow2, RRoot in one text. -/
import Derived.Test.YtdfepdhflnnjpaaGreatRDiv
import Derived.Test.YtdfepdhflnnjpaaGreatShiftM
import Derived.Test.YtdfepdhflnnjpaaGreatTexts
import Derived.Test.YtdfepdhflnnjpaaGreatBooA
import Derived.Test.YtdfepdhflnnjpaaGreatOf
import Derived.Test.YtdfepdhflnnjpaaGreatSmallM
import Derived.Deep.DeepCutAuto
import Derived.Sort.AtCall
namespace Go.Proofs.YtdfepdhflnnjpaaGreat
open Go.RowKit
set_option autoImplicit false
set_option maxHeartbeats 1000000
set_option linter.unusedVariables false

/-- A reference's number in a box. -/
structure RBox (w : World) (p : Nat) (neg : Bool) (ao : Option Addr) (n cap : Nat) (zs : List Int) (x : Int) : Prop where
  row : w.heap[p]? = some (.cells #[.bool neg, .slice ao n cap] 34 (0, 0))
  it : RefAt w neg ao n cap zs x

theorem RBox.below {w w' : World} {p : Nat} {neg : Bool} {ao : Option Addr} {n cap : Nat} {zs : List Int} {x : Int} (h : RBox w p neg ao n cap zs x) (hb : Below w.heap.size w w') : RBox w' p neg ao n cap zs x :=
  ⟨(hb.block p (Array.getElem?_eq_some_iff.1 h.row).1).trans h.row, h.it.below hb⟩

theorem RBox.put {w : World} {p : Nat} {neg a : Bool} {ao b : Option Addr} {n cap c d : Nat} {zs : List Int} {x : Int} (h : RefAt w neg ao n cap zs x) (hr : w.heap[p]? = some (.cells #[.bool a, .slice b c d] 34 (0, 0))) :
    RBox ((w.setCell ⟨p, 0, none⟩ (.bool neg)).setCell ⟨p, 1, none⟩ (.slice ao n cap)) p neg ao n cap zs x :=
  ⟨heap_setCell_same _ p 1 _ _ _ (heap_setCell_same w p 0 _ _ _ hr), h.stored hr _ _⟩

theorem RefAt.len_le {w : World} {neg : Bool} {ao : Option Addr} {n cap : Nat} {zs : List Int} {x : Int} (h : RefAt w neg ao n cap zs x) {k : Nat} (hk : (x.natAbs : Int) < 65536 ^ k) : n ≤ k := by
  have h0 := dval_nonneg (r := 65536) (by omega) h.lim
  have hv := h.val
  have : (x.natAbs : Int) = dval 65536 zs := by
    obtain ⟨v, hv'⟩ : ∃ v, dval 65536 zs = v := ⟨_, rfl⟩
    rw [hv'] at h0 hv ⊢
    cases neg <;> simp [sgn] at hv <;> omega
  rw [this] at hk
  have := rlen_lt h.lim h.top hk
  rwa [h.sl.len] at this

theorem RefAt.lt_pow {w : World} {neg : Bool} {ao : Option Addr} {n cap : Nat} {zs : List Int} {x : Int} (h : RefAt w neg ao n cap zs x) : (x.natAbs : Int) < 65536 ^ n := by
  have h0 := dval_nonneg (r := 65536) (by omega) h.lim
  have h1 := dval_lt (r := 65536) (by omega) h.lim
  rw [h.sl.len] at h1
  have hv := h.val
  obtain ⟨v, hv'⟩ : ∃ v, dval 65536 zs = v := ⟨_, rfl⟩
  obtain ⟨P, hP⟩ : ∃ P : Int, (65536 : Int) ^ n = P := ⟨_, rfl⟩
  rw [hv'] at h0 hv h1
  rw [hP] at h1 ⊢
  cases neg <;> simp [sgn] at hv <;> omega
end Go.Proofs.YtdfepdhflnnjpaaGreat
