/- divide and Divide, in general. -/
import Derived.Test.YtpakfknacmcohaaLong3
namespace Go.Proofs.Ytpakfknacmcohaa
open Go.RowKit
set_option autoImplicit false
set_option linter.unusedVariables false

theorem RetDiv.more {w : World} {q r : Int} {L M L' M' : Nat} (h1 : L ≤ L') (h2 : M ≤ M') {e : Ending} {w' : World} (h : RetDiv w q r L M e w') : RetDiv w q r L' M' e w' := by
  obtain ⟨a1, n1, c1, z1, a2, n2, c2, z2, e1, o1, l1, t1, v1, b1, o2, l2, t2, v2, b2, hb⟩ := h
  exact ⟨a1, n1, c1, z1, a2, n2, c2, z2, e1, o1, l1, t1, v1, by omega, o2, l2, t2, v2, by omega, hb⟩

set_option maxRecDepth 100000 in
theorem divide_big (w : World) (ao bo : Option Addr) (n m capa capb : Nat) (xs ys : List Int) (hx : Sl w ao n capa xs) (hy : Sl w bo m capb ys) (lx : Lim xs) (ly : Lim ys) (tx : Top xs) (ty : Top ys) (hn : n ≤ 1073741824) (hm : 2 ≤ m) (hge : val ys ≤ val xs) :
    Calls Try.prog 82 #[.slice ao n capa, .slice bo m capb] w (RetDiv w (val xs / val ys) (val xs % val ys) (n - m + 1) (n + 1)) := by
  have hmn : m ≤ n := by
    have := len_le_of_val ly lx ty hge
    rwa [hx.len, hy.len] at this
  have hcn : 0 ≤ cmpI (val xs) (val ys) := by unfold cmpI; rw [if_neg (by omega)]; split <;> omega
  have HC : Hid (Calls Try.prog 84 #[.slice ao n capa, .slice bo m capb] w (RetQ w (.int .i64 (cmpI (val xs) (val ys))))) := compare_any w ao bo n m capa capb xs ys hx hy lx ly tx ty
  generalize cmpI (val xs) (val ys) = cc at hcn HC
  have HK : Hid (∀ w1, Below w.heap.size w w1 → Calls Try.prog 121 #[.slice ao n capa, .slice bo m capb] w1 (RetDiv w1 (val xs / val ys) (val xs % val ys) (n - m + 1) (n + 1))) := Lib.hid (fun w1 hb => divideLong_any w1 ao bo n m capa capb xs ys (hx.below hb) (hy.below hb) lx ly ty hn hm hmn)
  have hm1 : ((m : Int) == 1) = false := by simp; omega
  have hcc : ¬ cc < 0 := by omega
  have hm2 : ¬ (m : Int) = 1 := by omega
  have hm3 : ¬ m = 1 := by omega
  clear hx hy hge
  go_enter Try.func82, Try.ntmps82
  go_wp2_with fail
  refine HC.out.mono ?_
  rintro e w0 ⟨rfl, q, rfl⟩
  have hb0 := below_drewN (Below.refl w.heap.size w) q
  go_wp2_with fail
  refine (HK.out _ (by first | exact hb0 | exact below_drewN (Below.refl _ _) _)).mono ?_
  rintro e w1 ⟨a1, n1, c1, z1, a2, n2, c2, z2, rfl, o1, l1, t1, v1, b1, o2, l2, t2, v2, b2, hb⟩
  have HO1 := Lib.hid o1
  have HO2 := Lib.hid o2
  have HV1 := Lib.hid v1
  have HV2 := Lib.hid v2
  clear o1 o2 v1 v2
  go_wp2_with fail
  go_ret2
  exact ⟨_, _, _, z1, _, _, _, z2, rfl, HO1.out, l1, t1, HV1.out, b1, HO2.out, l2, t2, HV2.out, b2, hb0.trans hb⟩

theorem divide_any (w : World) (ao bo : Option Addr) (n m capa capb : Nat) (xs ys : List Int) (hx : Sl w ao n capa xs) (hy : Sl w bo m capb ys) (lx : Lim xs) (ly : Lim ys) (tx : Top xs) (ty : Top ys) (hn : n ≤ 1073741824) (hm : 1 ≤ m) :
    Calls Try.prog 82 #[.slice ao n capa, .slice bo m capb] w (RetDiv w (val xs / val ys) (val xs % val ys) n (n + 2)) := by
  by_cases h1 : val xs < val ys
  · refine (divide_lt w ao bo n m capa capb xs ys hx hy lx ly tx ty (by omega) h1).mono ?_
    exact fun e w' h => h.more (by omega) (by omega)
  · by_cases h2 : m = 1
    · subst h2
      obtain ⟨d, rfl⟩ : ∃ d, ys = [d] := by
        have := hy.len
        rcases ys with _ | ⟨d, _ | ⟨d', ys⟩⟩
        · simp at this
        · exact ⟨d, rfl⟩
        · simp at this
      refine (divide_one w ao bo n capa capb xs d hx hy lx ly tx ty (by omega) (by omega)).mono ?_
      exact fun e w' h => h.more (by omega) (by omega)
    · have hmn : m ≤ n := by
        have := len_le_of_val ly lx ty (by omega)
        rwa [hx.len, hy.len] at this
      refine (divide_big w ao bo n m capa capb xs ys hx hy lx ly tx ty hn (by omega) (by omega)).mono ?_
      exact fun e w' h => h.more (by omega) (by omega)

theorem divide_int (w : World) (nx ny : Bool) (ao bo : Option Addr) (n m capa capb : Nat) (xs ys : List Int) (x y : Int) (hx : IntAt w nx ao n capa xs x) (hy : IntAt w ny bo m capb ys y) (hy0 : y ≠ 0) (hn : n ≤ 1073741824) :
    Calls Try.prog 30 #[.agg #[.bool nx, .slice ao n capa], .agg #[.bool ny, .slice bo m capb]] w (RetQR w (x.tdiv y) (x.tmod y) n (n + 2)) := by
  refine div_int w nx ny ao bo n m capa capb xs ys x y hx hy hy0 n (n + 2) (fun w1 hb => ?_)
  refine divide_any w1 ao bo n m capa capb xs ys (hx.sl.below hb) (hy.sl.below hb) hx.lim hy.lim hx.top hy.top hn ?_
  rcases Nat.eq_zero_or_pos m with h | h
  · exfalso
    have h1 := hy.sl.len
    rw [h] at h1
    have h2 := hy.abs
    rw [List.eq_nil_of_length_eq_zero h1] at h2
    simp [val] at h2
    omega
  · exact h
end Go.Proofs.Ytpakfknacmcohaa
