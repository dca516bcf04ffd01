/- The reference's Sub and Cmp. -/
import Derived.Test.YtihfokdehcdgdaaRef9
namespace Go.Proofs.Ytihfokdehcdgdaa
open Go.RowKit
set_option autoImplicit false
set_option linter.unusedVariables false

theorem rsub_any (w : World) (nx ny : Bool) (ao bo : Option Addr) (n m capa capb : Nat) (xs ys : List Int) (x y : Int) (hx : RefAt w nx ao n capa xs x) (hy : RefAt w ny bo m capb ys y) (hn : n ≤ 4294967296) (hm : m ≤ 4294967296) :
    Calls Try.prog 41 #[.agg #[.bool nx, .slice ao n capa], .agg #[.bool ny, .slice bo m capb]] w (RetRef w (x - y) (max n m + 1)) := by
  have HX := Lib.hid hx
  have HY := Lib.hid hy
  clear hx hy
  go_enter Try.func41, Try.ntmps41
  go_wp2_with fail
  go_region_held3 (fun w' => w'.cell? ⟨w.heap.size, 0, none⟩ = some (.bool nx) ∧ w'.cell? ⟨w.heap.size, 1, none⟩ = some (.slice ao n capa) ∧ w'.cell? ⟨w.heap.size + 1, 0, none⟩ = some (.bool ny) ∧ w'.cell? ⟨w.heap.size + 1, 1, none⟩ = some (.slice bo m capb)) (((try dsimp only); (repeat' apply And.intro) <;> (first | (go_keep; done) | (go_split_ands; rw [World.cell?_setCell_far _ _ _ _ (by dsimp only; omega), World.cell?_setCell_far _ _ _ _ (by dsimp only; omega)]; assumption) | (go_split_ands; rw [hb1.cell (by go_size)]; assumption) | (go_split_ands; rw [hb3.cell (by go_size)]; assumption))))
    (first | (go_at_call 35; refine (rneg_any _ ny bo m capb ys y ?_).mono ?_; (exact HY.out.below (ent3D _ _ _ _)); rintro e w1 ⟨n1, a1, k1, cc1, z1, rfl, hint1, hk1, hb1⟩; obtain ⟨hz1, hr1, hb2⟩ := left3D hb1; have HI1 := Lib.hid hint1; clear hint1) | (go_at_call 39; refine (radd_any _ nx n1 ao a1 n k1 capa cc1 xs z1 x (-y) (HX.out.below hb2) HI1.out hn (by omega)).mono ?_; rintro e w2 ⟨neg', ao', n', cap', zs', rfl, hint, hn', hb3⟩; have hr2 := (hb3.block _ (by omega)).trans hr1; obtain ⟨c0, c1, f0, f1⟩ := blk2 hr2; have HI := Lib.hid (hint.stored hr2 (.bool neg') (.slice ao' n' cap')); clear hint hr2 hr1))
  have hb4 : Below w.heap.size w w2 := hb2.trans (hb3.mono (by omega))
  go_wp2
  refine bodyPost_ret (v := .agg #[.bool neg', .slice ao' n' cap']) (by simp [results, Try.results41, go_sem, c0, c1]) rfl ?_
  exact fin_ref (by omega) hb4 HI.out (by omega) (by omega)

theorem rcmp_any (w : World) (nx ny : Bool) (ao bo : Option Addr) (n m capa capb : Nat) (xs ys : List Int) (x y : Int) (hx : RefAt w nx ao n capa xs x) (hy : RefAt w ny bo m capb ys y) (hn : n ≤ 4294967296) (hm : m ≤ 4294967296) :
    Calls Try.prog 33 #[.agg #[.bool nx, .slice ao n capa], .agg #[.bool ny, .slice bo m capb]] w (RetV w (.int .i64 (cmpI x y))) := by
  have HX := Lib.hid hx
  have HY := Lib.hid hy
  have hc : cmpI (x - y) 0 = cmpI x y := by
    unfold cmpI
    by_cases h1 : x < y
    · rw [if_pos h1, if_pos (by omega)]
    · rw [if_neg h1, if_neg (by omega)]
      by_cases h2 : y < x
      · rw [if_pos h2, if_pos (by omega)]
      · rw [if_neg h2, if_neg (by omega)]
  have HC := Lib.hid hc
  clear hx hy hc
  go_enter Try.func33, Try.ntmps33
  go_wp2_with fail
  refine (rsub_any _ nx ny ao bo n m capa capb xs ys x y (HX.out.below (by go_grown)) (HY.out.below (by go_grown)) hn hm).mono ?_
  rintro e w1 ⟨n1, a1, k1, cc1, z1, rfl, hint1, hk1, hb1⟩
  have HI1 := Lib.hid hint1
  have hb2 : Below w.heap.size w w1 := Below.trans (by go_grown) (hb1.mono (by go_size))
  clear hint1
  go_wp2_with fail
  refine (rsign_any _ n1 a1 k1 cc1 z1 (x - y) HI1.out).mono ?_
  rintro e w2 ⟨rfl, hb3⟩
  go_wp2_with fail
  go_ret
  refine ⟨?_, hb2.trans (hb3.mono hb2.size)⟩
  rw [← HC.out]
  rfl
end Go.Proofs.Ytihfokdehcdgdaa
