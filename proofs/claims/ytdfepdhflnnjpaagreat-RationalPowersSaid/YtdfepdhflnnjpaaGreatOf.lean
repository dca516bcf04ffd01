/- Of: the program's and the reference's integer of a number that is handed in. -/
import Derived.Test.YtdfepdhflnnjpaaGreatRefB
import Derived.Test.YtdfepdhflnnjpaaGreatSmallM
namespace Go.Proofs.YtdfepdhflnnjpaaGreat
open Go.RowKit
set_option autoImplicit false
set_option maxHeartbeats 1000000
set_option linter.unusedVariables false

/-- Both integers were returned. -/
def RetOf (w : World) (x : Int) (L M : Nat) (e : Ending) (w' : World) : Prop :=
  ∃ s1 a1 n1 c1 z1 s2 a2 n2 c2 z2, e = .returned (.tuple #[.agg #[.bool s1, .slice a1 n1 c1], .agg #[.bool s2, .slice a2 n2 c2]]) ∧
    IntAt w' s1 a1 n1 c1 z1 x ∧ n1 ≤ L ∧ RefAt w' s2 a2 n2 c2 z2 x ∧ n2 ≤ M ∧ Below w.heap.size w w'

theorem IntAt.setTwo {w : World} {neg : Bool} {ao : Option Addr} {n cap : Nat} {zs : List Int} {x : Int} (h : IntAt w neg ao n cap zs x) {B : Nat} {t : TypeId} {a : Bool} {b : Option Addr} {c d : Nat} (hb : w.heap[B]? = some (.cells #[.bool a, .slice b c d] t (0, 0))) (u v : Value) :
    IntAt ((w.setCell ⟨B, 0, none⟩ u).setCell ⟨B, 1, none⟩ v) neg ao n cap zs x := by
  obtain ⟨h0, h1, _, _⟩ := blk2 hb
  refine (h.setCell u ?_).setCell v ?_
  · rw [h0]; simp
  · intro z; rw [World.cell?_setCell_other _ _ _ _ (by simp), h1]; simp

theorem RefAt.setTwo {w : World} {neg : Bool} {ao : Option Addr} {n cap : Nat} {zs : List Int} {x : Int} (h : RefAt w neg ao n cap zs x) {B : Nat} {t : TypeId} {a : Bool} {b : Option Addr} {c d : Nat} (hb : w.heap[B]? = some (.cells #[.bool a, .slice b c d] t (0, 0))) (u v : Value) :
    RefAt ((w.setCell ⟨B, 0, none⟩ u).setCell ⟨B, 1, none⟩ v) neg ao n cap zs x := by
  obtain ⟨h0, h1, _, _⟩ := blk2 hb
  refine (h.setCell u ?_).setCell v ?_
  · rw [h0]; simp
  · intro z; rw [World.cell?_setCell_other _ _ _ _ (by simp), h1]; simp

theorem heap_mid (w : World) (a b c : Obj) : (W3 w a b c).drew.heap[w.heap.size + 1]? = some b := by
  show (((w.alloc a).alloc b).alloc c).heap[w.heap.size + 1]? = some b
  rw [heap_alloc_old _ _ (by simp)]
  exact (heap_alloc2 w a b).1

set_option maxRecDepth 100000 in
theorem of_any (w : World) (neg : Bool) (ao : Option Addr) (n cap : Nat) (zs : List Int) (h : Sl w ao n cap zs) (lz : Lim zs) (hn : n ≤ 4294967296) :
    Calls Tryz.prog 15 #[.agg #[.bool neg, .slice ao n cap]] w (RetOf w (sgn neg (val zs)) n (2 * n)) := by
  have H := Lib.hid h
  clear h
  go_enter Tryz.func15, Tryz.ntmps15
  go_wp2_with fail
  go_region_held3 (fun w' => w'.cell? ⟨w.heap.size, 0, none⟩ = some (.bool neg) ∧ w'.cell? ⟨w.heap.size, 1, none⟩ = some (.slice ao n cap)) (((try dsimp only); (repeat' apply And.intro) <;> (first | (go_keep; done) | (go_split_ands; rw [World.cell?_setCell_far _ _ _ _ (by dsimp only; omega), World.cell?_setCell_far _ _ _ _ (by dsimp only; omega)]; assumption) | (go_split_ands; rw [World.cell?_setCell_far _ _ _ _ (by dsimp only; omega), World.cell?_setCell_far _ _ _ _ (by dsimp only; omega), World.cell?_setCell_far _ _ _ _ (by dsimp only; omega), World.cell?_setCell_far _ _ _ _ (by dsimp only; omega)]; assumption) | (go_split_ands; rw [hb1.cell (by go_size)]; assumption) | (go_split_ands; rw [hb3.cell (by go_size)]; assumption))))
    (first | (go_at_call 74; refine (make_int _ neg ao n cap zs ?_ lz (by omega)).mono ?_; (exact H.out.below (ent3D _ _ _ _)); rintro e w1 ⟨n1, a1, k1, cc1, z1, rfl, hint1, hk1, hb1⟩; obtain ⟨hz1, hr1, hb2⟩ := left3D hb1; have hq1 := (hb1.block (w.heap.size + 1) (by go_size)).trans (heap_mid w _ _ _); have HI1 := Lib.hid hint1; clear hint1) | (go_at_call 75; refine (rmake_any _ neg ao n cap zs (H.out.below hb2) lz hn).mono ?_; rintro e w2 ⟨neg', ao', n', cap', zs', rfl, hint, hn', hb3⟩; have hr2 := (hb3.block _ (by omega)).trans hr1; have hq2 := (hb3.block _ (by omega)).trans hq1; obtain ⟨c0, c1, f0, f1⟩ := blk2 hr2; obtain ⟨d0, d1, e0, e1⟩ := blk2 hq2))
  have hk : ((w2.setCell ⟨w.heap.size + 1, 0, none⟩ (.bool n1)).setCell ⟨w.heap.size + 1, 1, none⟩ (.slice a1 k1 cc1)).heap[w.heap.size + 1 + 1]? = some (.cells #[.bool false, .slice none 0 0] 34 (0, 0)) := by
    rw [Below.heap_setCell _ _ _ _ (by dsimp only; omega), Below.heap_setCell _ _ _ _ (by dsimp only; omega)]
    exact hr2
  have HI := Lib.hid (((HI1.out.below hb3).setTwo hq2 (.bool n1) (.slice a1 k1 cc1)).setTwo hk (.bool neg') (.slice ao' n' cap'))
  have HR := Lib.hid ((hint.setTwo hq2 (.bool n1) (.slice a1 k1 cc1)).setTwo hk (.bool neg') (.slice ao' n' cap'))
  have hb4 : Below w.heap.size w w2 := hb2.trans (hb3.mono (by omega))
  have hb9 := (((hb4.setCell (p := ⟨w.heap.size + 1, 0, none⟩) (by dsimp only; omega) (.bool n1)).setCell (p := ⟨w.heap.size + 1, 1, none⟩) (by dsimp only; omega) (.slice a1 k1 cc1)).setCell (p := ⟨w.heap.size + 1 + 1, 0, none⟩) (by dsimp only; omega) (.bool neg')).setCell (p := ⟨w.heap.size + 1 + 1, 1, none⟩) (by dsimp only; omega) (.slice ao' n' cap')
  clear hint hk hr2 hq2 hr1 hq1 hb1 hb3
  go_wp2
  refine bodyPost_ret (v := .tuple #[.agg #[.bool n1, .slice a1 k1 cc1], .agg #[.bool neg', .slice ao' n' cap']]) (by simp [results, Tryz.results15, go_sem, c0, c1, d0, d1]) rfl ?_
  exact ⟨_, _, _, _, _, _, _, _, _, _, rfl, HI.out, hk1, HR.out, hn', hb9⟩
end Go.Proofs.YtdfepdhflnnjpaaGreat
