/- Integers as values: what 'holds the integer x' says; wrap, Make, Neg, Abs. -/
import Derived.Test.YtpakfknacmcohaaNat1
import Derived.Deep.RegionHeld3
namespace Go.Proofs.Ytpakfknacmcohaa
open Go.RowKit
set_option autoImplicit false

theorem bcell {W w1 : World} (hb : Below W.heap.size W w1) : (∀ b o, b < W.heap.size → w1.cell? ⟨b, o, none⟩ = W.cell? ⟨b, o, none⟩) ∧ (∀ b o, b < W.heap.size → w1.frozen? ⟨b, o, none⟩ = W.frozen? ⟨b, o, none⟩) :=
  ⟨fun b o h => hb.cell (p := ⟨b, o, none⟩) h, fun b o h => hb.frozen (p := ⟨b, o, none⟩) h⟩

theorem heap_alloc2 (w : World) (o1 o2 : Obj) : ((w.alloc o1).alloc o2).heap[w.heap.size + 1]? = some o2 ∧ ((w.alloc o1).alloc o2).heap[w.heap.size]? = some o1 := by
  refine ⟨by have := heap_alloc_new (w.alloc o1) o2; simpa using this, ?_⟩
  rw [heap_alloc_old _ _ (by simp)]
  exact heap_alloc_new w o1

theorem blk2 {w : World} {B : Nat} {a b : Value} {t : TypeId} (h : w.heap[B]? = some (.cells #[a, b] t (0, 0))) :
    w.cell? ⟨B, 0, none⟩ = some a ∧ w.cell? ⟨B, 1, none⟩ = some b ∧ w.frozen? ⟨B, 0, none⟩ = false ∧ w.frozen? ⟨B, 1, none⟩ = false :=
  ⟨by rw [cell_of_row w B 0 _ t (0, 0) h]; rfl, by rw [cell_of_row w B 1 _ t (0, 0) h]; rfl, frozen_of_row w B 0 _ t h, frozen_of_row w B 1 _ t h⟩

def sgn (neg : Bool) (v : Int) : Int := if neg then - v else v

/-- The sign and the slice hold the integer x, in at most L limbs. -/
structure IntAt (w : World) (neg : Bool) (ao : Option Addr) (n cap : Nat) (zs : List Int) (x : Int) : Prop where
  sl : Sl w ao n cap zs
  lim : Lim zs
  top : Top zs
  sign : neg = true → zs ≠ []
  val : x = sgn neg (val zs)

theorem IntAt.below {w w' : World} {neg : Bool} {ao : Option Addr} {n cap : Nat} {zs : List Int} {x : Int} (h : IntAt w neg ao n cap zs x) (hb : Below w.heap.size w w') : IntAt w' neg ao n cap zs x :=
  ⟨h.sl.below hb, h.lim, h.top, h.sign, h.val⟩

theorem wrap_any (w : World) (neg : Bool) (ao : Option Addr) (n cap : Nat) (zs : List Int) (h : Sl w ao n cap zs) :
    Calls Try.prog 70 #[.bool neg, .slice ao n cap] w fun e w' => e = .returned (.agg #[.bool (neg && decide ((0 : Int) < (tl zs n : Nat))), .slice ao (tl zs n) cap]) ∧ Below w.heap.size w w' := by
  have htl := tl_le zs n
  have hle := h.le
  have hmost := h.most
  have ht : ∀ w1, Below w.heap.size w w1 → Calls Try.prog 118 #[.slice ao n cap] w1 fun e w' => e = .returned (.slice ao (tl zs n) cap) ∧ w1 = w' :=
    fun w1 hb => trim_any w1 ao n cap zs h.len h.le h.most (h.cells.below hb)
  have HT := Lib.hid ht
  clear ht h
  unfold maxLen at hmost
  cases neg
  all_goals
    go_enter Try.func70, Try.ntmps70
    go_wp2_with fail
    refine (HT.out _ (by go_grown)).mono ?_
    rintro e w' ⟨rfl, rfl⟩
    go_wp2
    go_returns
    exact ⟨by simp, by go_grown⟩

/-- An integer was returned: the value x, in at most L limbs. -/
def RetInt (w : World) (x : Int) (L : Nat) (e : Ending) (w' : World) : Prop :=
  ∃ neg ao n cap zs, e = .returned (.agg #[.bool neg, .slice ao n cap]) ∧ IntAt w' neg ao n cap zs x ∧ n ≤ L ∧ Below w.heap.size w w'

theorem wrap_int (w : World) (neg : Bool) (ao : Option Addr) (n cap : Nat) (zs : List Int) (h : Sl w ao n cap zs) (hl : Lim zs) {x : Int} (hx : x = sgn neg (val zs)) :
    Calls Try.prog 70 #[.bool neg, .slice ao n cap] w (RetInt w x n) := by
  refine (wrap_any w neg ao n cap zs h).mono ?_
  rintro e w' ⟨rfl, hb⟩
  have hle := tl_le zs n
  have hlen := h.len
  have hv : val (trm zs) = val zs := trm_val zs
  have hn : (trm zs).length = tl zs n := by rw [trm_length, hlen]
  have hs := h.below hb
  refine ⟨_, _, _, _, trm zs, rfl, ⟨⟨hn, Nat.le_trans hle h.le, h.most, h.nil, ?_⟩, trm_lim hl, trm_top zs, ?_, ?_⟩, hle, hb⟩
  · exact hs.cells.take _
  · intro hneg hnil
    rw [hnil] at hn
    simp at hneg hn
    omega
  · rw [hx, hv]
    by_cases h0 : tl zs n = 0
    · have : val zs = 0 := by rw [← hv, List.eq_nil_of_length_eq_zero (hn.trans h0)]; rfl
      rw [this]; simp [sgn]
    · have : decide ((0 : Int) < (tl zs n : Nat)) = true := by simp; omega
      rw [this, Bool.and_true]

theorem Cells.setCell {w : World} {ao : Option Addr} {zs : List Int} (h : Cells w ao zs) {p : Addr} (u : Value) (hp : ∀ z, w.cell? p ≠ some (.int .u32 z)) : Cells (w.setCell p u) ao zs := by
  rcases h with h | ⟨b, o, h1, h2⟩
  · exact .inl h
  · refine .inr ⟨b, o, h1, fun i hi => ?_⟩
    have h3 := h2 i hi
    rw [World.cell?_setCell_other]
    · exact h3
    · intro e; rw [e] at hp; exact hp _ h3

theorem IntAt.setCell {w : World} {neg : Bool} {ao : Option Addr} {n cap : Nat} {zs : List Int} {x : Int} (h : IntAt w neg ao n cap zs x) {p : Addr} (u : Value) (hp : ∀ z, w.cell? p ≠ some (.int .u32 z)) : IntAt (w.setCell p u) neg ao n cap zs x :=
  ⟨⟨h.sl.len, h.sl.le, h.sl.most, h.sl.nil, h.sl.cells.setCell u hp⟩, h.lim, h.top, h.sign, h.val⟩

/-- Behind the two stores into the result's variable the integer is there as before. -/
theorem IntAt.stored {w : World} {neg : Bool} {ao : Option Addr} {n cap : Nat} {zs : List Int} {x : Int} (h : IntAt w neg ao n cap zs x) {B : Nat} {a : Bool} {b : Option Addr} {c d : Nat} (hb : w.heap[B]? = some (.cells #[.bool a, .slice b c d] 28 (0, 0))) (u v : Value) :
    IntAt ((w.setCell ⟨B, 0, none⟩ u).setCell ⟨B, 1, none⟩ v) neg ao n cap zs x := by
  obtain ⟨h0, h1, _, _⟩ := blk2 hb
  refine (h.setCell u ?_).setCell v ?_
  · rw [h0]; simp
  · intro z; rw [World.cell?_setCell_other _ _ _ _ (by simp), h1]; simp

theorem make_int (w : World) (neg : Bool) (ao : Option Addr) (n cap : Nat) (zs : List Int) (h : Sl w ao n cap zs) (hl : Lim zs) (hn : n ≤ 34359738368) :
    Calls Try.prog 68 #[.bool neg, .slice ao n cap] w (RetInt w (sgn neg (val zs)) n) := by
  have hc := fun w1 hb => clone_any w1 ao n cap zs (h.below hb) hn
  have HC := Lib.hid hc
  clear hc h
  go_enter Try.func68, Try.ntmps68
  go_wp2_with fail
  refine (HC.out _ (by go_grown)).mono ?_
  rintro e w1 ⟨ao1, cap1, rfl, hown, hb1⟩
  have hr1 : w1.heap[w.heap.size]? = some (.cells #[.bool false, .slice none 0 0] 28 (0, 0)) := (hb1.block _ (by simp)).trans (heap_alloc_new w _)
  have hz1 : w.heap.size + 1 ≤ w1.heap.size := by have := hb1.size; simp at this; omega
  have hb2 : Below w.heap.size w w1 := ((Below.refl _ _).alloc (Nat.le_refl _) _).trans (hb1.mono (by simp))
  have HS := Lib.hid hown.sl
  have HR := Lib.hid hr1
  clear hown hr1
  go_wp2_with fail
  refine (wrap_int w1 neg ao1 n cap1 zs HS.out hl rfl).mono ?_
  rintro e w2 ⟨neg', ao', n', cap', zs', rfl, hint, hn', hb3⟩
  have hr2 := (hb3.block _ (by omega)).trans HR.out
  have hb4 : Below w.heap.size w w2 := hb2.trans (hb3.mono (by omega))
  obtain ⟨c0, c1, f0, f1⟩ := blk2 hr2
  have HI := Lib.hid (hint.stored hr2 (.bool neg') (.slice ao' n' cap'))
  clear hint hr2
  go_wp2
  refine bodyPost_ret (v := .agg #[.bool neg', .slice ao' n' cap']) (by simp [results, Try.results68, go_sem, c0, c1]) rfl ?_
  exact ⟨_, _, _, _, _, rfl, HI.out, hn', (hb4.setCell (Nat.le_refl _) _).setCell (Nat.le_refl _) _⟩

theorem neg_int (w : World) (neg : Bool) (ao : Option Addr) (n cap : Nat) (zs : List Int) (x : Int) (h : IntAt w neg ao n cap zs x) (hn : n ≤ 34359738368) :
    Calls Try.prog 34 #[.agg #[.bool neg, .slice ao n cap]] w (RetInt w (-x) n) := by
  have hc := fun w1 hb => clone_any w1 ao n cap zs (h.sl.below hb) hn
  have HC := Lib.hid hc
  clear hc
  go_enter Try.func34, Try.ntmps34
  go_wp2_with fail
  go_region_held3 (fun w' => w'.cell? ⟨w.heap.size, 0, none⟩ = some (.bool neg) ∧ w'.cell? ⟨w.heap.size, 1, none⟩ = some (.slice ao n cap)) (first | go_keep | (go_split_ands; refine ⟨?_, ?_⟩ <;> (rw [hb1.cell (by simp; omega)]; assumption)) | (go_split_ands; refine ⟨?_, ?_⟩ <;> (rw [hb3.cell (by simp; omega)]; assumption)))
    (first | (go_at_call 85; refine (HC.out _ ?_).mono ?_; (go_grown); rintro e w1 ⟨ao1, cap1, rfl, hown, hb1⟩; have hr1 := (hb1.block (w.heap.size + 1) (by simp)).trans (heap_alloc2 _ _ _).1; have hz1 := hb1.size; simp only [World.drew, World.size_alloc] at hz1) | (go_at_call 70; refine (wrap_int _ _ _ _ _ _ hown.sl h.lim rfl).mono ?_; rintro e w2 ⟨neg', ao', n', cap', zs', rfl, hint, hn', hb3⟩; have hr2 := (hb3.block _ (by omega)).trans hr1; obtain ⟨c0, c1, f0, f1⟩ := blk2 hr2; have HI := Lib.hid (hint.stored hr2 (.bool neg') (.slice ao' n' cap')); clear hint hr2 hr1))
  have hb4 : Below w.heap.size w w2 := ((((Below.refl _ _).alloc (Nat.le_refl _) _).alloc (by simp) _).drew.trans (hb1.mono (by simp [World.drew]; omega))).trans (hb3.mono (by omega))
  have hx : sgn (!neg) (val zs) = -x := by rw [h.val]; cases neg <;> simp [sgn]
  have HX := Lib.hid hx
  clear hx
  go_wp2
  refine bodyPost_ret (v := .agg #[.bool neg', .slice ao' n' cap']) (by simp [results, Try.results34, go_sem, c0, c1]) rfl ?_
  exact ⟨_, _, _, _, _, rfl, HX.out ▸ HI.out, hn', (hb4.setCell (by simp) _).setCell (by simp) _⟩
end Go.Proofs.Ytpakfknacmcohaa
