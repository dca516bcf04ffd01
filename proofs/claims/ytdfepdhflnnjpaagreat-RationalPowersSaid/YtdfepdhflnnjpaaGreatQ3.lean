/- Fractions of the reference; New of the program. -/
import Derived.Test.YtdfepdhflnnjpaaGreatQ2
import Derived.Test.YtdfepdhflnnjpaaGreatRGcd
import Derived.Deep.DeepCutAuto
import Derived.Sort.AtCall
namespace Go.Proofs.YtdfepdhflnnjpaaGreat
open Go.RowKit
set_option autoImplicit false
set_option linter.unusedVariables false

theorem below2 {N : Nat} {w0 w : World} (h : Below N w0 w) {B : Nat} (hB : N ≤ B) (u1 u2 : Value) :
    Below N w0 ((w.setCell ⟨B, 0, none⟩ u1).setCell ⟨B, 1, none⟩ u2) :=
  (h.setCell (p := ⟨B, 0, none⟩) hB _).setCell (p := ⟨B, 1, none⟩) hB _

theorem rat_stored {w : World} {tn : Bool} {ta : Option Addr} {t tc : Nat} {zt : List Int} {bn : Bool} {ba : Option Addr} {b bc : Nat} {zb : List Int} {n x d : Int} (h : RatAt w tn ta t tc zt bn ba b bc zb n x d) {B : Nat} {a1 : Bool} {b1 : Option Addr} {c1 d1 : Nat} {a2 : Bool} {b2 : Option Addr} {c2 d2 : Nat} {ty : TypeId}
    (hb : w.heap[B]? = some (.cells #[.bool a1, .slice b1 c1 d1, .bool a2, .slice b2 c2 d2] ty (0, 0))) (u1 u2 u3 u4 : Value) :
    RatAt ((((w.setCell ⟨B, 0, none⟩ u1).setCell ⟨B, 1, none⟩ u2).setCell ⟨B, 2, none⟩ u3).setCell ⟨B, 3, none⟩ u4) tn ta t tc zt bn ba b bc zb n x d :=
  ⟨stored4 h.top hb _ _ _ _, stored4 h.bot hb _ _ _ _, h.den, h.low⟩

/-- A fraction and a code were returned. -/
def RetRatE (w : World) (n d : Int) (L M : Nat) (c : Int) (e : Ending) (w' : World) : Prop :=
  ∃ tn ta t tc zt bn ba b bc zb x, e = .returned (.tuple #[.agg #[.bool tn, .slice ta t tc, .bool bn, .slice ba b bc], .int .i64 c]) ∧ RatAt w' tn ta t tc zt bn ba b bc zb n x d ∧ t ≤ L ∧ b ≤ M ∧ Below w.heap.size w w'

theorem rat_zero (w : World) : RatAt w false none 0 0 [] false none 0 0 [] 0 0 1 := ⟨int_zeroQ w, int_zeroQ w, .inr ⟨rfl, rfl⟩, low_one 0⟩

set_option maxRecDepth 100000 in
set_option maxHeartbeats 4000000 in
theorem newq_any (w : World) (nx ny : Bool) (ao bo : Option Addr) (n m capa capb : Nat) (xs ys : List Int) (N D : Int) (hx : IntAt w nx ao n capa xs N) (hy : IntAt w ny bo m capb ys D) (K : Nat) (hn : n ≤ K) (hm : m ≤ K) (hK : K ≤ 100000) :
    Calls Tryz.prog 16 #[.agg #[.bool nx, .slice ao n capa], .agg #[.bool ny, .slice bo m capb]] w (RetRatE w (if D = 0 then 0 else qn N D) (if D = 0 then 1 else qd N D) K K (if D = 0 then 6 else 0)) := by
  have HX := Lib.hid hx
  have HY := Lib.hid hy
  clear hx hy
  have HS : Hid (∀ w1, Below w.heap.size w w1 → Calls Tryz.prog 64 #[.agg #[.bool ny, .slice bo m capb]] w1 (RetV w1 (.int .i64 (cmpI D 0)))) := Lib.hid (fun w1 hb => sign_int w1 _ _ _ _ _ D (HY.out.below hb))
  by_cases hD : D = 0
  · rw [if_pos hD, if_pos hD, if_pos hD]
    have hc : cmpI D 0 = 0 := cmpI_eq hD
    rw [hc] at HS
    clear hc hD
    go_enter Tryz.func16, Tryz.ntmps16
    go_wp2_with fail
    refine (HS.out _ (by go_grown)).mono ?_
    rintro e w2 ⟨rfl, b2⟩
    have r2 : w2.heap[w.heap.size + 1 + 1]? = some (.cells #[.bool false, .slice none 0 0, .bool false, .slice none 0 0] 38 (0, 0)) := by
      refine (b2.block _ (by simp)).trans ?_
      have := heap_alloc_new ((w.alloc (.cells #[.bool nx, .slice ao n capa] 31)).alloc (.cells #[.bool ny, .slice bo m capb] 31)) (.cells #[.bool false, .slice none 0 0, .bool false, .slice none 0 0] 38)
      simpa using this
    have b3 : Below w.heap.size w w2 := Below.trans (by go_grown) (b2.mono (by simp <;> omega))
    obtain ⟨p0, p1, p2, p3⟩ := blk4 r2
    obtain ⟨pf0, pf1, pf2, pf3⟩ := blk4f r2
    have HB := Lib.hid (below4 b3 (B := w.heap.size + 1 + 1) (by omega) (.bool false) (.slice none 0 0) (.bool false) (.slice none 0 0))
    clear b2 b3 r2
    go_wp2_with fail
    refine bodyPost_ret (v := .tuple #[.agg #[.bool false, .slice none 0 0, .bool false, .slice none 0 0], .int .i64 6]) (by simp [results, Tryz.results16, go_sem, p0, p1, p2, p3]) rfl ?_
    exact ⟨_, _, _, _, _, _, _, _, _, _, _, rfl, rat_zero _, by omega, by omega, HB.out⟩
  · rw [if_neg hD, if_neg hD, if_neg hD]
    obtain ⟨c, hc⟩ : ∃ c, cmpI D 0 = c := ⟨_, rfl⟩
    have hcz : (c == 0) = false := by rw [← hc]; unfold cmpI; by_cases a1 : D < 0 <;> by_cases a2 : 0 < D <;> simp [a1, a2] <;> omega
    rw [hc] at HS
    have HL : Hid (∀ w1, Below w.heap.size w w1 → Calls Tryz.prog 76 #[.agg #[.bool nx, .slice ao n capa], .agg #[.bool ny, .slice bo m capb]] w1 (RetRat w1 (qn N D) (qd N D) K K)) := Lib.hid (fun w1 hb => lowest_any w1 _ _ _ _ _ _ _ _ _ _ N D (HX.out.below hb) (HY.out.below hb) hD K hn hm hK)
    clear hc hD
    go_enter Tryz.func16, Tryz.ntmps16
    go_wp2_with fail
    refine (HS.out _ (by go_grown)).mono ?_
    rintro e w2 ⟨rfl, b2⟩
    have r0 : w2.heap[w.heap.size]? = some (.cells #[.bool nx, .slice ao n capa] 31 (0, 0)) := by
      refine (b2.block _ (by simp <;> omega)).trans ?_
      rw [heap_alloc_old _ _ (by simp <;> omega), heap_alloc_old _ _ (by simp)]; exact heap_alloc_new w _
    have r1 : w2.heap[w.heap.size + 1]? = some (.cells #[.bool ny, .slice bo m capb] 31 (0, 0)) := by
      refine (b2.block _ (by simp <;> omega)).trans ?_
      rw [heap_alloc_old _ _ (by simp)]
      have := heap_alloc_new (w.alloc (.cells #[.bool nx, .slice ao n capa] 31)) (.cells #[.bool ny, .slice bo m capb] 31)
      simpa using this
    have r2 : w2.heap[w.heap.size + 1 + 1]? = some (.cells #[.bool false, .slice none 0 0, .bool false, .slice none 0 0] 38 (0, 0)) := by
      refine (b2.block _ (by simp)).trans ?_
      have := heap_alloc_new ((w.alloc (.cells #[.bool nx, .slice ao n capa] 31)).alloc (.cells #[.bool ny, .slice bo m capb] 31)) (.cells #[.bool false, .slice none 0 0, .bool false, .slice none 0 0] 38)
      simpa using this
    have b3 : Below w.heap.size w w2 := Below.trans (by go_grown) (b2.mono (by simp <;> omega))
    obtain ⟨x0, x1, -, -⟩ := blk2 r0
    obtain ⟨y0, y1, -, -⟩ := blk2 r1
    clear b2 r0 r1
    go_wp2_with fail
    refine (HL.out _ b3).mono ?_
    rintro e w3 ⟨tn, ta, t, tc, zt, bn, ba, b, bc, zb, x, rfl, hr, ht, hb, b4⟩
    have hl2 : w.heap.size + 1 + 1 < w2.heap.size := (Array.getElem?_eq_some_iff.1 r2).1
    have r3 := (b4.block _ hl2).trans r2
    obtain ⟨p0, p1, p2, p3⟩ := blk4 r3
    obtain ⟨pf0, pf1, pf2, pf3⟩ := blk4f r3
    have HR := Lib.hid (rat_stored hr r3 (.bool tn) (.slice ta t tc) (.bool bn) (.slice ba b bc))
    have HB := Lib.hid (below4 (b3.trans (b4.mono b3.size)) (B := w.heap.size + 1 + 1) (by omega) (.bool tn) (.slice ta t tc) (.bool bn) (.slice ba b bc))
    clear hr r3 r2 b3 b4 x0 x1 y0 y1
    go_wp2_with fail
    refine bodyPost_ret (v := .tuple #[.agg #[.bool tn, .slice ta t tc, .bool bn, .slice ba b bc], .int .i64 0]) (by simp [results, Tryz.results16, go_sem, p0, p1, p2, p3]) rfl ?_
    exact ⟨_, _, _, _, _, _, _, _, _, _, _, rfl, HR.out, ht, hb, HB.out⟩

set_option maxRecDepth 100000 in
theorem numq_any (w : World) (tn : Bool) (ta : Option Addr) (t tc : Nat) (zt : List Int) (bn : Bool) (ba : Option Addr) (b bc : Nat) (n : Int) (h : IntAt w tn ta t tc zt n) :
    Calls Tryz.prog 68 #[.agg #[.bool tn, .slice ta t tc, .bool bn, .slice ba b bc]] w (RetInt w n t) := by
  have H := Lib.hid h
  clear h
  go_enter Tryz.func68, Tryz.ntmps68
  go_wp2_with fail
  have hb : Below w.heap.size w ((w.alloc (.cells #[.bool tn, .slice ta t tc, .bool bn, .slice ba b bc] 38)).alloc (.cells #[.bool tn, .slice ta t tc] 31)) := by go_grown
  obtain ⟨k0, k1, -, -⟩ := blk2 (heap_alloc2 w (.cells #[.bool tn, .slice ta t tc, .bool bn, .slice ba b bc] 38) (.cells #[.bool tn, .slice ta t tc] 31)).1
  refine bodyPost_ret (v := .agg #[.bool tn, .slice ta t tc]) (by simp [results, Tryz.results68, go_sem, k0, k1]) rfl ?_
  exact ⟨_, _, _, _, _, rfl, H.out.below hb, Nat.le_refl _, hb⟩

/-- The reference's fraction n/d in lowest terms. -/
structure QAt (w : World) (tn : Bool) (ta : Option Addr) (t tc : Nat) (zt : List Int) (bn : Bool) (ba : Option Addr) (b bc : Nat) (zb : List Int) (n d : Int) : Prop where
  top : RefAt w tn ta t tc zt n
  bot : RefAt w bn ba b bc zb d
  low : Low n d
theorem QAt.below {w w' : World} {tn : Bool} {ta : Option Addr} {t tc : Nat} {zt : List Int} {bn : Bool} {ba : Option Addr} {b bc : Nat} {zb : List Int} {n d : Int} (h : QAt w tn ta t tc zt bn ba b bc zb n d) (hb : Below w.heap.size w w') :
    QAt w' tn ta t tc zt bn ba b bc zb n d := ⟨h.top.below hb, h.bot.below hb, h.low⟩
def RetFrac (w : World) (n d : Int) (L M : Nat) (e : Ending) (w' : World) : Prop :=
  ∃ tn ta t tc zt bn ba b bc zb, e = .returned (.agg #[.bool tn, .slice ta t tc, .bool bn, .slice ba b bc]) ∧ QAt w' tn ta t tc zt bn ba b bc zb n d ∧ t ≤ L ∧ b ≤ M ∧ Below w.heap.size w w'
def RetFracE (w : World) (n d : Int) (L M : Nat) (c : Int) (e : Ending) (w' : World) : Prop :=
  ∃ tn ta t tc zt bn ba b bc zb, e = .returned (.tuple #[.agg #[.bool tn, .slice ta t tc, .bool bn, .slice ba b bc], .int .i64 c]) ∧ QAt w' tn ta t tc zt bn ba b bc zb n d ∧ t ≤ L ∧ b ≤ M ∧ Below w.heap.size w w'
theorem rstored4 {w : World} {neg : Bool} {ao : Option Addr} {n cap : Nat} {zs : List Int} {x : Int} (h : RefAt w neg ao n cap zs x) {B : Nat} {a : Bool} {b : Option Addr} {c d : Nat} {a' : Bool} {b' : Option Addr} {c' d' : Nat} {t : TypeId}
    (hb : w.heap[B]? = some (.cells #[.bool a, .slice b c d, .bool a', .slice b' c' d'] t (0, 0))) (u1 u2 u3 u4 : Value) :
    RefAt ((((w.setCell ⟨B, 0, none⟩ u1).setCell ⟨B, 1, none⟩ u2).setCell ⟨B, 2, none⟩ u3).setCell ⟨B, 3, none⟩ u4) neg ao n cap zs x := by
  obtain ⟨h0, h1, h2, h3⟩ := blk4 hb
  refine (((h.setCell u1 ?_).setCell u2 ?_).setCell u3 ?_).setCell u4 ?_
  · rw [h0]; simp
  · intro z; rw [World.cell?_setCell_other _ _ _ _ (by simp), h1]; simp
  · intro z; rw [World.cell?_setCell_other _ _ _ _ (by simp), World.cell?_setCell_other _ _ _ _ (by simp), h2]; simp
  · intro z; rw [World.cell?_setCell_other _ _ _ _ (by simp), World.cell?_setCell_other _ _ _ _ (by simp), World.cell?_setCell_other _ _ _ _ (by simp), h3]; simp
theorem q_stored {w : World} {tn : Bool} {ta : Option Addr} {t tc : Nat} {zt : List Int} {bn : Bool} {ba : Option Addr} {b bc : Nat} {zb : List Int} {n d : Int} (h : QAt w tn ta t tc zt bn ba b bc zb n d) {B : Nat} {a1 : Bool} {b1 : Option Addr} {c1 d1 : Nat} {a2 : Bool} {b2 : Option Addr} {c2 d2 : Nat} {ty : TypeId}
    (hb : w.heap[B]? = some (.cells #[.bool a1, .slice b1 c1 d1, .bool a2, .slice b2 c2 d2] ty (0, 0))) (u1 u2 u3 u4 : Value) :
    QAt ((((w.setCell ⟨B, 0, none⟩ u1).setCell ⟨B, 1, none⟩ u2).setCell ⟨B, 2, none⟩ u3).setCell ⟨B, 3, none⟩ u4) tn ta t tc zt bn ba b bc zb n d :=
  ⟨rstored4 h.top hb _ _ _ _, rstored4 h.bot hb _ _ _ _, h.low⟩

set_option maxRecDepth 100000 in
theorem rone_any (w : World) : Calls Tryz.prog 82 #[] w (RetRef w 1 4) := by
  go_enter Tryz.func82, Tryz.ntmps82
  go_wp2_with fail
  refine (rnew_any _ 1 (by omega) (by omega)).mono ?_
  rintro e w2 ⟨s, a, m, k, z, rfl, i, g, b2⟩
  have r := (b2.block w.heap.size (by go_size)).trans (heap_alloc_new w _)
  obtain ⟨p0, p1, pf0, pf1⟩ := blk2 r
  have HI := Lib.hid (i.stored r (.bool s) (.slice a m k))
  have HB := Lib.hid (below2 (B := w.heap.size) (Below.trans (by go_grown) (b2.mono (by go_size)) : Below w.heap.size w w2) (Nat.le_refl _) (.bool s) (.slice a m k))
  clear i r b2
  go_wp2_with fail
  refine bodyPost_ret (v := .agg #[.bool s, .slice a m k]) (by simp [results, Tryz.results82, go_sem, p0, p1]) rfl ?_
  exact ⟨_, _, _, _, _, rfl, HI.out, g, HB.out⟩

end Go.Proofs.YtdfepdhflnnjpaaGreat
