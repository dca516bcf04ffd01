/- Of, Is and Short of the statements on fractions. -/
import Derived.Test.YtdfepdhflnnjpaaGreatQ6
import Derived.Test.YtdfepdhflnnjpaaGreatSmallM
import Derived.Test.YtdfepdhflnnjpaaGreatParseM
namespace Go.Proofs.YtdfepdhflnnjpaaGreat
open Go.RowKit
set_option autoImplicit false
set_option linter.unusedVariables false

theorem isn_yes (w : World) (nx ny : Bool) (ao bo : Option Addr) (n m capa capb : Nat) (xs ds : List Int) (x : Int) (hx : IntAt w nx ao n capa xs x) (hy : RefAt w ny bo m capb ds x) (hn : n ≤ 4294967296) (hm : m ≤ 4294967296) :
    Calls Tryz.prog 48 #[.agg #[.bool nx, .slice ao n capa], .agg #[.bool ny, .slice bo m capb]] w (RetV w (.bool true)) := by
  have := is_any w nx ny ao bo n m capa capb xs ds x x hx hy hn hm
  rwa [decide_eq_true rfl] at this


set_option maxRecDepth 100000 in
set_option maxHeartbeats 4000000 in
theorem isq_yes (w : World) (tn : Bool) (ta : Option Addr) (t tc : Nat) (zt : List Int) (bn : Bool) (ba : Option Addr) (b bc : Nat) (zb : List Int) (n x d : Int) (h : RatAt w tn ta t tc zt bn ba b bc zb n x d)
    (ytn : Bool) (yta : Option Addr) (yt ytc : Nat) (yzt : List Int) (ybn : Bool) (yba : Option Addr) (yb ybc : Nat) (yzb : List Int) (hy : QAt w ytn yta yt ytc yzt ybn yba yb ybc yzb n d) (h1 : t ≤ 1000000) (h2 : b ≤ 1000000) (h3 : yt ≤ 1000000) (h4 : yb ≤ 1000000) :
    Calls Tryz.prog 19 #[.agg #[.bool tn, .slice ta t tc, .bool bn, .slice ba b bc], .agg #[.bool ytn, .slice yta yt ytc, .bool ybn, .slice yba yb ybc]] w (RetV w (.bool true)) := by
  have H := Lib.hid h
  have HY := Lib.hid hy
  clear h hy
  go_enter Tryz.func19, Tryz.ntmps19
  go_upto_region 1 with (fail)
  obtain ⟨w1, hw1⟩ : ∃ w1, w1 = (w.alloc (.cells #[.bool tn, .slice ta t tc, .bool bn, .slice ba b bc] 38)).alloc (.cells #[.bool ytn, .slice yta yt ytc, .bool ybn, .slice yba yb ybc] 43) := ⟨_, rfl⟩
  have hbw : Below w.heap.size w w1 := by rw [hw1]; go_grown
  have r0 : w1.heap[w.heap.size]? = some (.cells #[.bool tn, .slice ta t tc, .bool bn, .slice ba b bc] 38 (0, 0)) := by rw [hw1]; exact (heap_alloc2 w _ _).2
  have r1 : w1.heap[w.heap.size + 1]? = some (.cells #[.bool ytn, .slice yta yt ytc, .bool ybn, .slice yba yb ybc] 43 (0, 0)) := by rw [hw1]; exact (heap_alloc2 w _ _).1
  rw [← hw1]
  clear hw1
  obtain ⟨P, hP⟩ : ∃ P, P = w.heap.size := ⟨_, rfl⟩
  rw [← hP] at r0 r1 ⊢
  have l1 : P + 1 < w1.heap.size := (Array.getElem?_eq_some_iff.1 r1).1
  have LR : P + 1 + 1 ≤ w1.heap.size := by omega
  obtain ⟨x0, x1, x2, x3⟩ := blk4 r0
  obtain ⟨y0, y1, y2, y3⟩ := blk4 r1
  have HKP : Hid (∀ w', Below (P + 1 + 1) w1 w' → w'.cell? ⟨P, 0, none⟩ = some (.bool tn) ∧ w'.cell? ⟨P, 1, none⟩ = some (.slice ta t tc) ∧ w'.cell? ⟨P, 2, none⟩ = some (.bool bn) ∧ w'.cell? ⟨P, 3, none⟩ = some (.slice ba b bc) ∧ w'.cell? ⟨P + 1, 0, none⟩ = some (.bool ytn) ∧ w'.cell? ⟨P + 1, 1, none⟩ = some (.slice yta yt ytc) ∧ w'.cell? ⟨P + 1, 2, none⟩ = some (.bool ybn) ∧ w'.cell? ⟨P + 1, 3, none⟩ = some (.slice yba yb ybc)) := Lib.hid (fun w' hb => ⟨(hb.cell (p := ⟨P, 0, none⟩) (by dsimp only; omega)).trans x0, (hb.cell (p := ⟨P, 1, none⟩) (by dsimp only; omega)).trans x1, (hb.cell (p := ⟨P, 2, none⟩) (by dsimp only; omega)).trans x2, (hb.cell (p := ⟨P, 3, none⟩) (by dsimp only; omega)).trans x3, (hb.cell (p := ⟨P + 1, 0, none⟩) (by dsimp only; omega)).trans y0, (hb.cell (p := ⟨P + 1, 1, none⟩) (by dsimp only; omega)).trans y1, (hb.cell (p := ⟨P + 1, 2, none⟩) (by dsimp only; omega)).trans y2, (hb.cell (p := ⟨P + 1, 3, none⟩) (by dsimp only; omega)).trans y3⟩)
  have HBW := Lib.hid hbw
  clear r0 r1 hbw hP x0 x1 x2 x3 y0 y1 y2 y3
  go_region_held3 (fun w' => w'.cell? ⟨P, 0, none⟩ = some (.bool tn) ∧ w'.cell? ⟨P, 1, none⟩ = some (.slice ta t tc) ∧ w'.cell? ⟨P, 2, none⟩ = some (.bool bn) ∧ w'.cell? ⟨P, 3, none⟩ = some (.slice ba b bc) ∧ w'.cell? ⟨P + 1, 0, none⟩ = some (.bool ytn) ∧ w'.cell? ⟨P + 1, 1, none⟩ = some (.slice yta yt ytc) ∧ w'.cell? ⟨P + 1, 2, none⟩ = some (.bool ybn) ∧ w'.cell? ⟨P + 1, 3, none⟩ = some (.slice yba yb ybc)) ((first | exact HKP.out _ (below4 (X4.mono LR) (Nat.le_refl _) _ _ _ _) | exact HKP.out _ (below2 (X4.mono LR) (Nat.le_refl _) _ _) | exact HKP.out _ (X4.mono LR) | exact HKP.out _ (X3.mono LR) | exact HKP.out _ (X2.mono LR) | exact HKP.out _ (X1.mono LR) | exact HKP.out _ ((Below.refl _ _).drew.mono LR)))
    (first | (go_at_call 48; have T4 := X3; clear T4; refine (isn_yes _ _ _ _ _ _ _ _ _ _ _ d I3.out (((HY.out.bot).below HBW.out).below X3) (by omega) (by omega)).mono ?_; rintro e v4 ⟨rfl, u4⟩; have X4 : Below w1.heap.size w1 v4 := X3.trans (u4.mono X3.size)) | (go_at_call 67; have T3 := X2; clear T3; refine (den_any _ _ _ _ _ _ _ _ _ _ _ n x d (((H.out).below HBW.out).below X2)).mono ?_; rintro e v3 ⟨s3, a3, m3, k3, z3, rfl, i3, g3, u3⟩; have X3 : Below w1.heap.size w1 v3 := X2.trans (u3.mono X2.size); have I3 := Lib.hid i3; clear i3) | (go_at_call 48; have T2 := X1; clear T2; refine (isn_yes _ _ _ _ _ _ _ _ _ _ _ n I1.out (((HY.out.top).below HBW.out).below X1) (by omega) (by omega)).mono ?_; rintro e v2 ⟨rfl, u2⟩; have X2 : Below w1.heap.size w1 v2 := X1.trans (u2.mono X1.size)) | (go_at_call 68; refine (numq_any _ _ _ _ _ _ _ _ _ _ n (((H.out.top).below HBW.out).below (Below.refl _ _).drew)).mono ?_; rintro e v1 ⟨s1, a1, m1, k1, z1, rfl, i1, g1, u1⟩; have X1 : Below w1.heap.size w1 v1 := (Below.refl _ _).drew.trans u1; have I1 := Lib.hid i1; clear i1))
  go_wp2_with fail
  go_ret
  exact ⟨rfl, HBW.out.trans (X4.mono HBW.out.size)⟩


structure QNum where
  n : Num
  d : Num

/-- The block holds the pairs, one behind the other. -/
def QNums (w : World) (b : Nat) (l : List QNum) : Prop :=
  ∀ i x, l[i]? = some x → w.cell? ⟨b, i * 4, none⟩ = some (.bool x.n.neg) ∧ w.cell? ⟨b, i * 4 + 1, none⟩ = some (.slice x.n.ao x.n.n x.n.cap) ∧ w.cell? ⟨b, i * 4 + 2, none⟩ = some (.bool x.d.neg) ∧ w.cell? ⟨b, i * 4 + 3, none⟩ = some (.slice x.d.ao x.d.n x.d.cap)

theorem QNums.below {w w' : World} {b : Nat} {l : List QNum} (h : QNums w b l) (hb : Below w.heap.size w w') (hl : b < w.heap.size) : QNums w' b l := by
  intro i x hx
  obtain ⟨h1, h2, h3, h4⟩ := h i x hx
  exact ⟨(hb.cell hl).trans h1, (hb.cell hl).trans h2, (hb.cell hl).trans h3, (hb.cell hl).trans h4⟩

theorem nums_two {w : World} {b : Nat} {x y : Num} {t : TypeId} (h : w.heap[b]? = some (.cells #[.bool x.neg, .slice x.ao x.n x.cap, .bool y.neg, .slice y.ao y.n y.cap] t (0, 0))) : Nums w b [x, y] := by
  intro i u hu
  match i, hu with
  | 0, hu =>
    simp at hu; subst hu
    exact ⟨cell_of_row _ b 0 _ t (0, 0) h, cell_of_row _ b 1 _ t (0, 0) h⟩
  | 1, hu =>
    simp at hu; subst hu
    exact ⟨cell_of_row _ b 2 _ t (0, 0) h, cell_of_row _ b 3 _ t (0, 0) h⟩

theorem short_two (w : World) (b : Nat) (x y : Num) (most : Nat) (h : w.heap[b]? = some (.cells #[.bool x.neg, .slice x.ao x.n x.cap, .bool y.neg, .slice y.ao y.n y.cap] 24 (0, 0))) :
    Calls Tryz.prog 12 #[.int .i64 most, .slice (some ⟨b, 0, none⟩) 2 2] w (RetV w (.bool (decide (x.n ≤ most ∧ y.n ≤ most)))) := by
  have := short_any w b 2 [x, y] most (nums_two h) (Array.getElem?_eq_some_iff.1 h).1 (by simp) (by omega)
  simpa using this

set_option maxRecDepth 100000 in
theorem qshort1 (w : World) (x y : Num) (most : Nat) (p : Addr) (hc : w.cell? p = some (.int .i64 (most : Int))) (hp : p.block < w.heap.size) :
    Calls Tryz.prog 73 #[.agg #[.bool x.neg, .slice x.ao x.n x.cap, .bool y.neg, .slice y.ao y.n y.cap], .pointer (some p)] w (RetV w (.bool (!decide (x.n ≤ most ∧ y.n ≤ most)))) := by
  go_enter Tryz.func73, Tryz.ntmps73
  go_wp2_with fail
  refine (short_two _ _ x y most (heap_alloc2 _ _ _).1).mono ?_
  rintro e w1 ⟨rfl, hb1⟩
  have hb2 : Below w.heap.size w w1 := Below.trans (by go_grown) (hb1.mono (by go_size))
  obtain ⟨r, hr⟩ : ∃ r, decide (x.n ≤ most ∧ y.n ≤ most) = r := ⟨_, rfl⟩
  have HR := Lib.hid hr
  rw [hr]
  clear hr hb1
  go_wp2_with fail
  go_ret
  exact ⟨by rw [HR.out]; rfl, hb2⟩

def QRetFind (w : World) (l : List QNum) (most : Nat) (e : Ending) (w' : World) : Prop :=
  ∃ k : Int, e = .returned (.int .i64 k) ∧ (0 ≤ k ↔ ∃ x ∈ l, ¬ (x.n.n ≤ most ∧ x.d.n ≤ most)) ∧ Below w.heap.size w w'

set_option maxRecDepth 100000 in
theorem qfind_any (w : World) (b cap : Nat) (l : List QNum) (most : Nat) (p : Addr) (hl : QNums w b l) (hb : b < w.heap.size) (hc : w.cell? p = some (.int .i64 most)) (hp : p.block < w.heap.size) (hlen : l.length ≤ cap) (hcap : cap ≤ 1000) :
    Calls Tryz.prog 117 #[.slice (some ⟨b, 0, none⟩) l.length cap, .func (Fn.func 73) #[] #[.pointer (some p)]] w (QRetFind w l most) := by
  have HL := Lib.hid hl
  clear hl
  obtain ⟨n, hn⟩ : ∃ n, n = l.length := ⟨_, rfl⟩
  rw [← hn] at hlen ⊢
  have HN := Lib.hid hn
  clear hn
  go_enter Tryz.func117, Tryz.ntmps117
  go_wp2_with fail
  go_loopw [8] (fun i wr => ∃ j : Nat, j ≤ n ∧ i = .int .i64 j ∧ (∀ x ∈ l.take j, x.n.n ≤ most ∧ x.d.n ≤ most) ∧ Below w.heap.size w wr)
    (fun i _ => n - (intOf i).toNat)
  case atStart => exact ⟨0, by omega, rfl, by simp, .refl _ _⟩
  case round =>
    obtain ⟨j, hj, rfl, hall, hbel⟩ := hrel
    have HALL := Lib.hid hall
    have hc' : wr.cell? p = some (.int .i64 most) := (hbel.cell hp).trans hc
    have hp' : p.block < wr.heap.size := Nat.lt_of_lt_of_le hp hbel.size
    clear hall
    by_cases hjs : j < n
    · obtain ⟨x, hx⟩ : ∃ x, l[j]? = some x := ⟨l[j]'(by rw [← HN.out]; exact hjs), by simp⟩
      obtain ⟨x0, x1, x2, x3⟩ := HL.out.below hbel hb j x hx
      have HX := Lib.hid hx
      clear hx
      have hji : (j : Int) < n := by omega
      go_wp2_with fail
      by_cases hm : x.n.n ≤ most ∧ x.d.n ≤ most
      · refine (qshort1 _ x.n x.d most p hc' hp').mono ?_
        rintro e w1 ⟨rfl, hb1⟩
        have hd : (!decide (x.n.n ≤ most ∧ x.d.n ≤ most)) = false := by rw [decide_eq_true hm]; rfl
        rw [hd]
        clear hd
        have HM := Lib.hid hm
        clear hm
        go_wp2_with fail
        go_roundw
        case rel =>
          refine ⟨j + 1, by omega, by go_num, ?_, hbel.trans (hb1.mono hbel.size)⟩
          intro y hy
          rw [List.take_add_one, HX.out] at hy
          simp at hy
          rcases hy with hy | rfl
          · exact HALL.out y hy
          · exact HM.out
        case measure => simp [intOf]; omega
      · refine (qshort1 _ x.n x.d most p hc' hp').mono ?_
        rintro e w1 ⟨rfl, hb1⟩
        have hd : (!decide (x.n.n ≤ most ∧ x.d.n ≤ most)) = true := by rw [decide_eq_false hm]; rfl
        rw [hd]
        clear hd
        have HM := Lib.hid hm
        clear hm
        go_wp2_with fail
        go_ret
        refine ⟨j, rfl, ⟨fun _ => ⟨x, List.mem_of_getElem? HX.out, HM.out⟩, fun _ => by omega⟩, hbel.trans (hb1.mono hbel.size)⟩
    · obtain rfl : j = n := by omega
      have hji : ¬ (j : Int) < j := by omega
      go_wp2_with fail
      go_ret
      refine ⟨-1, rfl, ⟨fun h => by omega, ?_⟩, hbel⟩
      rintro ⟨y, hy, hm⟩
      exact absurd (HALL.out y (by rw [List.take_of_length_le (by rw [← HN.out]; omega)]; exact hy)) hm

theorem qcontains_any (w : World) (b cap : Nat) (l : List QNum) (most : Nat) (p : Addr) (hl : QNums w b l) (hb : b < w.heap.size) (hc : w.cell? p = some (.int .i64 most)) (hp : p.block < w.heap.size) (hlen : l.length ≤ cap) (hcap : cap ≤ 1000) :
    Calls Tryz.prog 72 #[.slice (some ⟨b, 0, none⟩) l.length cap, .func (Fn.func 73) #[] #[.pointer (some p)]] w (RetV w (.bool (decide (∃ x ∈ l, ¬ (x.n.n ≤ most ∧ x.d.n ≤ most))))) := by
  have HC := Lib.hid (qfind_any w b cap l most p hl hb hc hp hlen hcap)
  clear hl hc
  go_enter Tryz.func72, Tryz.ntmps72
  go_wp2_with fail
  refine HC.out.mono ?_
  rintro e w1 ⟨k, rfl, hk, hb1⟩
  have HK := Lib.hid hk
  clear hk
  go_wp2_with fail
  go_ret
  refine ⟨?_, hb1⟩
  change Ending.returned (.bool (decide (0 ≤ k))) = _
  rw [decide_eq_decide.2 HK.out]

theorem qshort_any (w : World) (b cap : Nat) (l : List QNum) (most : Nat) (hl : QNums w b l) (hb : b < w.heap.size) (hlen : l.length ≤ cap) (hcap : cap ≤ 1000) :
    Calls Tryz.prog 13 #[.int .i64 most, .slice (some ⟨b, 0, none⟩) l.length cap] w (RetV w (.bool (decide (∀ x ∈ l, x.n.n ≤ most ∧ x.d.n ≤ most)))) := by
  have HL := Lib.hid hl
  clear hl
  go_enter Tryz.func13, Tryz.ntmps13
  go_wp2_with fail
  refine (qcontains_any _ b cap l most ⟨w.heap.size, 0, none⟩ (HL.out.below (by go_grown) hb) (Nat.lt_of_lt_of_le hb (by go_size)) (by go_keep) (by go_size) hlen hcap).mono ?_
  rintro e w1 ⟨rfl, hb1⟩
  have hd : (!(decide (∃ x ∈ l, ¬ (x.n.n ≤ most ∧ x.d.n ≤ most)))) = decide (∀ x ∈ l, x.n.n ≤ most ∧ x.d.n ≤ most) := by
    rw [← decide_not]
    apply decide_eq_decide.2
    constructor
    · intro h x hx
      exact Classical.byContradiction fun hn => h ⟨x, hx, hn⟩
    · rintro h ⟨x, hx, hn⟩
      exact hn (h x hx)
  obtain ⟨r, hr⟩ : ∃ r, decide (∃ x ∈ l, ¬ (x.n.n ≤ most ∧ x.d.n ≤ most)) = r := ⟨_, rfl⟩
  rw [hr] at hd ⊢
  have HD := Lib.hid hd
  clear hd hr
  go_wp2_with fail
  go_ret
  exact ⟨by rw [← HD.out]; rfl, Below.trans (by go_grown) (hb1.mono (by go_size))⟩

theorem qshort_one (w : World) (b : Nat) (x y : Num) (most : Nat) (h : w.heap[b]? = some (.cells #[.bool x.neg, .slice x.ao x.n x.cap, .bool y.neg, .slice y.ao y.n y.cap] 26 (0, 0))) :
    Calls Tryz.prog 13 #[.int .i64 most, .slice (some ⟨b, 0, none⟩) 1 1] w (RetV w (.bool (decide (x.n ≤ most ∧ y.n ≤ most)))) := by
  have hq : QNums w b [⟨x, y⟩] := by
    intro i u hu
    match i, hu with
    | 0, hu =>
      simp at hu; subst hu
      exact ⟨cell_of_row _ b 0 _ _ (0, 0) h, cell_of_row _ b 1 _ _ (0, 0) h, cell_of_row _ b 2 _ _ (0, 0) h, cell_of_row _ b 3 _ _ (0, 0) h⟩
  have := qshort_any w b 1 [⟨x, y⟩] most hq (Array.getElem?_eq_some_iff.1 h).1 (by simp) (by omega)
  simpa using this

end Go.Proofs.YtdfepdhflnnjpaaGreat
