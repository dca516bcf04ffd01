/- heap.New, (*Heap).New, Used; the fixed example of every statement. -/
import Derived.Test.YtfjljkjldfpdlaaHAdd3
import Derived.Carry
namespace Go.Proofs.Ytfjljkjldfpdlaa
open Go.RowKit
set_option autoImplicit false
set_option linter.unusedVariables false

theorem reference_any (w : World) (x : Nat) (hx : x ≤ 1000000) : Calls Try.prog 54 #[.int .i64 (x : Int)] w (Ret0 w (.int .u64 ((x * 8 + 3 : Nat) : Int))) := by
  have hO : bits .or .u64 ((x : Int) * 8) 3 = ((x * 8 + 3 : Nat) : Int) := by
    have h2 : (x : Int) * 8 = ((x * 8 : Nat) : Int) := by omega
    have e : ((3 : Nat) : Int) = 3 := rfl
    rw [h2, ← e, u64_or_nat _ _ (by omega) (by omega), nat_join 3 (x * 8) 3 (by omega) (by omega)]
  go_enter Try.func54, Try.ntmps54
  go_wp2_with fail
  go_ret
  exact ⟨rfl, rfl⟩

theorem missing_no (w : World) (hb : Nat) (D : Hd) (wo : Option Addr) (wk : Nat) (bo : Option Addr) (bk n nb : Nat) (ws : List Int) (bs : List Bool) (h : HeapAt w hb D wo wk bo bk n nb ws bs) (hn : 0 < n) :
    Calls Try.prog 45 #[.pointer (some ⟨hb, 0, none⟩)] w (RetV w (.bool false)) := by
  obtain ⟨d2, -, -, -, -, -⟩ := cells8 h.blk
  clear h
  have h0 : ((n : Int) == 0) = false := by simp; omega
  go_enter Try.func45, Try.ntmps45
  go_wp2_with fail
  try go_quiet (fail)
  try go_wp2_with fail
  go_ret
  exact ⟨rfl, by first | exact below_drewN (Below.refl _ _) _ | exact Below.refl _ _⟩

theorem wrong_ok (w : World) (kind count : Nat) (h1 : 1 ≤ kind) (h2 : kind ≤ 31) (hc : count ≤ 16384) :
    Calls Try.prog 79 #[.agg #[.int .i64 (kind : Int), .bool false, .int .i64 (count : Int)]] w (RetV w (.int .i64 0)) := by
  go_enter Try.func79, Try.ntmps79
  go_wp2_with fail
  go_ret
  exact ⟨rfl, by go_grown⟩

theorem used_any (w : World) (hb : Nat) (D : Hd) (wo : Option Addr) (wk : Nat) (bo : Option Addr) (bk n nb : Nat) (ws : List Int) (bs : List Bool) (h : HeapAt w hb D wo wk bo bk n nb ws bs) :
    Calls Try.prog 33 #[.pointer (some ⟨hb, 0, none⟩)] w (Ret0 w (.int .i64 (n : Int))) := by
  obtain ⟨d2, -, -, -, -, -⟩ := cells8 h.blk
  clear h
  go_enter Try.func33, Try.ntmps33
  go_wp2_with fail
  go_ret
  exact ⟨rfl, rfl⟩

theorem HeapAt.setOld {w : World} {hb : Nat} {D : Hd} {wo : Option Addr} {wk : Nat} {bo : Option Addr} {bk n nb : Nat} {ws : List Int} {bs : List Bool} (h : HeapAt w hb D wo wk bo bk n nb ws bs) (v : Int) :
    HeapAt (w.setCell ⟨hb, 4, none⟩ (.int .i64 v)) hb { D with old := v } wo wk bo bk n nb ws bs := by
  refine ⟨heap_setCell_same w hb 4 _ _ _ h.blk, ?_, ?_⟩
  · refine row_frame (frame_set w hb 4 _) h.wrow ?_
    intro k hk hm
    have := (h.wrow.lt k hk).1
    simp at hm
    omega
  · refine row_frame (frame_set w hb 4 _) h.brow ?_
    intro k hk hm
    have := (h.brow.lt k hk).1
    simp at hm
    omega

def NewPost (w : World) (limit young : Int) (e : Ending) (w' : World) : Prop :=
  ∃ hb mb g wk gb bk, e = .returned (.tuple #[.pointer (some ⟨hb, 0, none⟩), .int .i64 0]) ∧ w.heap.size ≤ mb ∧ mb < hb ∧ w'.heap[mb]? = some (.map #[] 0) ∧
    HeapAt w' hb ⟨limit, young, 6, .map (some mb), 0, 0⟩ (some ⟨g, 0, none⟩) wk (some ⟨gb, 0, none⟩) bk 6 6 [321, 3, 3, 3, 3, 3] [true, false, false, false, false, false] ∧ Below w.heap.size w w'

set_option maxRecDepth 100000 in
theorem new_ok (w : World) (limit young : Int) (h0 : 64 ≤ limit) (h1 : limit ≤ 65536) (h2 : 1 ≤ young) (h3 : young ≤ limit) :
    Calls Try.prog 39 #[.int .i64 limit, .int .i64 young] w (NewPost w limit young) := by
  have hmm := @run_makeMap Try.prog
  have HADD : Hid (∀ w1, HeapAt w1 (w.heap.size + 1) ⟨limit, young, 0, .map (some w.heap.size), 0, 0⟩ none 0 none 0 0 0 [] [] → Calls Try.prog 65 #[.pointer (some ⟨w.heap.size + 1, 0, none⟩), .agg #[.int .i64 1, .bool false, .int .i64 5]] w1 (AddPost w1 (w.heap.size + 1) ⟨limit, young, 0, .map (some w.heap.size), 0, 0⟩ none 0 none 0 0 [] [] 1 5)) :=
    Lib.hid fun w1 h => add_any w1 (w.heap.size + 1) _ none 0 none 0 0 [] [] 1 5 h (by omega) (by omega) (by omega)
  go_enter Try.func39, Try.ntmps39
  go_wp2_with fail
  have HH0 : Hid (HeapAt ((w.alloc (.map #[] 0)).alloc (.cells #[.int .i64 limit, .int .i64 young, .slice none 0 0, .slice none 0 0, .int .i64 0, .map (some w.heap.size), .int .i64 0, .int .i64 0] 111)) (w.heap.size + 1) ⟨limit, young, 0, .map (some w.heap.size), 0, 0⟩ none 0 none 0 0 0 [] []) :=
    Lib.hid ⟨by have := heap_alloc_new (w.alloc (.map #[] 0)) (.cells #[.int .i64 limit, .int .i64 young, .slice none 0 0, .slice none 0 0, .int .i64 0, .map (some w.heap.size), .int .i64 0, .int .i64 0] 111); simpa using this, World.ownsRow_nil _ _ _ _, World.ownsRow_nil _ _ _ _⟩
  refine (HADD.out _ HH0.out).mono ?_
  rintro e w2 ⟨g, wk, gb, bk, rfl, hH, hF, ha, hb'⟩
  have hH' : HeapAt w2 (w.heap.size + 1) ⟨limit, young, 0, .map (some w.heap.size), 0, 0⟩ (some ⟨g, 0, none⟩) wk (some ⟨gb, 0, none⟩) bk 6 6 [321, 3, 3, 3, 3, 3] [true, false, false, false, false, false] := hH
  obtain ⟨d2, -, d4, -, -, e4⟩ := cells8 hH'.blk
  have HM : Hid (w2.heap[w.heap.size]? = some (.map #[] 0)) := Lib.hid (by
    rw [hF.block w.heap.size (by simp; omega) (by simp [rows, Value.ownBlock])]
    have h1 := heap_alloc_old (w.alloc (.map #[] 0)) (.cells #[.int .i64 limit, .int .i64 young, .slice none 0 0, .slice none 0 0, .int .i64 0, .map (some w.heap.size), .int .i64 0, .int .i64 0] 111) (r := w.heap.size) (by simp)
    rw [h1]
    exact heap_alloc_new w _)
  have HBL : Hid (Below w.heap.size w w2) := Lib.hid (Below.trans (by go_grown) (hF.below w.heap.size (by simp; omega) (by
    intro k hk
    simp [rows, Value.ownBlock] at hk
    omega)))
  have HH2 := Lib.hid hH'
  clear hH hH' hF ha hb' HADD HH0
  go_wp2_with fail
  go_ret2
  refine ⟨w.heap.size + 1, w.heap.size, g, wk, gb, bk, rfl, Nat.le_refl _, by omega, ?_, HH2.out.setOld 6, HBL.out.setCell (by simp) _⟩
  rw [Below.heap_setCell _ _ _ _ (by simp)]
  exact HM.out

def MakePost (w : World) (hb : Nat) (D : Hd) (wo : Option Addr) (wk : Nat) (bo : Option Addr) (bk n : Nat) (ws : List Int) (bs : List Bool) (kind count : Nat) (v : Value) (e : Ending) (w' : World) : Prop :=
  ∃ g wk2 gb bk2, e = .returned (.tuple #[v, .int .i64 0]) ∧ HeapAt w' hb D (some ⟨g, 0, none⟩) wk2 (some ⟨gb, 0, none⟩) bk2 (n + (1 + count)) (n + (1 + count)) (ws ++ ((kind + 64 * count : Nat) : Int) :: List.replicate count 3) (bs ++ true :: List.replicate count false) ∧
    Frame (rows wo wk bo bk n hb) w w' ∧ ((Value.slice wo n wk).ownBlock = some g ∨ w.heap.size ≤ g) ∧ ((Value.slice bo n bk).ownBlock = some gb ∨ w.heap.size ≤ gb)

theorem cells8a {w : World} {b : Nat} {v0 v1 v2 v3 v4 v5 v6 v7 : Value} {T : TypeId} (h : w.heap[b]? = some (.cells #[v0, v1, v2, v3, v4, v5, v6, v7] T (0, 0))) :
    w.cell? ⟨b, 0, none⟩ = some v0 := by
  simp [World.cell?, h]

/-- What was made ahead of an add does not matter. -/
theorem add_after {w w1 : World} {hb : Nat} {D : Hd} {wo : Option Addr} {wk : Nat} {bo : Option Addr} {bk n : Nat} {ws : List Int} {bs : List Bool} {kind count : Nat} (h1 : Below w.heap.size w w1) {e : Ending} {w' : World} {a b : Value}
    (h : AddPost w1 hb D wo wk bo bk n ws bs kind count e w') (hh : HeapAt w hb D wo wk bo bk n n ws bs) :
    ∃ g wk2 gb bk2, HeapAt w' hb D (some ⟨g, 0, none⟩) wk2 (some ⟨gb, 0, none⟩) bk2 (n + (1 + count)) (n + (1 + count)) (ws ++ ((kind + 64 * count : Nat) : Int) :: List.replicate count 3) (bs ++ true :: List.replicate count false) ∧
    Frame (rows wo wk bo bk n hb) w w' ∧ ((Value.slice wo n wk).ownBlock = some g ∨ w.heap.size ≤ g) ∧ ((Value.slice bo n bk).ownBlock = some gb ∨ w.heap.size ≤ gb) := by
  obtain ⟨g, wk2, gb, bk2, -, k1, k2, k3, k4⟩ := h
  have hs := h1.size
  exact ⟨g, wk2, gb, bk2, k1, (Frame.ofBelow h1 (Nat.le_refl _)).trans k2 (fun _ _ h => h), k3.imp id fun h => by omega, k4.imp id fun h => by omega⟩

set_option maxRecDepth 100000 in
theorem make_ok (w : World) (hb : Nat) (D : Hd) (wo : Option Addr) (wk : Nat) (bo : Option Addr) (bk n : Nat) (ws : List Int) (bs : List Bool) (kind count : Nat) (h : HeapAt w hb D wo wk bo bk n n ws bs)
    (h1 : 1 ≤ kind) (h2 : kind ≤ 31) (hc : count ≤ 16384) (hn : n ≤ 70000) (hn0 : 0 < n) (hl : ((n + (1 + count) : Nat) : Int) ≤ D.limit) (hL : D.limit ≤ 70000) :
    Calls Try.prog 70 #[.pointer (some ⟨hb, 0, none⟩), .agg #[.int .i64 (kind : Int), .bool false, .int .i64 (count : Int)]] w (MakePost w hb D wo wk bo bk n ws bs kind count (.int .i64 (n : Int))) := by
  have HH := Lib.hid h
  have hlt : hb < w.heap.size := (Array.getElem?_eq_some_iff.1 h.blk).1
  obtain ⟨m, hm⟩ : ∃ m, 1 + count = m := ⟨_, rfl⟩
  have HM := Lib.hid hm
  have hnm : (n : Int) + (m : Int) ≤ D.limit := by omega
  clear h hm hl
  go_enter Try.func70, Try.ntmps70
  go_wp2_with fail
  have HHa := Lib.hid (HH.out.frame (ks := []) ((Frame.refl _ _).alloc _) (by simp) (by simp) (by simp) : HeapAt (w.alloc (.cells #[.int .i64 (kind : Int), .bool false, .int .i64 (count : Int)] 91)) hb D wo wk bo bk n n ws bs)
  refine (missing_no _ hb D wo wk bo bk n n ws bs HHa.out hn0).mono ?_
  rintro e w2 ⟨rfl, hb2⟩
  have hx2 := (hb2.block w.heap.size (by simp)).trans (heap_alloc_new w (.cells #[.int .i64 (kind : Int), .bool false, .int .i64 (count : Int)] 91))
  have x0 : w2.cell? ⟨w.heap.size, 0, none⟩ = some (.int .i64 (kind : Int)) := by simp [World.cell?, hx2]
  have x1 : w2.cell? ⟨w.heap.size, 1, none⟩ = some (.bool false) := by simp [World.cell?, hx2]
  have x2 : w2.cell? ⟨w.heap.size, 2, none⟩ = some (.int .i64 (count : Int)) := by simp [World.cell?, hx2]
  have HB2 : Hid (Below w.heap.size w w2) := Lib.hid (Below.trans (by go_grown) (hb2.mono (by go_size)))
  have HX2 := Lib.hid hx2
  have hp2 : w.heap.size < w2.heap.size := by have := hb2.size; simp at this; omega
  clear hb2 hx2
  go_wp2_with fail
  refine (wrong_ok _ kind count h1 h2 hc).mono ?_
  rintro e w3 ⟨rfl, hb3⟩
  have hx3 := (hb3.block w.heap.size hp2).trans HX2.out
  have HB3 : Hid (Below w.heap.size w w3) := Lib.hid (HB2.out.trans (hb3.mono HB2.out.size))
  have HX3 := Lib.hid hx3
  have hp3 : w.heap.size < w3.heap.size := Nat.lt_of_lt_of_le hp2 hb3.size
  clear x0 x1 x2 hb3 hx3
  have HH3 := Lib.hid (HH.out.frame (ks := []) (Frame.ofBelow HB3.out (Nat.le_refl _)) (by simp) (by simp) (by simp))
  have x0 : w3.cell? ⟨w.heap.size, 0, none⟩ = some (.int .i64 (kind : Int)) := by simp [World.cell?, HX3.out]
  have x1 : w3.cell? ⟨w.heap.size, 1, none⟩ = some (.bool false) := by simp [World.cell?, HX3.out]
  have x2 : w3.cell? ⟨w.heap.size, 2, none⟩ = some (.int .i64 (count : Int)) := by simp [World.cell?, HX3.out]
  obtain ⟨d2, -, -, -, -, -⟩ := cells8 HH3.out.blk
  have d0 := cells8a HH3.out.blk
  have hw : IntKind.i64.wrap ((n : Int) + (m : Int)) = (n : Int) + (m : Int) := IntWalk.i64_in _ (by omega)
  have QA : Hid (hb < w3.heap.size) := Lib.hid (by omega)
  have QP : Hid (w.heap.size < w3.heap.size) := Lib.hid hp3
  go_wp2_with fail
  go_region_held3 (fun w' => w'.cell? ⟨hb, 2, none⟩ = some (.slice wo n wk) ∧ w'.cell? ⟨hb, 0, none⟩ = some (.int .i64 D.limit) ∧ w'.cell? ⟨w.heap.size, 0, none⟩ = some (.int .i64 (kind : Int)) ∧ w'.cell? ⟨w.heap.size, 1, none⟩ = some (.bool false) ∧ w'.cell? ⟨w.heap.size, 2, none⟩ = some (.int .i64 (count : Int))) (((try dsimp only); (repeat' apply And.intro) <;> (first | (go_keep; done) | exact (hb4.cell QA.out).trans (by assumption) | exact (hb4.cell QP.out).trans (by assumption)))) (((with_reducible refine (size_any _ (kind : Int) count m (by omega) HM.out).mono ?_); rintro e w4 ⟨rfl, hb4⟩))
  have hb5 : Below w3.heap.size w3 w4 := by first | exact hb4 | exact (Below.refl _ _).drew.trans hb4
  have hx4 := (hb5.block w.heap.size hp3).trans HX3.out
  have HB4 : Hid (Below w.heap.size w w4) := Lib.hid (HB3.out.trans (hb5.mono HB3.out.size))
  clear x0 x1 x2 d2 d0 hb4 hb5
  have x0 : w4.cell? ⟨w.heap.size, 0, none⟩ = some (.int .i64 (kind : Int)) := by simp [World.cell?, hx4]
  have x1 : w4.cell? ⟨w.heap.size, 1, none⟩ = some (.bool false) := by simp [World.cell?, hx4]
  have x2 : w4.cell? ⟨w.heap.size, 2, none⟩ = some (.int .i64 (count : Int)) := by simp [World.cell?, hx4]
  have HH4 := Lib.hid (HH.out.frame (ks := []) (Frame.ofBelow HB4.out (Nat.le_refl _)) (by simp) (by simp) (by simp))
  have hnl : ¬ D.limit < (n : Int) + (m : Int) := by omega
  clear hx4
  go_wp2_with fail
  refine (add_any _ hb D wo wk bo bk n ws bs kind count HH4.out (by omega) hc hn).mono ?_
  rintro e w5 hadd
  have HA := Lib.hid (add_after (a := .bool true) (b := .bool true) HB4.out hadd HH.out)
  obtain ⟨g, wk2, gb, bk2, rfl, -⟩ := hadd
  go_wp2_with fail
  go_ret2
  obtain ⟨g, wk2, gb, bk2, k1, k2, k3, k4⟩ := HA.out
  exact ⟨g, wk2, gb, bk2, rfl, k1, k2, k3, k4⟩

theorem heapNew_ok (w : World) (hb : Nat) (D : Hd) (wo : Option Addr) (wk : Nat) (bo : Option Addr) (bk n : Nat) (ws : List Int) (bs : List Bool) (kind count : Nat) (h : HeapAt w hb D wo wk bo bk n n ws bs)
    (h1 : 1 ≤ kind) (h2 : kind ≤ 31) (hc : count ≤ 16384) (hn : n ≤ 70000) (hn0 : 0 < n) (hl : ((n + (1 + count) : Nat) : Int) ≤ D.limit) (hL : D.limit ≤ 70000) :
    Calls Try.prog 40 #[.pointer (some ⟨hb, 0, none⟩), .int .i64 (kind : Int), .int .i64 (count : Int)] w (MakePost w hb D wo wk bo bk n ws bs kind count (.int .u64 ((n * 8 + 3 : Nat) : Int))) := by
  have HMK := Lib.hid (make_ok w hb D wo wk bo bk n ws bs kind count h h1 h2 hc hn hn0 hl hL)
  obtain ⟨r, hr⟩ : ∃ r : Int, r = ((n * 8 + 3 : Nat) : Int) := ⟨_, rfl⟩
  have HRF : Hid (∀ w, Calls Try.prog 54 #[.int .i64 (n : Int)] w (Ret0 w (.int .u64 r))) := Lib.hid fun w => by rw [hr]; exact reference_any w n (by omega)
  rw [← hr]
  clear h hl hr
  go_enter Try.func40, Try.ntmps40
  go_wp2_with fail
  refine HMK.out.mono ?_
  rintro e w2 ⟨g, wk2, gb, bk2, rfl, k1, k2, k3, k4⟩
  have HK := Lib.hid (And.intro k1 (And.intro k2 (And.intro k3 k4)))
  clear k1 k2 k3 k4
  go_wp2_with fail
  refine (HRF.out _).mono ?_
  rintro e w3 ⟨rfl, rfl⟩
  go_wp2_with fail
  go_ret2
  exact ⟨g, wk2, gb, bk2, rfl, HK.out⟩

set_option maxHeartbeats 1000000 in
theorem awake_any (w : World) : Calls Try.prog 17 #[] w (RetV w (.bool true)) := by
  have HFX : Hid (∀ w, Calls Try.prog 7 #[.int .i64 (-1)] w (Ret0 w (.tuple #[.int .u64 18446744073709551608, .int .i64 0]))) := Lib.hid fun w => by
    have h := fix_ok w (-1) (by omega) (by omega)
    rwa [show fixV (-1) = 18446744073709551608 by decide] at h
  have HNW : Hid (∀ w hb D g wk gb bk, HeapAt w hb D (some ⟨g, 0, none⟩) wk (some ⟨gb, 0, none⟩) bk 6 6 [321, 3, 3, 3, 3, 3] [true, false, false, false, false, false] → D.limit = 64 → Calls Try.prog 40 #[.pointer (some ⟨hb, 0, none⟩), .int .i64 10, .int .i64 2] w (MakePost w hb D (some ⟨g, 0, none⟩) wk (some ⟨gb, 0, none⟩) bk 6 [321, 3, 3, 3, 3, 3] [true, false, false, false, false, false] 10 2 (.int .u64 51))) :=
    Lib.hid fun w hb D g wk gb bk h hD => by
      have h2 := heapNew_ok w hb D _ wk _ bk 6 _ _ 10 2 h (by omega) (by omega) (by omega) (by omega) (by omega) (by rw [hD]; decide) (by rw [hD]; decide)
      rwa [show ((6 * 8 + 3 : Nat) : Int) = 51 from rfl, show ((10 : Nat) : Int) = 10 from rfl, show ((2 : Nat) : Int) = 2 from rfl] at h2
  go_enter Try.func17, Try.ntmps17
  go_wp2_with fail
  refine (new_ok _ 64 64 (by omega) (by omega) (by omega) (by omega)).mono ?_
  rintro e w2 ⟨hb, mb, g, wk, gb, bk, rfl, hmb, hmb2, hm, hH, hB⟩
  have HH := Lib.hid hH
  have HB := Lib.hid hB
  clear hH hB hm
  go_wp2_with fail
  refine (HNW.out _ hb _ g wk gb bk HH.out rfl).mono ?_
  rintro e w3 ⟨g2, wk2, gb2, bk2, rfl, k1, k2, k3, k4⟩
  have HU : Hid (Calls Try.prog 33 #[.pointer (some ⟨hb, 0, none⟩)] w3 (Ret0 w3 (.int .i64 9))) := Lib.hid (used_any w3 hb _ _ wk2 _ bk2 9 9 _ _ k1)
  have HB3 : Hid (Below w.heap.size w w3) := Lib.hid (HB.out.trans (k2.below w.heap.size HB.out.size (by
    intro k hk
    simp [rows, Value.ownBlock] at hk
    have h1 := HH.out.room
    have h2 := HH.out.roomB
    omega)))
  clear k1 k2 k3 k4
  go_wp2_with fail
  refine (HFX.out _).mono ?_
  rintro e w4 ⟨rfl, rfl⟩
  go_wp2_with fail
  refine HU.out.mono ?_
  rintro e w5 ⟨rfl, rfl⟩
  go_wp2_with fail
  go_ret
  exact ⟨rfl, HB3.out⟩
end Go.Proofs.Ytfjljkjldfpdlaa
