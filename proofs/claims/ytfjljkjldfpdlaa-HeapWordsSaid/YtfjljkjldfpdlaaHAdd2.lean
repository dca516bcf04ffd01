/- What add does to a heap, step by step; fields. -/
import Derived.Test.YtfjljkjldfpdlaaHAdd
namespace Go.Proofs.Ytfjljkjldfpdlaa
open Go.RowKit
set_option autoImplicit false
set_option linter.unusedVariables false

def rows (wo : Option Addr) (wk : Nat) (bo : Option Addr) (bk n : Nat) (hb : Nat) : List (Option Nat) := [some hb, (Value.slice wo n wk).ownBlock, (Value.slice bo n bk).ownBlock]

/-- The words have grown. -/
def Cut2 (w : World) (hb p : Nat) (D : Hd) (wo : Option Addr) (wk : Nat) (bo : Option Addr) (bk n m : Nat) (ws : List Int) (bs : List Bool) (ho : Obj) (wx : World) : Prop :=
  ∃ g wc2, HeapAt wx hb D (some ⟨g, 0, none⟩) wc2 bo bk (n + m) n (ws ++ List.replicate m 0) bs ∧ Frame (rows wo wk bo bk n hb) w wx ∧ wx.heap[p]? = some ho ∧ ((Value.slice wo n wk).ownBlock = some g ∨ w.heap.size ≤ g)

theorem cut2_mk {w w1 w2 w3 : World} {hb p : Nat} {D : Hd} {wo : Option Addr} {wk : Nat} {bo : Option Addr} {bk n m : Nat} {ws : List Int} {bs : List Bool} {ho : Obj} (h : HeapAt w hb D wo wk bo bk n n ws bs) (hp : p = w.heap.size)
    (hw1 : w1 = w.alloc ho) (hb3 : Below w1.heap.size w1 w2) {g wc2 : Nat} (hown : w3.ownsRow (hb + 1) 23 1 (.slice (some ⟨g, 0, none⟩) (n + m) wc2) (n + m) (ws.map (.int .u64) ++ List.replicate m (.int .u64 0)))
    (hg : w2.grownBy w3 (Value.slice wo n wk).ownBlock) (hat : (Value.slice wo n wk).ownBlock = some g ∨ w2.heap.size ≤ g) :
    Cut2 w hb p D wo wk bo bk n m ws bs ho (w3.setCell ⟨hb, 2, none⟩ (.slice (some ⟨g, 0, none⟩) (n + m) wc2)) := by
  have hF1 : Frame [] w w1 := by rw [hw1]; exact (Frame.refl _ _).alloc _
  have hF2 : Frame [] w1 w2 := Frame.ofBelow hb3 (Nat.le_refl _)
  have hF := hF1.trans hF2 (by simp)
  have hlt : hb < w.heap.size := (Array.getElem?_eq_some_iff.1 h.blk).1
  have hown' : w3.ownsRow (hb + 1) 23 1 (.slice (some ⟨g, 0, none⟩) (n + m) wc2) (n + m) ((ws ++ List.replicate m 0).map (.int .u64)) := by
    rw [List.map_append, List.map_replicate]; exact hown
  obtain ⟨k1, k2⟩ := grow_words h hF hown' hg
  have hx : w1.heap[p]? = some ho := by rw [hw1, hp]; exact heap_alloc_new _ _
  have hs1 : w1.heap.size = p + 1 := by rw [hw1, hp]; simp
  have hrow : some p ≠ (Value.slice wo n wk).ownBlock := by
    intro e
    have := h.wrow.lt p e.symm
    omega
  refine ⟨g, wc2, k1, k2.mono ?_, ?_, hat.imp id fun hle => by have := hF.size; omega⟩
  · intro k _ hm
    unfold rows
    simp at hm ⊢
    rcases hm with hm | hm
    · exact .inl hm
    · exact .inr (.inl hm)
  · rw [Below.heap_setCell _ _ _ _ (by simp; omega), hg.block p (by have := hb3.size; omega) hrow, hb3.block p (by omega)]
    exact hx


/-- The marks have grown. -/
def Cut3 (w : World) (hb p : Nat) (D : Hd) (g wk : Nat) (bo : Option Addr) (bk n nb m : Nat) (ws : List Int) (bs : List Bool) (ho : Obj) (wx : World) : Prop :=
  ∃ gb bk2, HeapAt wx hb D (some ⟨g, 0, none⟩) wk (some ⟨gb, 0, none⟩) bk2 n (nb + m) ws (bs ++ List.replicate m false) ∧ Frame [some hb, (Value.slice bo nb bk).ownBlock] w wx ∧ wx.heap[p]? = some ho ∧ ((Value.slice bo nb bk).ownBlock = some gb ∨ w.heap.size ≤ gb)

theorem cut3_mk {w w2 w3 : World} {hb p : Nat} {D : Hd} {g wk : Nat} {bo : Option Addr} {bk n nb m : Nat} {ws : List Int} {bs : List Bool} {ho : Obj} (h : HeapAt w hb D (some ⟨g, 0, none⟩) wk bo bk n nb ws bs) (hx : w.heap[p]? = some ho) (hph : p ≠ hb) (hpr : some p ≠ (Value.slice bo nb bk).ownBlock)
    (hb3 : Below w.heap.size w w2) {gb bk2 : Nat} (hown : w3.ownsRow (hb + 1) 4 1 (.slice (some ⟨gb, 0, none⟩) (nb + m) bk2) (nb + m) (bs.map .bool ++ List.replicate m (.bool false)))
    (hg : w2.grownBy w3 (Value.slice bo nb bk).ownBlock) (hat : (Value.slice bo nb bk).ownBlock = some gb ∨ w2.heap.size ≤ gb) :
    Cut3 w hb p D g wk bo bk n nb m ws bs ho (w3.setCell ⟨hb, 3, none⟩ (.slice (some ⟨gb, 0, none⟩) (nb + m) bk2)) := by
  have hF : Frame [] w w2 := Frame.ofBelow hb3 (Nat.le_refl _)
  have hown' : w3.ownsRow (hb + 1) 4 1 (.slice (some ⟨gb, 0, none⟩) (nb + m) bk2) (nb + m) ((bs ++ List.replicate m false).map .bool) := by
    rw [List.map_append, List.map_replicate]; exact hown
  obtain ⟨k1, k2⟩ := grow_begins h hF hown' hg
  have hlp : p < w.heap.size := (Array.getElem?_eq_some_iff.1 hx).1
  refine ⟨gb, bk2, k1, k2, ?_, hat.imp id fun hle => by have := hF.size; omega⟩
  exact (k2.block p hlp (by simp; exact ⟨hph, hpr⟩)).trans hx

theorem set_head (ws : List Int) (n count m : Nat) (hw : ws.length = n) (hm : 1 + count = m) (v : Int) : (ws ++ List.replicate m 0).set n v = ws ++ v :: List.replicate count 0 := by
  subst hm hw
  rw [List.set_append_right _ _ (Nat.le_refl _), Nat.sub_self, Nat.add_comm, List.replicate_succ]
  rfl
theorem set_mark (bs : List Bool) (n count m : Nat) (hw : bs.length = n) (hm : 1 + count = m) (v : Bool) : (bs ++ List.replicate m false).set n v = bs ++ v :: List.replicate count false := by
  subst hm hw
  rw [List.set_append_right _ _ (Nat.le_refl _), Nat.sub_self, Nat.add_comm, List.replicate_succ]
  rfl
theorem set_field (ws : List Int) (n count k : Nat) (h v : Int) (hw : ws.length = n) (hk : k < count) : (ws ++ h :: (List.replicate k v ++ List.replicate (count - k) 0)).set (n + 1 + k) v = ws ++ h :: (List.replicate (k + 1) v ++ List.replicate (count - (k + 1)) 0) := by
  subst hw
  rw [List.set_append_right _ _ (by omega)]
  have e : ws.length + 1 + k - ws.length = k + 1 := by omega
  rw [e, List.set_cons_succ, List.set_append_right _ _ (by simp)]
  have e2 : k - (List.replicate k v).length = 0 := by simp
  have e3 : count - k = (count - (k + 1)) + 1 := by omega
  rw [e2, e3, List.replicate_succ, List.set_cons_zero]
  have e4 : List.replicate (k + 1) v = List.replicate k v ++ [v] := by rw [List.replicate_succ']
  rw [e4]
  simp

/-- The head is written. -/
def Cut4 (w : World) (hb p : Nat) (D : Hd) (g wk : Nat) (bo : Option Addr) (bk n nb : Nat) (ws : List Int) (bs : List Bool) (ho : Obj) (wx : World) : Prop :=
  HeapAt wx hb D (some ⟨g, 0, none⟩) wk bo bk n nb ws bs ∧ Frame [some g] w wx ∧ wx.heap[p]? = some ho
theorem cut4_mk {w w2 : World} {hb p : Nat} {D : Hd} {g wk : Nat} {bo : Option Addr} {bk n nb : Nat} {ws : List Int} {bs : List Bool} {ho : Obj} (h : HeapAt w hb D (some ⟨g, 0, none⟩) wk bo bk n nb ws bs) (hx : w.heap[p]? = some ho) (hpg : p ≠ g)
    (hb3 : Below w.heap.size w w2) (j : Nat) (v : Int) : Cut4 w hb p D g wk bo bk n nb (ws.set j v) bs ho (w2.setCell ⟨g, j, none⟩ (.int .u64 v)) := by
  have hF : Frame [] w w2 := Frame.ofBelow hb3 (Nat.le_refl _)
  have hlp : p < w.heap.size := (Array.getElem?_eq_some_iff.1 hx).1
  have hF2 : Frame [some g] w (w2.setCell ⟨g, j, none⟩ (.int .u64 v)) := (hF.mono (by simp)).setCell (by simp) _
  exact ⟨(h.frame hF (by simp) (by simp) (by simp)).setWord j v, hF2, (hF2.block p hlp (by simpa using hpg)).trans hx⟩

theorem word_at {w : World} {hb : Nat} {D : Hd} {g wk : Nat} {bo : Option Addr} {bk n nb : Nat} {ws : List Int} {bs : List Bool} (h : HeapAt w hb D (some ⟨g, 0, none⟩) wk bo bk n nb ws bs) {j : Nat} (hj : j < n) :
    w.cell? ⟨g, j, none⟩ = some (.int .u64 (ws.getD j 0)) ∧ w.frozen? ⟨g, j, none⟩ = false := by
  have hl := h.wrow.1
  rw [List.length_map] at hl
  refine ⟨?_, World.ownsRow.frozenAt h.wrow j⟩
  rw [World.ownsRow.cellAt h.wrow j (by omega), List.getElem?_map, List.getElem?_eq_getElem (by omega)]
  simp [List.getD, show j < ws.length by omega]
theorem mark_at {w : World} {hb : Nat} {D : Hd} {wo : Option Addr} {wk g bk n nb : Nat} {ws : List Int} {bs : List Bool} (h : HeapAt w hb D wo wk (some ⟨g, 0, none⟩) bk n nb ws bs) {j : Nat} (hj : j < nb) :
    w.cell? ⟨g, j, none⟩ = some (.bool (bs.getD j false)) ∧ w.frozen? ⟨g, j, none⟩ = false := by
  have hl := h.brow.1
  rw [List.length_map] at hl
  refine ⟨?_, World.ownsRow.frozenAt h.brow j⟩
  rw [World.ownsRow.cellAt h.brow j (by omega), List.getElem?_map, List.getElem?_eq_getElem (by omega)]
  simp [List.getD, show j < bs.length by omega]
theorem HeapAt.room {w : World} {hb : Nat} {D : Hd} {g wk : Nat} {bo : Option Addr} {bk n nb : Nat} {ws : List Int} {bs : List Bool} (h : HeapAt w hb D (some ⟨g, 0, none⟩) wk bo bk n nb ws bs) : n ≤ wk ∧ wk ≤ maxLen ∧ ws.length = n ∧ hb + 1 ≤ g ∧ g < w.heap.size := by
  have hl := h.wrow.1
  rw [List.length_map] at hl
  have hlt := h.wrow.lt g rfl
  rcases h.wrow.2 with ⟨hv, _⟩ | ⟨g', cap, cur, hv, _, _, h1, h2, _⟩
  · simp at hv
  · simp at hv
    obtain ⟨_, rfl⟩ := hv
    exact ⟨h1, h2, by omega, hlt⟩
theorem HeapAt.roomB {w : World} {hb : Nat} {D : Hd} {wo : Option Addr} {wk g bk n nb : Nat} {ws : List Int} {bs : List Bool} (h : HeapAt w hb D wo wk (some ⟨g, 0, none⟩) bk n nb ws bs) : nb ≤ bk ∧ bk ≤ maxLen ∧ bs.length = nb ∧ hb + 1 ≤ g ∧ g < w.heap.size := by
  have hl := h.brow.1
  rw [List.length_map] at hl
  have hlt := h.brow.lt g rfl
  rcases h.brow.2 with ⟨hv, _⟩ | ⟨g', cap, cur, hv, _, _, h1, h2, _⟩
  · simp at hv
  · simp at hv
    obtain ⟨_, rfl⟩ := hv
    exact ⟨h1, h2, by omega, hlt⟩

/-- A block of another kind is not a row's. -/
theorem row_not {w : World} {base g : Nat} {e T : TypeId} {s n cap : Nat} {xs : List Value} {cs : Array Value} {p : Nat} (h : w.ownsRow base e s (.slice (some ⟨g, 0, none⟩) n cap) n xs) (hx : w.heap[p]? = some (.cells cs T (0, 0))) (he : T ≠ e) : p ≠ g := by
  rintro rfl
  rcases h.2 with ⟨hv, _⟩ | ⟨g', cap, cur, hv, _, hg, _⟩
  · simp at hv
  · simp at hv
    obtain ⟨rfl, _⟩ := hv
    rw [hx] at hg
    simp at hg
    exact he hg.2

def RetFields (w : World) (g place count : Nat) (e : Ending) (w' : World) : Prop :=
  ∃ ao c, e = .returned (.slice ao count c) ∧ (0 < count → ao = some ⟨g, place + 1, none⟩) ∧ Below w.heap.size w w'
theorem fields_zero (w : World) (hb g n wc place : Nat) (kind : Int) (hc : w.cell? ⟨hb, 2, none⟩ = some (.slice (some ⟨g, 0, none⟩) n wc)) (hp : place + 1 ≤ wc) (hm : wc ≤ maxLen) :
    Calls Try.prog 51 #[.pointer (some ⟨hb, 0, none⟩), .int .i64 (place : Int), .agg #[.int .i64 kind, .bool false, .int .i64 ((0 : Nat) : Int)]] w (RetFields w g place 0) := by
  unfold maxLen at hm
  have hlt : hb < w.heap.size := World.block_lt_of_cell? w _ hc
  have hE : place + 1 + 0 - (place + 1) = 0 := by omega
  by_cases hq : wc = place + 1
  · subst hq
    go_enter Try.func51, Try.ntmps51
    go_wp2_with fail
    go_quiet (fail)
    go_wp2_with fail
    go_ret
    exact ⟨some ⟨g, 0, none⟩, 0, rfl, fun h => absurd h (by omega), by first | exact below_drewN (by go_grown) _ | go_grown⟩
  · have hq1 : place + 1 < wc := by omega
    go_enter Try.func51, Try.ntmps51
    go_wp2_with fail
    go_quiet (fail)
    go_wp2_with fail
    go_ret
    exact ⟨some ⟨g, place + 1, none⟩, wc - (place + 1), rfl, fun h => absurd h (by omega), by first | exact below_drewN (by go_grown) _ | go_grown⟩
theorem fields_any (w : World) (hb g n wc place count : Nat) (kind : Int) (hc : w.cell? ⟨hb, 2, none⟩ = some (.slice (some ⟨g, 0, none⟩) n wc)) (hp : place + 1 + count ≤ wc) (hm : wc ≤ maxLen) :
    Calls Try.prog 51 #[.pointer (some ⟨hb, 0, none⟩), .int .i64 (place : Int), .agg #[.int .i64 kind, .bool false, .int .i64 (count : Int)]] w (RetFields w g place count) := by
  rcases Nat.eq_zero_or_pos count with rfl | h0
  · exact fields_zero w hb g n wc place kind hc (by omega) hm
  · exact (fields_pos w hb g n wc place count kind hc hp h0 hm).mono fun e w' h => ⟨_, _, h.1, fun _ => rfl, h.2⟩

end Go.Proofs.Ytfjljkjldfpdlaa
