/- The heap's representation; size, pack, fields and add. -/
import Derived.Test.YtfjljkjldfpdlaaHWords
import Derived.Test.YtfjljkjldfpdlaaHZeros
import Derived.Deep.RegionHeld3
import Derived.Deep.RegionLaw
import Derived.Deep.LoopGhost
import Derived.Laws.OwnMore
import Derived.Deep.DeepCutAuto
namespace Go.Proofs.Ytfjljkjldfpdlaa
open Go.RowKit
set_option autoImplicit false
set_option linter.unusedVariables false

/-- What was there stays, but for the blocks of ks. -/
structure Frame (ks : List (Option Nat)) (w w' : World) : Prop where
  os : w'.os = w.os
  tape : w'.tape = w.tape
  output : w'.output = w.output
  size : w.heap.size ≤ w'.heap.size
  block : ∀ k, k < w.heap.size → some k ∉ ks → w'.heap[k]? = w.heap[k]?

theorem Frame.refl (ks : List (Option Nat)) (w : World) : Frame ks w w := ⟨rfl, rfl, rfl, Nat.le_refl _, fun _ _ _ => rfl⟩
theorem Frame.trans {ks ls : List (Option Nat)} {a b c : World} (h : Frame ks a b) (k : Frame ls b c) (hs : ∀ k, k < a.heap.size → some k ∈ ls → some k ∈ ks) : Frame ks a c :=
  ⟨k.os.trans h.os, k.tape.trans h.tape, k.output.trans h.output, Nat.le_trans h.size k.size, fun i hi hn => (k.block i (Nat.lt_of_lt_of_le hi h.size) (fun hm => hn (hs i hi hm))).trans (h.block i hi hn)⟩
theorem Frame.mono {ks ls : List (Option Nat)} {w w' : World} (h : Frame ks w w') (hs : ∀ k, k < w.heap.size → some k ∈ ks → some k ∈ ls) : Frame ls w w' := ⟨h.os, h.tape, h.output, h.size, fun k hk hn => h.block k hk (fun hm => hn (hs k hk hm))⟩
theorem Frame.ofBelow {B : Nat} {ks : List (Option Nat)} {w w' : World} (h : Below B w w') (hB : w.heap.size ≤ B) : Frame ks w w' := ⟨h.os, h.tape, h.output, h.size, fun k hk _ => h.block k (Nat.lt_of_lt_of_le hk hB)⟩
theorem Frame.ofGrown {w w' : World} {row : Option Nat} (h : w.grownBy w' row) : Frame [row] w w' := ⟨h.os, h.tape, h.output, h.size, fun k hk hn => h.block k hk (by simpa using hn)⟩
theorem Frame.below {ks : List (Option Nat)} {w w' : World} (h : Frame ks w w') (B : Nat) (hB : B ≤ w.heap.size) (hk : ∀ k, some k ∈ ks → B ≤ k) : Below B w w' :=
  ⟨h.os, h.tape, h.output, h.size, fun k hlt => h.block k (by omega) (fun hm => by have := hk k hm; omega)⟩
theorem Frame.alloc {ks : List (Option Nat)} {a w : World} (h : Frame ks a w) (o : Obj) : Frame ks a (w.alloc o) :=
  h.trans (Frame.ofBelow (B := w.heap.size) (ks := []) ((Below.refl _ _).alloc (Nat.le_refl _) _) (Nat.le_refl _)) (by simp)
theorem Frame.setCell {ks : List (Option Nat)} {a w : World} (h : Frame ks a w) {p : Addr} (hp : some p.block ∈ ks) (u : Value) : Frame ks a (w.setCell p u) :=
  h.trans (ls := [some p.block]) ⟨rfl, rfl, rfl, by simp, fun k hk hn => Below.heap_setCell _ _ _ _ (by simpa using hn)⟩ (by intro k _ hm; simp at hm; subst hm; exact hp)
theorem Frame.drew {ks : List (Option Nat)} {a w : World} (h : Frame ks a w) : Frame ks a w.drew := ⟨h.os, h.tape, h.output, h.size, h.block⟩

theorem size_any (w : World) (kind : Int) (count m : Nat) (h1 : count ≤ 1000000) (hm : 1 + count = m) :
    Calls Try.prog 63 #[.agg #[.int .i64 kind, .bool false, .int .i64 (count : Int)]] w (RetV w (.int .i64 (m : Int))) := by
  have hm' : (1 : Int) + (count : Int) = (m : Int) := by omega
  clear hm
  go_enter Try.func63, Try.ntmps63
  go_wp2_with fail
  go_ret
  exact ⟨rfl, by go_grown⟩

theorem pack_or (kind count : Nat) (hk : kind < 32) (hc : count ≤ 1000000) :
    bits .or .u64 (kind : Int) ((count : Int) * 64) = ((kind + 64 * count : Nat) : Int) := by
  have h2 : (count : Int) * 64 = ((count * 64 : Nat) : Int) := by omega
  rw [h2, u64_or_nat _ _ (by omega) (by omega), Nat.or_comm, nat_join 6 (count * 64) kind (by omega) (by omega)]
  congr 1
  omega

theorem pack_any (w : World) (kind count : Nat) (hk : kind < 32) (hc : count ≤ 1000000) :
    Calls Try.prog 80 #[.agg #[.int .i64 (kind : Int), .bool false, .int .i64 (count : Int)]] w (RetV w (.int .u64 ((kind + 64 * count : Nat) : Int))) := by
  have hP := pack_or kind count hk hc
  go_enter Try.func80, Try.ntmps80
  go_wp2_with fail
  go_ret
  exact ⟨rfl, by go_grown⟩

/-- The plain fields of a heap. -/
structure Hd where
  limit : Int
  young : Int
  old : Int
  mp : Value
  next : Int
  moves : Int

structure HeapAt (w : World) (hb : Nat) (D : Hd) (wo : Option Addr) (wc : Nat) (bo : Option Addr) (bc : Nat) (n nb : Nat) (ws : List Int) (bs : List Bool) : Prop where
  blk : w.heap[hb]? = some (.cells #[.int .i64 D.limit, .int .i64 D.young, .slice wo n wc, .slice bo nb bc, .int .i64 D.old, D.mp, .int .i64 D.next, .int .i64 D.moves] 111 (0, 0))
  wrow : w.ownsRow (hb + 1) 23 1 (.slice wo n wc) n (ws.map (.int .u64))
  brow : w.ownsRow (hb + 1) 4 1 (.slice bo nb bc) nb (bs.map .bool)

theorem row_frame {ks : List (Option Nat)} {w w' : World} {base : Nat} {e : TypeId} {s : Nat} {v : Value} {n : Nat} {xs : List Value} (h : Frame ks w w') (hr : w.ownsRow base e s v n xs) (hne : ∀ k, v.ownBlock = some k → some k ∉ ks) : w'.ownsRow base e s v n xs := by
  refine ⟨hr.1, ?_⟩
  rcases hr.2 with h1 | ⟨g, cap, cur, rfl, hbg, hg, h2⟩
  · exact .inl h1
  · have hlt : g < w.heap.size := (Array.getElem?_eq_some_iff.1 hg).1
    exact .inr ⟨g, cap, cur, rfl, hbg, (h.block g hlt (hne g rfl)).trans hg, h2⟩

/-- Rows of different kinds are different. -/
theorem row_ne {w : World} {b1 b2 : Nat} {e1 e2 : TypeId} {s1 s2 : Nat} {v1 v2 : Value} {n1 n2 : Nat} {xs ys : List Value} (h1 : w.ownsRow b1 e1 s1 v1 n1 xs) (h2 : w.ownsRow b2 e2 s2 v2 n2 ys) (he : e1 ≠ e2) (k : Nat) (hk : v1.ownBlock = some k) : some k ≠ v2.ownBlock := by
  intro hk2
  rcases h1.2 with ⟨rfl, _⟩ | ⟨g, cap, cur, rfl, _, hg, _⟩
  · simp [Value.ownBlock] at hk
  · rcases h2.2 with ⟨rfl, _⟩ | ⟨g2, cap2, cur2, rfl, _, hg2, _⟩
    · simp [Value.ownBlock] at hk2
    · simp [Value.ownBlock] at hk hk2
      subst hk hk2
      rw [hg] at hg2
      simp at hg2
      exact he hg2.2

theorem frame_set (w : World) (b o : Nat) (v : Value) : Frame [some b] w (w.setCell ⟨b, o, none⟩ v) := (Frame.refl _ _).setCell (by simp) _

theorem grow_words {w w2 w3 : World} {hb : Nat} {D : Hd} {wo : Option Addr} {wc : Nat} {bo : Option Addr} {bc n nb : Nat} {ws : List Int} {bs : List Bool} (h : HeapAt w hb D wo wc bo bc n nb ws bs) (h1 : Frame [] w w2) {g n' wc2 : Nat} {ws' : List Int}
    (hown : w3.ownsRow (hb + 1) 23 1 (.slice (some ⟨g, 0, none⟩) n' wc2) n' (ws'.map (.int .u64))) (hg : w2.grownBy w3 (Value.slice wo n wc).ownBlock) :
    HeapAt (w3.setCell ⟨hb, 2, none⟩ (.slice (some ⟨g, 0, none⟩) n' wc2)) hb D (some ⟨g, 0, none⟩) wc2 bo bc n' nb ws' bs ∧ Frame [some hb, (Value.slice wo n wc).ownBlock] w (w3.setCell ⟨hb, 2, none⟩ (.slice (some ⟨g, 0, none⟩) n' wc2)) := by
  have hlt : hb < w.heap.size := (Array.getElem?_eq_some_iff.1 h.blk).1
  have hF : Frame [(Value.slice wo n wc).ownBlock] w w3 := (h1.mono (ls := [(Value.slice wo n wc).ownBlock]) (by simp)).trans (Frame.ofGrown hg) (by simp)
  have hne : some hb ∉ [(Value.slice wo n wc).ownBlock] := by
    intro hm
    have := h.wrow.lt hb (by simpa using (List.mem_singleton.1 hm).symm)
    omega
  have hb3 := (hF.block hb hlt hne).trans h.blk
  have hgb : hb + 1 ≤ g := (hown.lt g rfl).1
  refine ⟨⟨?_, ?_, ?_⟩, ?_⟩
  · exact heap_setCell_same w3 hb 2 _ _ _ hb3
  · exact row_frame (frame_set w3 hb 2 _) hown (by intro k hk; simp [Value.ownBlock] at hk; simp; omega)
  · refine row_frame (frame_set w3 hb 2 _) (row_frame hF h.brow ?_) ?_
    · intro k hk hm
      exact row_ne h.brow h.wrow (by decide) k hk (by simpa using hm)
    · intro k hk hm
      have := (h.brow.lt k hk).1
      simp at hm
      omega
  · exact (hF.mono (ls := [some hb, (Value.slice wo n wc).ownBlock]) (fun k _ hm => List.mem_cons_of_mem _ hm)).trans (frame_set w3 hb 2 _) (fun k _ hm => by simp at hm; subst hm; simp)

theorem grow_begins {w w2 w3 : World} {hb : Nat} {D : Hd} {wo : Option Addr} {wc : Nat} {bo : Option Addr} {bc n nb : Nat} {ws : List Int} {bs : List Bool} (h : HeapAt w hb D wo wc bo bc n nb ws bs) (h1 : Frame [] w w2) {g n' bc2 : Nat} {bs' : List Bool}
    (hown : w3.ownsRow (hb + 1) 4 1 (.slice (some ⟨g, 0, none⟩) n' bc2) n' (bs'.map .bool)) (hg : w2.grownBy w3 (Value.slice bo nb bc).ownBlock) :
    HeapAt (w3.setCell ⟨hb, 3, none⟩ (.slice (some ⟨g, 0, none⟩) n' bc2)) hb D wo wc (some ⟨g, 0, none⟩) bc2 n n' ws bs' ∧ Frame [some hb, (Value.slice bo nb bc).ownBlock] w (w3.setCell ⟨hb, 3, none⟩ (.slice (some ⟨g, 0, none⟩) n' bc2)) := by
  have hlt : hb < w.heap.size := (Array.getElem?_eq_some_iff.1 h.blk).1
  have hF : Frame [(Value.slice bo nb bc).ownBlock] w w3 := (h1.mono (ls := [(Value.slice bo nb bc).ownBlock]) (by simp)).trans (Frame.ofGrown hg) (by simp)
  have hne : some hb ∉ [(Value.slice bo nb bc).ownBlock] := by
    intro hm
    have := h.brow.lt hb (by simpa using (List.mem_singleton.1 hm).symm)
    omega
  have hb3 := (hF.block hb hlt hne).trans h.blk
  have hgb : hb + 1 ≤ g := (hown.lt g rfl).1
  refine ⟨⟨?_, ?_, ?_⟩, ?_⟩
  · exact heap_setCell_same w3 hb 3 _ _ _ hb3
  · refine row_frame (frame_set w3 hb 3 _) (row_frame hF h.wrow ?_) ?_
    · intro k hk hm
      exact row_ne h.wrow h.brow (by decide) k hk (by simpa using hm)
    · intro k hk hm
      have := (h.wrow.lt k hk).1
      simp at hm
      omega
  · exact row_frame (frame_set w3 hb 3 _) hown (by intro k hk; simp [Value.ownBlock] at hk; simp; omega)
  · exact (hF.mono (ls := [some hb, (Value.slice bo nb bc).ownBlock]) (fun k _ hm => List.mem_cons_of_mem _ hm)).trans (frame_set w3 hb 3 _) (fun k _ hm => by simp at hm; subst hm; simp)

/-- A store into the words. -/
theorem HeapAt.setWord {w : World} {hb : Nat} {D : Hd} {g wc : Nat} {bo : Option Addr} {bc n nb : Nat} {ws : List Int} {bs : List Bool} (h : HeapAt w hb D (some ⟨g, 0, none⟩) wc bo bc n nb ws bs) (j : Nat) (v : Int) :
    HeapAt (w.setCell ⟨g, j, none⟩ (.int .u64 v)) hb D (some ⟨g, 0, none⟩) wc bo bc n nb (ws.set j v) bs := by
  have hF := frame_set w g j (.int .u64 v)
  refine ⟨?_, ?_, ?_⟩
  · exact (hF.block hb (Array.getElem?_eq_some_iff.1 h.blk).1 (by have := (h.wrow.lt g rfl).1; simp; omega)).trans h.blk
  · rw [List.map_set]; exact (World.ownsRow.stored h.wrow j (.int .u64 v)).1
  · refine row_frame hF h.brow ?_
    intro k hk hm
    exact row_ne h.brow h.wrow (by decide) k hk (by simp at hm; subst hm; rfl)
theorem HeapAt.setBegin {w : World} {hb : Nat} {D : Hd} {wo : Option Addr} {g wc bc n nb : Nat} {ws : List Int} {bs : List Bool} (h : HeapAt w hb D wo wc (some ⟨g, 0, none⟩) bc n nb ws bs) (j : Nat) (v : Bool) :
    HeapAt (w.setCell ⟨g, j, none⟩ (.bool v)) hb D wo wc (some ⟨g, 0, none⟩) bc n nb ws (bs.set j v) := by
  have hF := frame_set w g j (.bool v)
  refine ⟨?_, ?_, ?_⟩
  · exact (hF.block hb (Array.getElem?_eq_some_iff.1 h.blk).1 (by have := (h.brow.lt g rfl).1; simp; omega)).trans h.blk
  · refine row_frame hF h.wrow ?_
    intro k hk hm
    exact row_ne h.wrow h.brow (by decide) k hk (by simp at hm; subst hm; rfl)
  · rw [List.map_set]; exact (World.ownsRow.stored h.brow j (.bool v)).1
theorem HeapAt.frame {ks : List (Option Nat)} {w w' : World} {hb : Nat} {D : Hd} {wo : Option Addr} {wc : Nat} {bo : Option Addr} {bc n nb : Nat} {ws : List Int} {bs : List Bool} (h : HeapAt w hb D wo wc bo bc n nb ws bs) (hF : Frame ks w w')
    (h1 : some hb ∉ ks) (h2 : ∀ k, (Value.slice wo n wc).ownBlock = some k → some k ∉ ks) (h3 : ∀ k, (Value.slice bo nb bc).ownBlock = some k → some k ∉ ks) : HeapAt w' hb D wo wc bo bc n nb ws bs :=
  ⟨(hF.block hb (Array.getElem?_eq_some_iff.1 h.blk).1 h1).trans h.blk, row_frame hF h.wrow h2, row_frame hF h.brow h3⟩
theorem info_word : (Try.prog.info? 23).map (fun i => (i.zero, i.size, i.bytes)) = some (some (.int .u64 0), 1, 8) := by kernel_rfl
theorem info_bool : (Try.prog.info? 4).map (fun i => (i.zero, i.size, i.bytes)) = some (some (.bool false), 1, 1) := by kernel_rfl

theorem fields_pos (w : World) (hb g n wc place count : Nat) (kind : Int) (hc : w.cell? ⟨hb, 2, none⟩ = some (.slice (some ⟨g, 0, none⟩) n wc)) (hp : place + 1 + count ≤ wc) (h0 : 0 < count) (hm : wc ≤ maxLen) :
    Calls Try.prog 51 #[.pointer (some ⟨hb, 0, none⟩), .int .i64 (place : Int), .agg #[.int .i64 kind, .bool false, .int .i64 (count : Int)]] w (RetV w (.slice (some ⟨g, place + 1, none⟩) count (wc - (place + 1)))) := by
  unfold maxLen at hm
  have hlt : hb < w.heap.size := World.block_lt_of_cell? w _ hc
  have hE : place + 1 + count - (place + 1) = count := by omega
  go_enter Try.func51, Try.ntmps51
  go_wp2_with fail
  go_quiet (fail)
  go_wp2_with fail
  go_ret
  refine ⟨?_, by first | exact below_drewN (by go_grown) _ | go_grown⟩
  show Ending.returned (.slice (some ⟨g, place + 1, none⟩) (place + 1 + count - (place + 1)) (wc - (place + 1))) = _
  rw [hE]

theorem cells8 {w : World} {b : Nat} {v0 v1 v2 v3 v4 v5 v6 v7 : Value} {T : TypeId} (h : w.heap[b]? = some (.cells #[v0, v1, v2, v3, v4, v5, v6, v7] T (0, 0))) :
    w.cell? ⟨b, 2, none⟩ = some v2 ∧ w.cell? ⟨b, 3, none⟩ = some v3 ∧ w.cell? ⟨b, 4, none⟩ = some v4 ∧ w.frozen? ⟨b, 2, none⟩ = false ∧ w.frozen? ⟨b, 3, none⟩ = false ∧ w.frozen? ⟨b, 4, none⟩ = false := by
  refine ⟨?_, ?_, ?_, ?_, ?_, ?_⟩ <;> simp [World.cell?, World.frozen?, h]

theorem keep_cell {w1 w2 w3 : World} {row : Option Nat} {b : Nat} (h1 : Below w1.heap.size w1 w2) (h2 : w2.grownBy w3 row) (hb : b < w1.heap.size) (hr : some b ≠ row) (o : Nat) {v : Value} (hc : w1.cell? ⟨b, o, none⟩ = some v) : w3.cell? ⟨b, o, none⟩ = some v :=
  (World.cell?_of_block (a := ⟨b, o, none⟩) ((h2.block b (Nat.lt_of_lt_of_le hb h1.size) hr).trans (h1.block b hb))).trans hc
theorem keep_frozen {w1 w2 w3 : World} {row : Option Nat} {b : Nat} (h1 : Below w1.heap.size w1 w2) (h2 : w2.grownBy w3 row) (hb : b < w1.heap.size) (hr : some b ≠ row) (o : Nat) {v : Bool} (hc : w1.frozen? ⟨b, o, none⟩ = v) : w3.frozen? ⟨b, o, none⟩ = v :=
  (World.frozen?_of_block (a := ⟨b, o, none⟩) ((h2.block b (Nat.lt_of_lt_of_le hb h1.size) hr).trans (h1.block b hb))).trans hc

end Go.Proofs.Ytfjljkjldfpdlaa
