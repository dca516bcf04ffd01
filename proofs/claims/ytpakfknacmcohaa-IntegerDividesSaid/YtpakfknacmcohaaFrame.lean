/- Frames: what was there stays, but for some blocks. It speaks of no program. -/
import Derived.Below
import Derived.Laws.AppendOwn
import Derived.Laws.OwnMore
import Derived.Lib.Hide
namespace Go.Proofs.Ytpakfknacmcohaa
open Go.RowKit
set_option autoImplicit false
set_option linter.unusedVariables false

/-- What was there stays, but for the blocks of ks. -/
structure Frame (ks : List (Option Nat)) (w w' : World) : Prop where
  os : w'.os = w.os
  tape : w'.tape = w.tape
  output : w'.output = w.output
  size : w.heap.size ≤ w'.heap.size
  block : ∀ k, k < w.heap.size → some k ∉ ks → w'.heap[k]? = w.heap[k]?

theorem Frame.refl (ks : List (Option Nat)) (w : World) : Frame ks w w := ⟨rfl, rfl, rfl, Nat.le_refl _, fun _ _ _ => rfl⟩
theorem Frame.trans {ks ls : List (Option Nat)} {a b c : World} (h : Frame ks a b) (k : Frame ls b c) (hs : ∀ k, k < a.heap.size → some k ∈ ls → some k ∈ ks) : Frame ks a c :=
  ⟨k.os.trans h.os, k.tape.trans h.tape, k.output.trans h.output, Nat.le_trans h.size k.size, fun i hi hn => (k.block i (Nat.lt_of_lt_of_le hi h.size) (fun hm => hn (hs i hi hm))).trans (h.block i hi hn)⟩
theorem Frame.mono {ks ls : List (Option Nat)} {w w' : World} (h : Frame ks w w') (hs : ∀ k, k < w.heap.size → some k ∈ ks → some k ∈ ls) : Frame ls w w' := ⟨h.os, h.tape, h.output, h.size, fun k hk hn => h.block k hk (fun hm => hn (hs k hk hm))⟩
theorem Frame.ofBelow {B : Nat} {ks : List (Option Nat)} {w w' : World} (h : Below B w w') (hB : w.heap.size ≤ B) : Frame ks w w' := ⟨h.os, h.tape, h.output, h.size, fun k hk _ => h.block k (Nat.lt_of_lt_of_le hk hB)⟩
theorem Frame.ofGrown {w w' : World} {row : Option Nat} (h : w.grownBy w' row) : Frame [row] w w' := ⟨h.os, h.tape, h.output, h.size, fun k hk hn => h.block k hk (by simpa using hn)⟩
theorem Frame.below {ks : List (Option Nat)} {w w' : World} (h : Frame ks w w') (B : Nat) (hB : B ≤ w.heap.size) (hk : ∀ k, some k ∈ ks → B ≤ k) : Below B w w' :=
  ⟨h.os, h.tape, h.output, h.size, fun k hlt => h.block k (by omega) (fun hm => by have := hk k hm; omega)⟩
theorem Frame.alloc {ks : List (Option Nat)} {a w : World} (h : Frame ks a w) (o : Obj) : Frame ks a (w.alloc o) :=
  h.trans (Frame.ofBelow (B := w.heap.size) (ks := []) ((Below.refl _ _).alloc (Nat.le_refl _) _) (Nat.le_refl _)) (by simp)
theorem Frame.setCell {ks : List (Option Nat)} {a w : World} (h : Frame ks a w) {p : Addr} (hp : some p.block ∈ ks) (u : Value) : Frame ks a (w.setCell p u) :=
  h.trans (ls := [some p.block]) ⟨rfl, rfl, rfl, by simp, fun k hk hn => Below.heap_setCell _ _ _ _ (by simpa using hn)⟩ (by intro k _ hm; simp at hm; subst hm; exact hp)
theorem Frame.drew {ks : List (Option Nat)} {a w : World} (h : Frame ks a w) : Frame ks a w.drew := ⟨h.os, h.tape, h.output, h.size, h.block⟩

theorem row_frame {ks : List (Option Nat)} {w w' : World} {base : Nat} {e : TypeId} {s : Nat} {v : Value} {n : Nat} {xs : List Value} (h : Frame ks w w') (hr : w.ownsRow base e s v n xs) (hne : ∀ k, v.ownBlock = some k → some k ∉ ks) : w'.ownsRow base e s v n xs := by
  refine ⟨hr.1, ?_⟩
  rcases hr.2 with h1 | ⟨g, cap, cur, rfl, hbg, hg, h2⟩
  · exact .inl h1
  · have hlt : g < w.heap.size := (Array.getElem?_eq_some_iff.1 hg).1
    exact .inr ⟨g, cap, cur, rfl, hbg, (h.block g hlt (hne g rfl)).trans hg, h2⟩

/-- Rows of different kinds are different. -/
theorem row_ne {w : World} {b1 b2 : Nat} {e1 e2 : TypeId} {s1 s2 : Nat} {v1 v2 : Value} {n1 n2 : Nat} {xs ys : List Value} (h1 : w.ownsRow b1 e1 s1 v1 n1 xs) (h2 : w.ownsRow b2 e2 s2 v2 n2 ys) (he : e1 ≠ e2) (k : Nat) (hk : v1.ownBlock = some k) : some k ≠ v2.ownBlock := by
  intro hk2
  rcases h1.2 with ⟨rfl, _⟩ | ⟨g, cap, cur, rfl, _, hg, _⟩
  · simp [Value.ownBlock] at hk
  · rcases h2.2 with ⟨rfl, _⟩ | ⟨g2, cap2, cur2, rfl, _, hg2, _⟩
    · simp [Value.ownBlock] at hk2
    · simp [Value.ownBlock] at hk hk2
      subst hk hk2
      rw [hg] at hg2
      simp at hg2
      exact he hg2.2

theorem frame_set (w : World) (b o : Nat) (v : Value) : Frame [some b] w (w.setCell ⟨b, o, none⟩ v) := (Frame.refl _ _).setCell (by simp) _

end Go.Proofs.Ytpakfknacmcohaa
