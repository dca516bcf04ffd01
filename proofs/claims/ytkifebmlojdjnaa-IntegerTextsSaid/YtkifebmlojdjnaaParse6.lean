/- Both Parses, and both Texts, answer the same. -/
import Derived.Test.YtkifebmlojdjnaaParse3
import Derived.Test.YtkifebmlojdjnaaParse5
namespace Go.Proofs.Ytkifebmlojdjnaa
open Go.RowKit
set_option autoImplicit false
set_option linter.unusedVariables false

theorem number_all (s : ByteArray) (r : Int) (h2 : 2 ≤ r) (h36 : r ≤ 36) (hs : s.size ≤ 1000000) (b : Bool) (hb : b = true ↔ Good r s) (w : World) :
    Calls Try.prog 115 #[.string s, .int .i64 r] w (NumOut w b (pval r s.data.toList) 1000001) := by
  obtain ⟨b', hb', h⟩ := number_any w s r h2 h36 hs
  have e : b' = b := by
    cases b <;> cases b'
    · rfl
    · exact absurd (hb.2 (hb'.1 rfl)) (by decide)
    · exact absurd (hb'.2 (hb.1 rfl)) (by decide)
    · rfl
  rw [← e]
  exact h

theorem goodness (r : Int) (T : ByteArray) (hT : 0 < T.size) : ∃ (b : Bool) (M : Nat), (b = true ↔ Good r T) ∧ M ≤ T.size ∧ (∀ j, j < M → dv ((T.data.toList.getD j 0).toNat) < r) ∧ (M < T.size → r ≤ dv ((T.data.toList.getD M 0).toNat)) ∧ (b = true ↔ M = T.size) := by
  rcases all_or r (fun j => dv ((T.data.toList.getD j 0).toNat)) T.size with h | ⟨M, h1, h3, h4⟩
  · exact ⟨true, T.size, ⟨fun _ => ⟨by omega, h⟩, fun _ => rfl⟩, Nat.le_refl _, h, fun h => absurd h (Nat.lt_irrefl _), ⟨fun _ => rfl, fun _ => rfl⟩⟩
  · refine ⟨false, M, ⟨fun h => absurd h (by decide), fun h5 => ?_⟩, by omega, h3, fun _ => h4, ⟨fun h => absurd h (by decide), fun h => by omega⟩⟩
    have h6 := h5.2 M h1
    have h7 : r ≤ dv ((T.data.toList.getD M 0).toNat) := h4
    omega

theorem both_parse (s : ByteArray) (r : Int) (hs : s.size ≤ 200) : ∃ p c : Int, (∀ w, Calls Try.prog 62 #[.string s, .int .i64 r] w (RetBoth w p c 1000001)) ∧ ∀ w, Calls Try.prog 63 #[.string s, .int .i64 r] w (RetBothR w p c 33554432) := by
  by_cases hr : r < 2 ∨ 36 < r
  · exact ⟨0, 1, fun w => parse_bad w s r hr, fun w => rparse_bad w s r hr⟩
  have h2 : 2 ≤ r := by omega
  have h36 : r ≤ 36 := by omega
  by_cases hz : s.size = 0
  · have hg : (false = true ↔ Good r s) := ⟨fun h => absurd h (by decide), fun h => absurd hz h.1⟩
    exact ⟨0, 2, fun w => parse_none w s r h2 h36 hz false _ 0 2 (number_all s r h2 h36 (by omega) false hg) (fun h => absurd h (by decide)) (fun _ => ⟨rfl, rfl⟩), fun w => rparse_none w s r h2 h36 hz⟩
  have hs0 : 0 < s.size := by omega
  obtain ⟨y, hy⟩ : ∃ y : Nat, (s[0]'hs0).toNat = y := ⟨_, rfl⟩
  have hsz : ByteArray.size (s.extract 1 s.size) = s.size - 1 := by simp [ByteArray.size_extract]
  by_cases hsg : y = 45 ∨ y = 43
  · by_cases h1 : s.size = 1
    · have hg : (false = true ↔ Good r (s.extract 1 s.size)) := ⟨fun h => absurd h (by decide), fun h => absurd (by omega) h.1⟩
      refine ⟨0, 2, fun w => ?_, fun w => rparse_sign w s r h2 h36 h1 hs0 y hy hsg⟩
      rcases hsg with h | h
      · exact parse_minus w s r h2 h36 hs0 hs y hy h false _ 0 2 (number_all _ r h2 h36 (by omega) false hg) (fun h => absurd h (by decide)) (fun _ => ⟨rfl, rfl⟩)
      · exact parse_plus w s r h2 h36 hs0 hs y hy h false _ 0 2 (number_all _ r h2 h36 (by omega) false hg) (fun h => absurd h (by decide)) (fun _ => ⟨rfl, rfl⟩)
    · have hT : 0 < ByteArray.size (s.extract 1 s.size) := by omega
      obtain ⟨b, M, hb, hM, hv, hbad, hbM⟩ := goodness r (s.extract 1 s.size) hT
      have hf : M < ByteArray.size (s.extract 1 s.size) → b = false := by
        intro h
        cases b
        · rfl
        · have := hbM.1 rfl
          omega
      rcases hsg with h | h
      · exact ⟨if b = true then sgn true (pval r (s.extract 1 s.size).data.toList) else 0, if b = true then 0 else 2,
          fun w => parse_minus w s r h2 h36 hs0 hs y hy h b _ _ _ (number_all _ r h2 h36 (by omega) b hb) (fun h => by rw [h]; exact ⟨rfl, rfl⟩) (fun h => by rw [h]; exact ⟨rfl, rfl⟩),
          fun w => rparse_minus w s r M h2 h36 hs0 hs y hy h hT (by omega) hM hv hbad _ _ ⟨fun h => by rw [hbM.2 h]; exact ⟨rfl, rfl⟩, fun h => by rw [hf h]; exact ⟨rfl, rfl⟩⟩⟩
      · exact ⟨if b = true then sgn false (pval r (s.extract 1 s.size).data.toList) else 0, if b = true then 0 else 2,
          fun w => parse_plus w s r h2 h36 hs0 hs y hy h b _ _ _ (number_all _ r h2 h36 (by omega) b hb) (fun h => by rw [h]; exact ⟨rfl, rfl⟩) (fun h => by rw [h]; exact ⟨rfl, rfl⟩),
          fun w => rparse_plus w s r M h2 h36 hs0 hs y hy h hT (by omega) hM hv hbad _ _ ⟨fun h => by rw [hbM.2 h]; exact ⟨rfl, rfl⟩, fun h => by rw [hf h]; exact ⟨rfl, rfl⟩⟩⟩
  · obtain ⟨b, M, hb, hM, hv, hbad, hbM⟩ := goodness r s hs0
    have hf : M < s.size → b = false := by
      intro h
      cases b
      · rfl
      · have := hbM.1 rfl
        omega
    have h45 : y ≠ 45 := fun h => hsg (.inl h)
    have h43 : y ≠ 43 := fun h => hsg (.inr h)
    exact ⟨if b = true then sgn false (pval r s.data.toList) else 0, if b = true then 0 else 2,
      fun w => parse_bare w s r h2 h36 hs0 hs y hy h45 h43 b _ _ _ (number_all _ r h2 h36 (by omega) b hb) (fun h => by rw [h]; exact ⟨rfl, rfl⟩) (fun h => by rw [h]; exact ⟨rfl, rfl⟩),
      fun w => rparse_bare w s r M h2 h36 hs0 hs y hy h45 h43 hs0 hs hM hv hbad _ _ ⟨fun h => by rw [hbM.2 h]; exact ⟨rfl, rfl⟩, fun h => by rw [hf h]; exact ⟨rfl, rfl⟩⟩⟩

/-- A text and a code were returned. -/
def RetTextC (w : World) (S : ByteArray) (c : Int) (e : Ending) (w' : World) : Prop := e = .returned (.tuple #[.string S, .int .i64 c]) ∧ Below w.heap.size w w'

theorem text_bad (w : World) (nx : Bool) (ao : Option Addr) (n cap : Nat) (r : Int) (h : r < 2 ∨ 36 < r) : Calls Try.prog 60 #[.agg #[.bool nx, .slice ao n cap], .int .i64 r] w (RetTextC w ⟨#[]⟩ 1) := by
  rcases h with h | h
  · go_enter Try.func60, Try.ntmps60
    go_wp2_with fail
    go_ret2
    exact ⟨rfl, by go_grown⟩
  · have h0 : ¬ r < 2 := by omega
    go_enter Try.func60, Try.ntmps60
    go_wp2_with fail
    go_ret2
    exact ⟨rfl, by go_grown⟩

theorem rtext_bad (w : World) (nx : Bool) (ao : Option Addr) (n cap : Nat) (r : Int) (h : r < 2 ∨ 36 < r) : Calls Try.prog 61 #[.agg #[.bool nx, .slice ao n cap], .int .i64 r] w (RetTextC w ⟨#[]⟩ 1) := by
  rcases h with h | h
  · go_enter Try.func61, Try.ntmps61
    go_wp2_with fail
    go_ret2
    exact ⟨rfl, by go_grown⟩
  · have h0 : ¬ r < 2 := by omega
    go_enter Try.func61, Try.ntmps61
    go_wp2_with fail
    go_ret2
    exact ⟨rfl, by go_grown⟩

theorem both_text (r : Int) (nx ux : Bool) (ao uo : Option Addr) (n n' cap capc : Nat) (xs us : List Int) (x : Int) (w1 : World) (hx : IntAt w1 nx ao n cap xs x) (hu : RefAt w1 ux uo n' capc us x) (h1 : n ≤ 1048576) (h3 : n' ≤ 1048576) :
    ∃ (S : ByteArray) (c : Int), (∀ w2, Below w1.heap.size w1 w2 → Calls Try.prog 60 #[.agg #[.bool nx, .slice ao n cap], .int .i64 r] w2 (RetTextC w2 S c)) ∧
      ∀ w2, Below w1.heap.size w1 w2 → Calls Try.prog 61 #[.agg #[.bool ux, .slice uo n' capc], .int .i64 r] w2 (RetTextC w2 S c) := by
  by_cases hr : r < 2 ∨ 36 < r
  · exact ⟨⟨#[]⟩, 1, fun w _ => text_bad w nx ao n cap r hr, fun w _ => rtext_bad w ux uo n' capc r hr⟩
  · obtain ⟨k, rfl⟩ := Int.eq_ofNat_of_zero_le (show 0 ≤ r by omega)
    exact ⟨strOfNums (textOf k x), 0, fun w hb => text_any w nx ao n cap xs x k (hx.below hb) (by omega) (by omega) (by omega), fun w hb => rtext_any w ux uo n' capc us x k (hu.below hb) (by omega) (by omega) (by omega)⟩
end Go.Proofs.Ytkifebmlojdjnaa
