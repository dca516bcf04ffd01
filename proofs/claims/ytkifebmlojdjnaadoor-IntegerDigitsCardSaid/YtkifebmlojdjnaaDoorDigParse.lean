/- What Parse answers of the texts of numbers. -/
import Derived.Test.YtkifebmlojdjnaaDoorDigMath
namespace Go.Proofs.YtkifebmlojdjnaaDoor
open Go.RowKit
set_option autoImplicit false
set_option linter.unusedVariables false

theorem mk_of_list (s : ByteArray) (l : List UInt8) (h : s.data.toList = l) : s = ⟨l.toArray⟩ := by
  subst h; exact (Lib.mk_data s).symm
theorem tail_list (c : UInt8) (l : List UInt8) : ((⟨(c :: l).toArray⟩ : ByteArray).extract 1 (ByteArray.size ⟨(c :: l).toArray⟩)).data.toList = l := by
  rw [ByteArray.data_extract]
  simp [ByteArray.size]

/-- A sign, and digits. -/
theorem parse_signed (w : World) (s : ByteArray) (r : Int) (h2 : 2 ≤ r) (h36 : r ≤ 36) (neg : Bool) (l : List UInt8) (hs : s.data.toList = (if neg = true then 45 else 43) :: l) (hl : l ≠ []) (hd : ∀ b ∈ l, IsDig r b) (hn : l.length ≤ 900) :
    Calls Tryd.prog 8 #[.string s, .int .i64 r] w (RetBoth w (sgn neg (pval r l)) 0 1000001) := by
  obtain rfl := mk_of_list s _ hs
  obtain ⟨T, hT⟩ : ∃ T, T = (⟨((if neg = true then 45 else 43) :: l).toArray⟩ : ByteArray).extract 1 (ByteArray.size ⟨((if neg = true then 45 else 43) :: l).toArray⟩) := ⟨_, rfl⟩
  have hTl : T.data.toList = l := by rw [hT]; exact tail_list _ _
  have hsz : ByteArray.size ⟨((if neg = true then 45 else 43) :: l).toArray⟩ = l.length + 1 := by simp [ByteArray.size]
  have hTs : T.size = l.length := by rw [Lib.size_eq, hTl]
  have hg : (true = true ↔ Good r T) := ⟨fun _ => good_of T (by rw [hTl]; exact hl) (by rw [hTl]; exact hd), fun _ => rfl⟩
  have hnum := fun w' => number_all T r h2 h36 (by omega) true hg w'
  rw [hTl] at hnum
  rw [hT] at hnum
  cases neg
  · exact parse_plus w _ r h2 h36 (by omega) (by omega) 43 rfl rfl true _ _ 0 hnum (fun _ => ⟨rfl, rfl⟩) (fun h => absurd h (by decide))
  · exact parse_minus w _ r h2 h36 (by omega) (by omega) 45 rfl rfl true _ _ 0 hnum (fun _ => ⟨rfl, rfl⟩) (fun h => absurd h (by decide))

/-- Digits alone. -/
theorem parse_digits (w : World) (s : ByteArray) (r : Int) (h2 : 2 ≤ r) (h36 : r ≤ 36) (l : List UInt8) (hs : s.data.toList = l) (c : UInt8) (cs : List UInt8) (hl : l = c :: cs) (h45 : c ≠ 45) (h43 : c ≠ 43) (hd : ∀ b ∈ l, IsDig r b) (hn : l.length ≤ 900) :
    Calls Tryd.prog 8 #[.string s, .int .i64 r] w (RetBoth w (sgn false (pval r l)) 0 1000001) := by
  subst hl
  have hg : (true = true ↔ Good r s) := ⟨fun _ => good_of s (by rw [hs]; simp) (by rw [hs]; exact hd), fun _ => rfl⟩
  have hsz : s.size = cs.length + 1 := by rw [Lib.size_eq, hs]; rfl
  have hn' : (c :: cs).length = cs.length + 1 := rfl
  have hnum := fun w' => number_all s r h2 h36 (by omega) true hg w'
  rw [hs] at hnum
  obtain rfl := mk_of_list s _ hs
  have hc : ∀ k : UInt8, c ≠ k → c.toNat ≠ k.toNat := fun k h e => h (UInt8.toNat_inj.1 e)
  exact parse_bare w _ r h2 h36 (by omega) (by omega) c.toNat rfl (hc 45 h45) (hc 43 h43) true _ _ 0 hnum (fun _ => ⟨rfl, rfl⟩) (fun h => absurd h (by decide))

theorem sgn_natAbs (x : Int) : sgn (decide (x < 0)) (x.natAbs : Int) = x := by
  unfold sgn
  by_cases h : x < 0
  · simp [h]; omega
  · simp [h]; omega

/-- A number's text is parsed as the number. -/
theorem parse_text (w : World) (r : Nat) (h2 : 2 ≤ r) (h36 : r ≤ 36) (x : Int) (hx : x.natAbs < 2 ^ 256) :
    Calls Tryd.prog 8 #[.string (strOfNums (textOf r x)), .int .i64 r] w (RetBoth w x 0 1000001) := by
  have hlen := dtext_len r h2 x 256 (by omega) hx
  obtain ⟨c, cs, hcs, -, h45, h43⟩ := dtext_ne r h2 h36 x
  have hd := dtext_dig h2 h36 x
  have hv := dtext_pval h2 h36 x
  by_cases h : x < 0
  · have e : x = sgn true (pval r (dtext r x)) := by rw [hv]; simp [sgn]; omega
    have hb : (strOfNums (textOf r x)).data.toList = (if true = true then 45 else 43) :: dtext r x := by rw [bytes_text, if_pos h]; rfl
    have := parse_signed w _ r (by omega) (by omega) true _ hb (by rw [hcs]; simp) hd (by omega)
    rw [← e] at this
    exact this
  · have e : x = sgn false (pval r (dtext r x)) := by rw [hv]; simp [sgn]; omega
    have hb : (strOfNums (textOf r x)).data.toList = dtext r x := by rw [bytes_text, if_neg h]; rfl
    have := parse_digits w _ r (by omega) (by omega) _ hb c cs hcs h45 h43 hd (by omega)
    rw [← e] at this
    exact this

/-- With a sign always, zeros ahead, and small letters, too. -/
theorem parse_mixed (w : World) (s : ByteArray) (r : Nat) (h2 : 2 ≤ r) (h36 : r ≤ 36) (x : Int) (hx : x.natAbs < 2 ^ 256) (k : Nat) (hk : k ≤ 20)
    (hs : s.data.toList = (if decide (x < 0) = true then 45 else 43) :: (List.replicate k 48 ++ Lib.toLowerA (dtext r x))) :
    Calls Tryd.prog 8 #[.string s, .int .i64 r] w (RetBoth w x 0 1000001) := by
  have hlen := dtext_len r h2 x 256 (by omega) hx
  obtain ⟨c, cs, hcs, -, h45, h43⟩ := dtext_ne r h2 h36 x
  have hd := dtext_dig h2 h36 x
  have hv := dtext_pval h2 h36 x
  have hp : pval r (List.replicate k 48 ++ Lib.toLowerA (dtext r x)) = (x.natAbs : Int) := by rw [pval_zeros, Lib.toLowerA, pval_low, hv]
  have := parse_signed w s r (by omega) (by omega) (decide (x < 0)) _ hs (by rw [hcs]; simp [Lib.toLowerA]) (by
    intro b hb
    rcases List.mem_append.1 hb with hb | hb
    · obtain rfl := List.eq_of_mem_replicate hb
      refine ⟨?_, by decide⟩
      have : dv ((48 : UInt8).toNat : Int) = 0 := by decide
      rw [this]; omega
    · obtain ⟨a, ha, rfl⟩ := List.mem_map.1 hb
      have := hd a ha
      exact ⟨by rw [dv_low]; exact this.1, low_ascii a this.2⟩) (by
    rw [List.length_append, List.length_replicate, Lib.toLowerA, List.length_map]; omega)
  rw [hp, sgn_natAbs] at this
  exact this
end Go.Proofs.YtkifebmlojdjnaaDoor
