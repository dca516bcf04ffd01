/- DigMath, DigParse in one text. -/
import Derived.Test.YtdfepdhflnnjpaaGreatParseM
import Derived.Lib.Case
namespace Go.Proofs.YtdfepdhflnnjpaaGreat
open Go.RowKit
set_option autoImplicit false
set_option linter.unusedVariables false

theorem dval_digs {r : Nat} (h2 : 2 ≤ r) (v : Nat) : dval r (digs r v) = v := by
  induction v using Nat.strongRecOn with
  | _ v ih =>
    by_cases h : v = 0
    · rw [h, digs_zero]; rfl
    · rw [digs_pos h2 h]
      simp only [dval]
      rw [ih (v / r) (Nat.div_lt_self (by omega) (by omega))]
      have := Nat.mod_add_div v r
      have e : ((v % r : Nat) : Int) + (r : Int) * ((v / r : Nat) : Int) = ((v % r + r * (v / r) : Nat) : Int) := by rw [Int.natCast_add, Int.natCast_mul]
      rw [e, this]

theorem Dig_digs {r : Nat} (h2 : 2 ≤ r) (v : Nat) : Dig r (digs r v) := by
  induction v using Nat.strongRecOn with
  | _ v ih =>
    by_cases h : v = 0
    · rw [h, digs_zero]; intro d hd; cases hd
    · rw [digs_pos h2 h]
      intro d hd
      rcases List.mem_cons.1 hd with rfl | hd
      · have := Nat.mod_lt v (by omega : r > 0)
        omega
      · exact ih (v / r) (Nat.div_lt_self (by omega) (by omega)) d hd

/-- The most significant digit isn't 0. -/
theorem digs_top {r : Nat} (h2 : 2 ≤ r) (v : Nat) (hv : v ≠ 0) : ∃ ds d, digs r v = ds ++ [d] ∧ d ≠ 0 := by
  induction v using Nat.strongRecOn with
  | _ v ih =>
    rw [digs_pos h2 hv]
    by_cases h : v / r = 0
    · rw [h, digs_zero]
      refine ⟨[], ((v % r : Nat) : Int), rfl, ?_⟩
      have := Nat.mod_add_div v r
      rw [h] at this
      omega
    · obtain ⟨ds, d, e, hd⟩ := ih (v / r) (Nat.div_lt_self (by omega) (by omega)) h
      exact ⟨((v % r : Nat) : Int) :: ds, d, by rw [e]; rfl, hd⟩

/-- A letter as a byte. -/
def lb (d : Int) : UInt8 := UInt8.ofNat (letter d).toNat
theorem lb_nat {d : Int} (h0 : 0 ≤ d) (h1 : d < 36) : ((lb d).toNat : Int) = letter d := by
  have := letter_range h0 h1
  unfold lb
  rw [UInt8.toNat_ofNat_of_lt' (by show _ < 256; omega)]
  omega
theorem dv_lb {d : Int} (h0 : 0 ≤ d) (h1 : d < 36) : dv ((lb d).toNat : Int) = d := by
  rw [lb_nat h0 h1]
  unfold letter dv
  split <;> split <;> (try split) <;> (try split) <;> omega
theorem dv_low_all : ∀ i : Fin 256, dv ((Lib.lowerB (UInt8.ofNat i.val)).toNat : Int) = dv ((UInt8.ofNat i.val).toNat : Int) := by decide +kernel
theorem low_all : ∀ i : Fin 256, (UInt8.ofNat i.val).toNat < 128 → (Lib.lowerB (UInt8.ofNat i.val)).toNat < 128 := by decide +kernel
theorem dv_low (b : UInt8) : dv ((Lib.lowerB b).toNat : Int) = dv (b.toNat : Int) := by
  have h := dv_low_all ⟨b.toNat, b.toNat_lt⟩
  simpa using h
theorem low_ascii (b : UInt8) (hb : b.toNat < 128) : (Lib.lowerB b).toNat < 128 := by
  have h := low_all ⟨b.toNat, b.toNat_lt⟩
  simp at h
  exact h hb

theorem pval_snoc (r : Int) (cs : List UInt8) (c : UInt8) : pval r (cs ++ [c]) = pval r cs * r + dv (c.toNat : Int) := by
  unfold pval; rw [List.foldl_append]; rfl
theorem pval_low (r : Int) (cs : List UInt8) : pval r (cs.map Lib.lowerB) = pval r cs := by
  unfold pval
  rw [List.foldl_map]
  congr 1
  funext v c
  rw [dv_low]
theorem pval_zeros (r : Int) (k : Nat) (cs : List UInt8) : pval r (List.replicate k 48 ++ cs) = pval r cs := by
  unfold pval
  rw [List.foldl_append]
  congr 1
  induction k with
  | zero => rfl
  | succ k ih =>
    rw [List.replicate_succ, List.foldl_cons]
    have : dv ((48 : UInt8).toNat : Int) = 0 := by decide
    rw [this, Int.zero_mul, Int.zero_add]
    exact ih
theorem pval_rev {r : Nat} (h36 : r ≤ 36) : ∀ ds : List Int, Dig r ds → pval r (ds.map lb).reverse = dval r ds := by
  intro ds
  induction ds with
  | nil => intro _; rfl
  | cons d ds ih =>
    intro h
    have hd := h d (by simp)
    rw [List.map_cons, List.reverse_cons, pval_snoc, ih (fun z hz => h z (by simp [hz])), dv_lb hd.1 (by omega)]
    simp only [dval]
    rw [Int.mul_comm]; omega

/-- The digits of a number's text, without its sign. -/
def dtext (r : Nat) (x : Int) : List UInt8 := if x = 0 then [48] else ((digs r x.natAbs).map lb).reverse

theorem bytes_text (r : Nat) (x : Int) : (strOfNums (textOf r x)).data.toList = (if x < 0 then [45] else []) ++ dtext r x := by
  unfold strOfNums textOf dtext
  by_cases h : x = 0
  · subst h; rfl
  · rw [if_neg h, if_neg h]
    by_cases h1 : x < 0
    · simp [h1, lb, Function.comp_def]
    · simp [h1, lb, Function.comp_def]

theorem dtext_pval {r : Nat} (h2 : 2 ≤ r) (h36 : r ≤ 36) (x : Int) : pval r (dtext r x) = (x.natAbs : Int) := by
  unfold dtext
  by_cases h : x = 0
  · subst h; simp [pval, dv]
  · rw [if_neg h, pval_rev h36 _ (Dig_digs h2 _), dval_digs h2]

/-- A byte that stands for a digit. -/
def IsDig (r : Int) (b : UInt8) : Prop := dv (b.toNat : Int) < r ∧ b.toNat < 128
theorem dtext_dig {r : Nat} (h2 : 2 ≤ r) (h36 : r ≤ 36) (x : Int) : ∀ b ∈ dtext r x, IsDig r b := by
  intro b hb
  unfold dtext at hb
  by_cases h : x = 0
  · rw [if_pos h] at hb
    simp at hb; subst hb
    refine ⟨?_, by decide⟩
    have : dv ((48 : UInt8).toNat : Int) = 0 := by decide
    rw [this]; omega
  · rw [if_neg h] at hb
    simp only [List.mem_reverse, List.mem_map] at hb
    obtain ⟨d, hd, rfl⟩ := hb
    have hr := Dig_digs h2 _ d hd
    refine ⟨by rw [dv_lb hr.1 (by omega)]; exact hr.2, ?_⟩
    have h1 := lb_nat hr.1 (by omega : d < 36)
    have h3 := letter_range hr.1 (by omega : d < 36)
    omega
theorem lb_ne {d : Int} (h0 : 0 ≤ d) (h1 : d < 36) (k : UInt8) (h : (k.toNat : Int) < 48) : lb d ≠ k := by
  intro e
  have h2 := lb_nat h0 h1
  have h3 := letter_range h0 h1
  rw [e] at h2
  omega
theorem lb_zero {d : Int} (h0 : 0 ≤ d) (h1 : d < 36) (h : lb d = 48) : d = 0 := by
  have h2 := lb_nat h0 h1
  rw [h] at h2
  exact (letter_zero h0).1 h2.symm
theorem dtext_ne (r : Nat) (h2 : 2 ≤ r) (h36 : r ≤ 36) (x : Int) : ∃ c cs, dtext r x = c :: cs ∧ (c = 48 → dtext r x = [48]) ∧ c ≠ 45 ∧ c ≠ 43 := by
  unfold dtext
  by_cases h : x = 0
  · rw [if_pos h]; exact ⟨48, [], rfl, fun _ => rfl, by decide, by decide⟩
  · rw [if_neg h]
    obtain ⟨ds, d, e, hd⟩ := digs_top h2 x.natAbs (by omega)
    rw [e]
    have hr : 0 ≤ d ∧ d < r := Dig_digs h2 x.natAbs d (by rw [e]; simp)
    exact ⟨lb d, (ds.map lb).reverse, by simp, fun h1 => absurd (lb_zero hr.1 (by omega) h1) hd, lb_ne hr.1 (by omega) 45 (by decide), lb_ne hr.1 (by omega) 43 (by decide)⟩
theorem dtext_len (r : Nat) (h2 : 2 ≤ r) (x : Int) (k : Nat) (h1 : 1 ≤ k) (h : x.natAbs < 2 ^ k) : (dtext r x).length ≤ k := by
  unfold dtext
  by_cases h0 : x = 0
  · rw [if_pos h0]; exact h1
  · rw [if_neg h0]
    have := digs_len h2 k x.natAbs h
    simpa using this

theorem good_of {r : Int} (s : ByteArray) (h0 : s.data.toList ≠ []) (h : ∀ b ∈ s.data.toList, IsDig r b) : Good r s := by
  refine ⟨fun h1 => h0 (List.eq_nil_of_length_eq_zero (by rw [Array.length_toList]; exact h1)), fun j hj => ?_⟩
  have hl : j < s.data.toList.length := by rw [Array.length_toList]; exact hj
  rw [List.getD_eq_getElem?_getD, List.getElem?_eq_getElem hl, Option.getD_some]
  exact (h _ (List.getElem_mem hl)).1

theorem mk_of_list (s : ByteArray) (l : List UInt8) (h : s.data.toList = l) : s = ⟨l.toArray⟩ := by
  subst h; exact (Lib.mk_data s).symm
theorem tail_list (c : UInt8) (l : List UInt8) : ((⟨(c :: l).toArray⟩ : ByteArray).extract 1 (ByteArray.size ⟨(c :: l).toArray⟩)).data.toList = l := by
  rw [ByteArray.data_extract]
  simp [ByteArray.size]

/-- A sign, and digits. -/
theorem parse_signed (w : World) (s : ByteArray) (r : Int) (h2 : 2 ≤ r) (h36 : r ≤ 36) (neg : Bool) (l : List UInt8) (hs : s.data.toList = (if neg = true then 45 else 43) :: l) (hl : l ≠ []) (hd : ∀ b ∈ l, IsDig r b) (hn : l.length ≤ 900) :
    Calls Tryz.prog 109 #[.string s, .int .i64 r] w (RetBoth w (sgn neg (pval r l)) 0 1000001) := by
  obtain rfl := mk_of_list s _ hs
  obtain ⟨T, hT⟩ : ∃ T, T = (⟨((if neg = true then 45 else 43) :: l).toArray⟩ : ByteArray).extract 1 (ByteArray.size ⟨((if neg = true then 45 else 43) :: l).toArray⟩) := ⟨_, rfl⟩
  have hTl : T.data.toList = l := by rw [hT]; exact tail_list _ _
  have hsz : ByteArray.size ⟨((if neg = true then 45 else 43) :: l).toArray⟩ = l.length + 1 := by simp [ByteArray.size]
  have hTs : T.size = l.length := by rw [Lib.size_eq, hTl]
  have hg : (true = true ↔ Good r T) := ⟨fun _ => good_of T (by rw [hTl]; exact hl) (by rw [hTl]; exact hd), fun _ => rfl⟩
  have hnum := fun w' => number_all T r h2 h36 (by omega) true hg w'
  rw [hTl] at hnum
  rw [hT] at hnum
  cases neg
  · exact parse_plus w _ r h2 h36 (by omega) (by omega) 43 rfl rfl true _ _ 0 hnum (fun _ => ⟨rfl, rfl⟩) (fun h => absurd h (by decide))
  · exact parse_minus w _ r h2 h36 (by omega) (by omega) 45 rfl rfl true _ _ 0 hnum (fun _ => ⟨rfl, rfl⟩) (fun h => absurd h (by decide))

/-- Digits alone. -/
theorem parse_digits (w : World) (s : ByteArray) (r : Int) (h2 : 2 ≤ r) (h36 : r ≤ 36) (l : List UInt8) (hs : s.data.toList = l) (c : UInt8) (cs : List UInt8) (hl : l = c :: cs) (h45 : c ≠ 45) (h43 : c ≠ 43) (hd : ∀ b ∈ l, IsDig r b) (hn : l.length ≤ 900) :
    Calls Tryz.prog 109 #[.string s, .int .i64 r] w (RetBoth w (sgn false (pval r l)) 0 1000001) := by
  subst hl
  have hg : (true = true ↔ Good r s) := ⟨fun _ => good_of s (by rw [hs]; simp) (by rw [hs]; exact hd), fun _ => rfl⟩
  have hsz : s.size = cs.length + 1 := by rw [Lib.size_eq, hs]; rfl
  have hn' : (c :: cs).length = cs.length + 1 := rfl
  have hnum := fun w' => number_all s r h2 h36 (by omega) true hg w'
  rw [hs] at hnum
  obtain rfl := mk_of_list s _ hs
  have hc : ∀ k : UInt8, c ≠ k → c.toNat ≠ k.toNat := fun k h e => h (UInt8.toNat_inj.1 e)
  exact parse_bare w _ r h2 h36 (by omega) (by omega) c.toNat rfl (hc 45 h45) (hc 43 h43) true _ _ 0 hnum (fun _ => ⟨rfl, rfl⟩) (fun h => absurd h (by decide))

theorem sgn_natAbs (x : Int) : sgn (decide (x < 0)) (x.natAbs : Int) = x := by
  unfold sgn
  by_cases h : x < 0
  · simp [h]; omega
  · simp [h]; omega

/-- A number's text is parsed as the number. -/
theorem parse_text (w : World) (r : Nat) (h2 : 2 ≤ r) (h36 : r ≤ 36) (x : Int) (hx : x.natAbs < 2 ^ 256) :
    Calls Tryz.prog 109 #[.string (strOfNums (textOf r x)), .int .i64 r] w (RetBoth w x 0 1000001) := by
  have hlen := dtext_len r h2 x 256 (by omega) hx
  obtain ⟨c, cs, hcs, -, h45, h43⟩ := dtext_ne r h2 h36 x
  have hd := dtext_dig h2 h36 x
  have hv := dtext_pval h2 h36 x
  by_cases h : x < 0
  · have e : x = sgn true (pval r (dtext r x)) := by rw [hv]; simp [sgn]; omega
    have hb : (strOfNums (textOf r x)).data.toList = (if true = true then 45 else 43) :: dtext r x := by rw [bytes_text, if_pos h]; rfl
    have := parse_signed w _ r (by omega) (by omega) true _ hb (by rw [hcs]; simp) hd (by omega)
    rw [← e] at this
    exact this
  · have e : x = sgn false (pval r (dtext r x)) := by rw [hv]; simp [sgn]; omega
    have hb : (strOfNums (textOf r x)).data.toList = dtext r x := by rw [bytes_text, if_neg h]; rfl
    have := parse_digits w _ r (by omega) (by omega) _ hb c cs hcs h45 h43 hd (by omega)
    rw [← e] at this
    exact this

/-- With a sign always, zeros ahead, and small letters, too. -/
theorem parse_mixed (w : World) (s : ByteArray) (r : Nat) (h2 : 2 ≤ r) (h36 : r ≤ 36) (x : Int) (hx : x.natAbs < 2 ^ 256) (k : Nat) (hk : k ≤ 20)
    (hs : s.data.toList = (if decide (x < 0) = true then 45 else 43) :: (List.replicate k 48 ++ Lib.toLowerA (dtext r x))) :
    Calls Tryz.prog 109 #[.string s, .int .i64 r] w (RetBoth w x 0 1000001) := by
  have hlen := dtext_len r h2 x 256 (by omega) hx
  obtain ⟨c, cs, hcs, -, h45, h43⟩ := dtext_ne r h2 h36 x
  have hd := dtext_dig h2 h36 x
  have hv := dtext_pval h2 h36 x
  have hp : pval r (List.replicate k 48 ++ Lib.toLowerA (dtext r x)) = (x.natAbs : Int) := by rw [pval_zeros, Lib.toLowerA, pval_low, hv]
  have := parse_signed w s r (by omega) (by omega) (decide (x < 0)) _ hs (by rw [hcs]; simp [Lib.toLowerA]) (by
    intro b hb
    rcases List.mem_append.1 hb with hb | hb
    · obtain rfl := List.eq_of_mem_replicate hb
      refine ⟨?_, by decide⟩
      have : dv ((48 : UInt8).toNat : Int) = 0 := by decide
      rw [this]; omega
    · obtain ⟨a, ha, rfl⟩ := List.mem_map.1 hb
      have := hd a ha
      exact ⟨by rw [dv_low]; exact this.1, low_ascii a this.2⟩) (by
    rw [List.length_append, List.length_replicate, Lib.toLowerA, List.length_map]; omega)
  rw [hp, sgn_natAbs] at this
  exact this
end Go.Proofs.YtdfepdhflnnjpaaGreat
