/- Contracts of slices.Reverse over bytes and of Text. -/
import Derived.Test.YtpakfknacmcohaaText1
import Derived.Test.YtpakfknacmcohaaNat5
import Derived.RegionTactic
import Derived.ChangeAlike
import Derived.BigRegion
import Derived.Laws.BytesArg
namespace Go.Proofs.Ytpakfknacmcohaa
open Go.RowKit
set_option autoImplicit false
set_option linter.unusedVariables false

theorem Own8.len {B : Nat} {w : World} {ao : Option Addr} {n cap : Nat} {bs : List Int} (h : Own8 B w ao n cap bs) : bs.length = n := by have := h.1; simpa using this
theorem Own8.most {B : Nat} {w : World} {ao : Option Addr} {n cap : Nat} {bs : List Int} (h : Own8 B w ao n cap bs) : n ≤ cap ∧ cap ≤ maxLen := by
  rcases h.2 with ⟨hv, hn⟩ | ⟨g, c, cur, hv, hb, hg, hnc, hcm, hcs, htake⟩
  · simp only [Value.slice.injEq] at hv
    obtain ⟨rfl, rfl, rfl⟩ := hv
    exact ⟨Nat.le_refl _, Nat.zero_le _⟩
  · simp only [Value.slice.injEq] at hv
    obtain ⟨rfl, _, rfl⟩ := hv
    exact ⟨hnc, hcm⟩
theorem Own8.set {B : Nat} {w : World} {g n cap : Nat} {zs : List Int} (h : Own8 B w (some ⟨g, 0, none⟩) n cap zs) (j : Nat) (v : Int) : Own8 B (w.setCell ⟨g, j, none⟩ (.int .u8 v)) (some ⟨g, 0, none⟩) n cap (zs.set j v) := by
  have := (World.ownsRow.stored h j (.int .u8 v)).1
  unfold Own8
  rw [List.map_set]
  exact this
theorem Own8.addr {B : Nat} {w : World} {ao : Option Addr} {n cap : Nat} {zs : List Int} (h : Own8 B w ao n cap zs) (hn : 0 < n) : ∃ g, ao = some ⟨g, 0, none⟩ ∧ B ≤ g := by
  rcases h.2 with ⟨hv, h0⟩ | ⟨g, c, cur, hv, hb, hg, hnc, hcm, hcs, htake⟩
  · omega
  · simp only [Value.slice.injEq] at hv
    exact ⟨g, hv.1, hb⟩
theorem Own8.at {B : Nat} {w : World} {g n cap : Nat} {zs : List Int} (h : Own8 B w (some ⟨g, 0, none⟩) n cap zs) {j : Nat} (hj : j < n) :
    w.cell? ⟨g, j, none⟩ = some (.int .u8 (zs.getD j 0)) ∧ w.frozen? ⟨g, j, none⟩ = false := by
  have hl := h.len
  refine ⟨?_, World.ownsRow.frozenAt h j⟩
  rw [World.ownsRow.cellAt h j (by omega), List.getElem?_map, List.getElem?_eq_getElem (by omega), getD_lt (by omega)]
  rfl

theorem reverse_of {bs cs : List Int} {k m : Nat} (hl : bs.length = k + m + 1) (hc : cs.length = k + m + 1) (hmk : m ≤ k) (h : ∀ t, t < k + m + 1 → cs.getD t 0 = if t < k ∨ m < t then bs.getD (k + m - t) 0 else bs.getD t 0) : cs = bs.reverse := by
  apply List.ext_getElem
  · simp [hl, hc]
  · intro t h1 h2
    have ht := h t (by omega)
    rw [getD_lt h1] at ht
    rw [ht, List.getElem_reverse]
    split
    · rw [getD_lt (by omega)]; congr 1; omega
    · rw [getD_lt (by omega)]; congr 1; omega

theorem rev_step {bs cs : List Int} {k m : Nat} (hc : cs.length = k + m + 1) (hkm : k < m) (h : ∀ t, t < k + m + 1 → cs.getD t 0 = if t < k ∨ m < t then bs.getD (k + m - t) 0 else bs.getD t 0) :
    ∀ t, t < (k + 1) + (m - 1) + 1 → ((cs.set k (cs.getD m 0)).set m (cs.getD k 0)).getD t 0 = if t < k + 1 ∨ m - 1 < t then bs.getD ((k + 1) + (m - 1) - t) 0 else bs.getD t 0 := by
  intro t ht
  have hm := h m (by omega)
  have hk := h k (by omega)
  rw [if_neg (by omega)] at hm hk
  by_cases e1 : t = m
  · subst e1
    rw [getD_set_eq (by rw [List.length_set]; omega), if_pos (by omega), hk]
    congr 1; omega
  · rw [getD_set_ne (by omega)]
    by_cases e2 : t = k
    · subst e2
      rw [getD_set_eq (by omega), if_pos (by omega), hm]
      congr 1; omega
    · rw [getD_set_ne (by omega), h t (by omega)]
      by_cases e3 : t < k ∨ m < t
      · rw [if_pos e3, if_pos (by omega)]; congr 1; omega
      · rw [if_neg e3, if_neg (by omega)]

set_option maxRecDepth 100000 in
theorem reverse_any (B : Nat) (w : World) (ao : Option Addr) (n cap : Nat) (bs : List Int) (h : Own8 B w ao n cap bs) :
    Calls Try.prog 113 #[.slice ao n cap] w fun e w' => e = .returned (.tuple #[]) ∧ Own8 B w' ao n cap bs.reverse ∧ Below B w w' := by
  obtain ⟨hle, hmost⟩ := h.most
  unfold maxLen at hmost
  have hlen := h.len
  by_cases hn : n = 0
  · have hbs : bs.reverse = bs := by rw [List.eq_nil_of_length_eq_zero (by omega : bs.length = 0)]; rfl
    rw [hbs]
    have H := Lib.hid h
    clear h hlen hbs
    subst hn
    go_enter Try.func113, Try.ntmps113
    go_wp2_with fail
    refine wp_loop_rounds 1 ?_; rw [rounds_succ]
    go_wp2_with fail
    go_end0
    exact ⟨rfl, H.out, Below.refl _ _⟩
  · obtain ⟨g, rfl, hg⟩ := h.addr (by omega)
    have H := Lib.hid h
    have HL := Lib.hid hlen
    clear h hlen
    go_enter Try.func113, Try.ntmps113
    go_wp2_with fail
    go_loopw [2, 3] (fun i j wr => ∃ (k m : Nat) (cs : List Int), i = .int .i64 k ∧ j = .int .i64 m ∧ k + m + 1 = n ∧ cs.length = n ∧ (∀ t, t < k + m + 1 → cs.getD t 0 = if t < k ∨ m < t then bs.getD (k + m - t) 0 else bs.getD t 0) ∧ Own8 B wr (some ⟨g, 0, none⟩) n cap cs ∧ Below B w wr) (fun _ j _ => (intOf j).toNat)
    case atStart => exact ⟨0, n - 1, bs, rfl, by go_num, by omega, HL.out, fun t ht => by rw [if_neg (by omega)], H.out, Below.refl _ _⟩
    case round =>
      obtain ⟨k, m, cs, rfl, rfl, hkm, hcl, hall, hown, hbel⟩ := hrel
      have HO := Lib.hid hown
      have HCL := Lib.hid hcl
      have HALL := Lib.hid hall
      clear hown hcl hall
      by_cases hlt : k < m
      · obtain ⟨hc1, hf1⟩ := HO.out.at (j := k) (by omega)
        obtain ⟨hc2, hf2⟩ := HO.out.at (j := m) (by omega)
        obtain ⟨a, ha⟩ : ∃ a, cs.getD k 0 = a := ⟨_, rfl⟩
        obtain ⟨b, hb⟩ : ∃ b, cs.getD m 0 = b := ⟨_, rfl⟩
        rw [ha] at hc1
        rw [hb] at hc2
        have HA := Lib.hid ha
        have HB := Lib.hid hb
        clear ha hb
        have i1 : (k : Int) < n := by omega
        have i2 : (m : Int) < n := by omega
        go_wp2_with fail
        go_region
        all_goals go_wp2_with fail
        go_roundw
        case rel =>
          have hcl := HCL.out
          have hst := rev_step (bs := bs) (cs := cs) (k := k) (m := m) (by omega) hlt HALL.out
          rw [HA.out, HB.out] at hst
          have hset := (HO.out.set k b).set m a
          exact ⟨k + 1, m - 1, (cs.set k b).set m a, by go_num, by go_num, by omega, by rw [List.length_set, List.length_set]; exact hcl, hst, hset,
            ((hbel.setCell (p := ⟨g, k, none⟩) hg _).setCell (p := ⟨g, m, none⟩) hg _).drew⟩
        case measure => simp [intOf]; omega
      · have hcl := HCL.out
        have hrev := reverse_of (bs := bs) (cs := cs) (k := k) (m := m) (by have := HL.out; omega) (by omega) (by omega) HALL.out
        have HREV := Lib.hid hrev
        clear hrev hcl
        go_wp2_with fail
        go_end0
        exact ⟨rfl, HREV.out ▸ HO.out, hbel⟩

theorem Own8.trimmed {B : Nat} {w : World} {ao : Option Addr} {n cap : Nat} {zs : List Int} (h : Own8 B w ao n cap zs) (k : Nat) (hk : k ≤ n) : Own8 B w ao k cap (zs.take k) := by
  have hl : zs.length = n := h.len
  refine ⟨by simp; omega, ?_⟩
  rcases h.2 with ⟨hv, hn⟩ | ⟨g, c, cur, hv, hb, hg, hnc, hcm, hcs, htake⟩
  · simp only [Value.slice.injEq] at hv
    obtain ⟨rfl, rfl, rfl⟩ := hv
    exact .inl ⟨by rw [show k = 0 by omega], by omega⟩
  · simp only [Value.slice.injEq] at hv
    obtain ⟨rfl, _, rfl⟩ := hv
    refine .inr ⟨g, cap, cur, rfl, hb, hg, by omega, hcm, hcs, ?_⟩
    rw [List.map_take, ← htake, List.take_take]
    congr 1
    omega

/-- A text and no error. -/
def RetText (w : World) (l : List Int) (e : Ending) (w' : World) : Prop :=
  e = .returned (.tuple #[.string (strOfNums l), .int .i64 0]) ∧ Below w.heap.size w w'

theorem textOf_zero (r : Nat) : textOf r 0 = [48] := rfl

theorem strip_step {r : Int} {ds : List Int} {k : Nat} (h0 : ds.getD k 0 = 0) : dval r (ds.take (k + 1)) = dval r (ds.take k) := by
  rw [dval_take_succ, h0]; omega

theorem conv_own8 {B : Nat} {w : World} {ao : Option Addr} {n cap : Nat} {bs : List Int} (h : Own8 B w ao n cap bs) (hn : 0 < n) :
    (convert 126 9 (.slice ao n cap)).run Try.prog w = .ok (.string (strOfNums bs)) w := by
  obtain ⟨g, rfl, _⟩ := h.addr hn
  exact run_convert_bytes_arg w 126 5 Try.underlying126 Try.underlying5 g 0 n cap bs h.len (fun i hi => by rw [Nat.zero_add]; exact (h.at hi).1) 9 Try.underlying9

set_option maxRecDepth 100000 in
theorem text_any (w : World) (nx : Bool) (ao : Option Addr) (n cap : Nat) (xs : List Int) (x : Int) (r : Nat) (hx : IntAt w nx ao n cap xs x) (hn : n ≤ 34359738368) (h2 : 2 ≤ r) (h36 : r ≤ 36) :
    Calls Try.prog 60 #[.agg #[.bool nx, .slice ao n cap], .int .i64 r] w (RetText w (textOf r x)) := by
  have HSG : Hid (∀ w1, Below w.heap.size w w1 → Calls Try.prog 22 #[.agg #[.bool nx, .slice ao n cap]] w1 (RetV w1 (.int .i64 (cmpI x 0)))) :=
    fun w1 hb => sign_int w1 nx ao n cap xs x (hx.below hb)
  have ha1 : (2 : Int) ≤ r := by omega
  have ha2 : (r : Int) ≤ 36 := by omega
  by_cases hx0 : x = 0
  · subst hx0
    rw [textOf_zero]
    have hc : cmpI 0 0 = 0 := by simp [cmpI]
    rw [hc] at HSG
    clear hx hc
    go_enter Try.func60, Try.ntmps60
    go_wp2_with fail
    refine (HSG.out _ (by go_grown)).mono ?_
    rintro e w1 ⟨rfl, hb1⟩
    go_wp2
    go_ret2
    exact ⟨rfl, Below.trans (by go_grown) (hb1.mono (by go_size))⟩
  · obtain ⟨c, hc, hcz⟩ : ∃ c, c = cmpI x 0 ∧ (c == 0) = false := ⟨_, rfl, by unfold cmpI; by_cases h1 : x < 0 <;> by_cases h2 : 0 < x <;> simp [h1, h2] <;> omega⟩
    rw [← hc] at HSG
    have HK : Hid (∀ w1, Below w.heap.size w w1 → _) := fun w1 hb => clone_any w1 ao n cap xs (hx.sl.below hb) hn
    clear hc
    go_enter Try.func60, Try.ntmps60
    go_wp2_with fail
    refine (HSG.out _ (by go_grown)).mono ?_
    rintro e w1 ⟨rfl, hb1⟩
    obtain ⟨hz1, hk1, hb2⟩ := left1 hb1
    obtain ⟨k0, k1, _, _⟩ := blk2 hk1
    have HK1 := Lib.hid hk1
    clear hb1 hk1
    go_wp2_with fail
    refine (HK.out w1 hb2).mono ?_
    rintro e w2 ⟨a2, c2, rfl, ho2, hb3⟩
    have hz2 : w.heap.size + 1 ≤ w2.heap.size := Nat.le_trans hz1 hb3.size
    have hk2 := (hb3.block _ (by omega)).trans HK1.out
    have HO2 := Lib.hid ho2
    have HK2 := Lib.hid hk2
    have hb4 : Below w.heap.size w w2 := hb2.trans (hb3.mono (by omega))
    have hs2 := hb3.size
    clear ho2 hk2 k0 k1 HK1
    go_wp2_with fail
    refine (digits_any w1.heap.size w2 a2 n c2 xs r HO2.out hx.lim hx.top hs2 ha1 ha2 hn).mono ?_
    rintro e w3 ⟨to, tn, tc, ds, rfl, ho3, hdig, hdv, htn, hb5⟩
    have hv0 : dval r ds ≠ 0 := by
      intro h
      have h1 := hx.val
      rw [← hdv, h] at h1
      cases nx <;> simp [sgn] at h1 <;> exact hx0 h1
    have htn1 : 1 ≤ tn := by
      rcases Nat.eq_zero_or_pos tn with h | h
      · have h1 := ho3.len
        rw [h, List.length_map] at h1
        rw [List.eq_nil_of_length_eq_zero h1] at hv0
        exact absurd rfl hv0
      · exact h
    have hdl : ds.length = tn := by have := ho3.len; simpa using this
    obtain ⟨g, rfl, hg⟩ := ho3.addr (by omega)
    have hmost := ho3.most
    unfold maxLen at hmost
    obtain ⟨hm1, hm2⟩ := hmost
    have hk3 : w3.heap[w.heap.size]? = some (.cells #[.bool nx, .slice ao n cap] 28 (0, 0)) := (hb5.block _ (by omega)).trans HK2.out
    have hb6 : Below w.heap.size w w3 := hb4.trans (hb5.mono (by omega))
    have HO3 := Lib.hid ho3
    have HDV := Lib.hid hdv
    have HV0 := Lib.hid hv0
    have HDL := Lib.hid hdl
    obtain ⟨k0, k1, _, _⟩ := blk2 hk3
    have hs3 := hb5.size
    clear ho3 hdv hv0 hdl hk3 hb5
    go_wp2_with fail
    go_loopg [6] tn (fun gk t wr => ∃ k : Nat, t = .slice (some ⟨g, 0, none⟩) (k + 1) tc ∧ k + 1 ≤ tn ∧ gk = k + 1 ∧ dval r (ds.take (k + 1)) = dval r ds ∧ wr = w3)
    case atStart => exact ⟨tn - 1, by rw [show tn - 1 + 1 = tn by omega], by omega, by omega, by rw [show tn - 1 + 1 = tn by omega, List.take_of_length_le (by rw [HDL.out]; omega)], rfl⟩
    case round =>
      obtain ⟨k, rfl, hk, rfl, hdk, rfl⟩ := hrel
      have HDK := Lib.hid hdk
      clear hdk
      obtain ⟨hcell, hfrz⟩ := HO3.out.at (j := k) (by omega)
      have hgd : (List.map letter ds).getD k 0 = letter (ds.getD k 0) := by
        rw [getD_lt (by rw [List.length_map, HDL.out]; omega), getD_lt (by rw [HDL.out]; omega), List.getElem_map]
      rw [hgd] at hcell
      have hdk0 : 0 ≤ ds.getD k 0 := by rw [getD_lt (by rw [HDL.out]; omega)]; exact (hdig _ (List.getElem_mem _)).1
      have hlz := letter_zero hdk0
      by_cases hz : ds.getD k 0 = 0
      · have hl : letter (ds.getD k 0) = 48 := hlz.2 hz
        rw [hl] at hcell
        have hkk : k ≠ 0 := by
          intro h0
          have h1 := HDK.out
          rw [h0, strip_step (by rw [← h0]; exact hz)] at h1
          exact HV0.out (h1.symm.trans (by simp [dval]))
        obtain ⟨j, rfl⟩ : ∃ j, k = j + 1 := ⟨k - 1, by omega⟩
        have hst := strip_step (r := r) hz
        have HST := Lib.hid hst
        clear hst hgd hlz hl hz hdk0
        go_wp2_with fail
        go_roundg (j + 1)
        case measure => omega
        case rel => exact ⟨j, by simp, by omega, rfl, by rw [← HST.out]; exact HDK.out, rfl⟩
      · have hl : ¬ letter (ds.getD k 0) = 48 := fun h => hz (hlz.1 h)
        generalize hle : letter (ds.getD k 0) = le at hcell hl
        have hlb : (le == 48) = false := by simpa using hl
        have htop : ∃ v : Nat, dval r (ds.take (k + 1)) = v ∧ digs r v = ds.take (k + 1) ∧ (ds.take (k + 1) ≠ [] → v ≠ 0) := by
          have hlen : (ds.take (k + 1)).length = k + 1 := by rw [List.length_take, HDL.out]; omega
          refine digs_of h2 (Dig_take hdig _) (.inr ?_)
          rw [hlen, Nat.add_sub_cancel]
          have : (ds.take (k + 1)).getD k 0 = ds.getD k 0 := by simp [List.getD]
          rw [this]
          exact hz
        have htext : textOf r x = (if nx then [45] else []) ++ ((ds.take (k + 1)).map letter).reverse := by
          obtain ⟨v, hv1, hv2, _⟩ := htop
          have hvx : (v : Int) = val xs := by rw [← hv1, HDK.out, HDV.out]
          have hxv := hx.val
          rw [← hvx] at hxv
          unfold textOf
          rw [if_neg hx0]
          have hvne : v ≠ 0 := by intro h; rw [h] at hxv; cases nx <;> simp [sgn] at hxv <;> exact hx0 hxv
          cases nx
          · simp [sgn] at hxv
            rw [hxv, if_neg (by omega)]
            simp [hv2]
          · simp [sgn] at hxv
            rw [hxv, if_pos (by omega)]
            simp [hv2]
        have HTX := Lib.hid htext
        have hot := HO3.out.trimmed (k + 1) (by omega)
        rw [← List.map_take] at hot
        have HOT := Lib.hid hot
        clear hle hl hz hlz hdk0 hgd htop htext hot
        obtain ⟨i0, hi, hz0, hz1', hz2'⟩ := info_parts info_u8
        have hlen : (List.map letter (ds.take (k + 1))).length = k + 1 := HOT.out.len
        have HLEN := Lib.hid hlen
        clear hlen
        have hw23 : w.heap.size ≤ w2.heap.size := hb4.size
        have hbd : k + 2 ≤ 34359738368 * 64 := by omega
        cases nx
        · go_wp2_with fail
          refine (reverse_any _ _ _ _ _ _ HOT.out).mono ?_
          rintro e w4 ⟨rfl, ho4, hb7⟩
          have hconv := conv_own8 ho4 (by omega)
          have HTX' := HTX.out
          simp at HTX'
          have HT := Lib.hid HTX'
          clear ho4 HTX'
          go_wp2_with fail
          go_ret2
          exact ⟨by rw [HT.out]; rfl, hb6.trans (hb7.mono hw23)⟩
        · go_wp2_with (at_builtin; refine wpList_append_own _ rfl _ _ 126 rfl w2.heap.size 5 i0 (.int .u8 0) 1 1 Try.underlying126 hi hz0 hz1' hz2' rfl (by decide) _ _ _ rfl (World.ownsRow.alloc HOT.out _) ⟨wr.heap.size, 0, none⟩ 1 1 [.int .u8 45] rfl rfl ?c1 ?c2 ?c3 ?c4 ?c5 ?_)
          case c2 => first | rfl | (intro u hu; simp at hu; subst hu; rfl)
          case c3 => unfold maxLen; omega
          case c4 => omega
          case c5 => first | omega | (simp; omega)
          intro v' w5 hown5 hgrow _
          obtain ⟨to5, tc5, rfl⟩ : ∃ to5 tc5, v' = .slice to5 (k + 1 + 1) tc5 := by
            rcases hown5.2 with ⟨hv, h0⟩ | ⟨g', c', cur, hv, _⟩
            · omega
            · exact ⟨_, _, hv⟩
          have hrow5 : Own8 w2.heap.size w5 to5 (k + 1 + 1) tc5 (List.map letter (ds.take (k + 1)) ++ [45]) := by
            unfold Own8
            rw [List.map_append]
            simpa using hown5
          have hb5 : Below w2.heap.size wr w5 := Below.grown ((Below.refl _ _).alloc hs3 _) hgrow (by simp; omega) (by intro g' hg'; have := (World.ownsRow.lt HOT.out g' hg').1; omega)
          have HR5 := Lib.hid hrow5
          clear hown5 hgrow hrow5
          go_wp2_with fail
          refine (reverse_any _ _ _ _ _ _ HR5.out).mono ?_
          rintro e w4 ⟨rfl, ho4, hb7⟩
          have hconv := conv_own8 ho4 (by omega)
          have HTX' := HTX.out
          simp at HTX'
          have HT := Lib.hid HTX'
          have hrv : (List.map letter (ds.take (k + 1)) ++ [45]).reverse = textOf r x := by rw [HTX']; simp
          rw [hrv] at hconv
          clear ho4 HTX' hrv
          go_wp2_with fail
          go_ret2
          exact ⟨rfl, hb6.trans ((hb5.trans hb7).mono hw23)⟩
end Go.Proofs.Ytpakfknacmcohaa
