/- made: the program's integers of the numbers that are handed in. -/
import Derived.Test.YtkifebmlojdjnaaDoorAwakes
namespace Go.Proofs.YtkifebmlojdjnaaDoor
open Go.RowKit
set_option autoImplicit false
set_option linter.unusedVariables false

/-- 'append(s, x)' of one value of two cells, s the call's own: the value x lies in a block that has just been laid. -/
theorem wpList_app2 {P : Program} {w : World} {ops : Array Oper} {rest : List Oper} {o : Oper} {a : Act} {Q : Exit → Act → World → Prop} (hgd : o.guard = none) (s x : Operand) (t : TypeId)
    (ho : o.op = .call { callee := .builtin .append, args := #[s, x], argTypes := #[t, t] })
    (base : Nat) (e : TypeId) (i : TypeInfo) (z : Value) (bytes : Nat) (ht : P.underlying t = some (.slice e)) (hi : P.info? e = some i) (hz : i.zero = some z)
    (hsize : i.size = 2) (hby : i.bytes = bytes) (hzs : z.cells.size = 2)
    (v : Value) (n : Nat) (xs : List Value) (u1 u2 : Value) (hs : a.eval s = v) (hown : w.ownsRow base e 2 v n xs)
    (hx : a.eval x = .slice (some ⟨w.heap.size, 0, none⟩) 1 1) (h1 : u1.oneCell' = true) (h2 : u2.oneCell' = true)
    (hn : n ≤ 1099511627776) (hb : bytes ≤ 64) (hbase : base ≤ w.heap.size)
    (h : ∀ ao c w', w'.ownsRow base e 2 (.slice ao (n + 1) c) (n + 1) (xs ++ [u1, u2]) → (w.alloc (.cells #[u1, u2] e)).grownBy w' v.ownBlock → wpList P ops Q rest (a.put o.dst (.slice ao (n + 1) c)) w') :
    wpList P ops Q (o :: rest) a (w.alloc (.cells #[u1, u2] e)) := by
  refine wpList_append_own _ hgd s x t ho base e i z 2 bytes ht hi hz hsize hby hzs (by decide) v n xs hs (hown.alloc _) ⟨w.heap.size, 0, none⟩ 1 1 [u1, u2] hx rfl ?_ ?_ (by unfold maxLen; omega) ?_ (by simp; omega) ?_
  · intro j v' hj
    match j, hj with
    | 0, hj =>
      simp at hj
      subst hj
      simp [Addr.add]
    | 1, hj =>
      simp at hj
      subst hj
      simp [Addr.add]
  · intro v' hv'
    simp at hv'
    rcases hv' with rfl | rfl
    · exact h1
    · exact h2
  · have : (n + 1) * bytes ≤ (n + 1) * 64 := Nat.mul_le_mul_left _ hb
    omega
  · intro v' w' ho' hg' _
    obtain ⟨ao, c, rfl⟩ : ∃ ao c, v' = .slice ao (n + 1) c := by
      rcases ho'.2 with ⟨hv, h0⟩ | ⟨g, c, cur, hv, _⟩
      · omega
      · exact ⟨_, _, hv⟩
    exact h ao c w' ho' hg'

/-- The cells of a list of numbers. -/
def flat (l : List Num) : List Value := l.flatMap fun x => [.bool x.neg, .slice x.ao x.n x.cap]

theorem info_Int : (Tryd.prog.info? 28).map (fun i => (i.zero, i.size, i.bytes)) = some (some (.agg #[.bool false, .slice none 0 0]), 2, 32) := by kernel_rfl

theorem Own.setOther {B : Nat} {w : World} {ao : Option Addr} {n cap : Nat} {zs : List Int} (h : Own B w ao n cap zs) {p : Addr} (u : Value) (hp : p.block < B) : Own B (w.setCell p u) ao n cap zs := by
  refine ⟨h.1, ?_⟩
  rcases h.2 with h2 | ⟨g, c, cur, hv, hbg, hg, r⟩
  · exact .inl h2
  · refine .inr ⟨g, c, cur, hv, hbg, ?_, r⟩
    rw [Below.heap_setCell _ _ _ _ (by omega)]
    exact hg

/-- A row of limbs stays while a row of other elements is appended to. -/
theorem Own.grown {B : Nat} {w w' : World} {ao : Option Addr} {n cap : Nat} {zs : List Int} (h : Own B w ao n cap zs) {row : Option Nat} (hg : w.grownBy w' row) (hr : ∀ g, row = some g → ∃ cur fz, w.heap[g]? = some (.cells cur 28 fz)) : Own B w' ao n cap zs := by
  refine ⟨h.1, ?_⟩
  rcases h.2 with h2 | ⟨g, c, cur, hv, hbg, hg2, r⟩
  · exact .inl h2
  · refine .inr ⟨g, c, cur, hv, hbg, ?_, r⟩
    rw [hg.block g (Array.getElem?_eq_some_iff.1 hg2).1 ?_]
    · exact hg2
    · intro hrow
      obtain ⟨cur', fz, h3⟩ := hr g hrow.symm
      rw [hg2] at h3
      simp at h3

/-- An integer was returned whose limbs lie in a block of the call's own. -/
def RetOwn (w : World) (x : Int) (L : Nat) (e : Ending) (w' : World) : Prop :=
  ∃ neg ao n cap zs, e = .returned (.agg #[.bool neg, .slice ao n cap]) ∧ Own w.heap.size w' ao n cap zs ∧ IntAt w' neg ao n cap zs x ∧ n ≤ L ∧ Below w.heap.size w w'

theorem wrap_own {B : Nat} (w : World) (neg : Bool) (ao : Option Addr) (n cap : Nat) (zs : List Int) (ho : Own B w ao n cap zs) (hl : Lim zs) {x : Int} (hx : x = sgn neg (val zs)) :
    Calls Tryd.prog 27 #[.bool neg, .slice ao n cap] w fun e w' => ∃ neg ao n' cap zs, e = .returned (.agg #[.bool neg, .slice ao n' cap]) ∧ Own B w' ao n' cap zs ∧ IntAt w' neg ao n' cap zs x ∧ n' ≤ n ∧ Below w.heap.size w w' := by
  have h := ho.sl
  refine (wrap_any w neg ao n cap zs h).mono ?_
  rintro e w' ⟨rfl, hb⟩
  have hle := tl_le zs n
  have hlen := h.len
  have hv : val (trm zs) = val zs := trm_val zs
  have hn : (trm zs).length = tl zs n := by rw [trm_length, hlen]
  have hs := h.below hb
  have h2 : Own B w' ao (tl zs n) cap (trm zs) := by
    have := (ho.kept hb).trimmed (tl zs n) hle
    unfold trm
    rw [hlen]
    exact this
  refine ⟨_, _, _, _, trm zs, rfl, h2, ⟨⟨hn, Nat.le_trans hle h.le, h.most, h.nil, ?_⟩, trm_lim hl, trm_top zs, ?_, ?_⟩, hle, hb⟩
  · exact h2.sl.cells
  · intro hneg hnil
    rw [hnil] at hn
    simp at hneg hn
    omega
  · rw [hx, hv]
    by_cases h0 : tl zs n = 0
    · have : val zs = 0 := by rw [← hv, List.eq_nil_of_length_eq_zero (hn.trans h0)]; rfl
      rw [this]; simp [sgn]
    · have : decide ((0 : Int) < (tl zs n : Nat)) = true := by simp; omega
      rw [this, Bool.and_true]

theorem make_own (w : World) (neg : Bool) (ao : Option Addr) (n cap : Nat) (zs : List Int) (h : Sl w ao n cap zs) (hl : Lim zs) (hn : n ≤ 34359738368) :
    Calls Tryd.prog 22 #[.bool neg, .slice ao n cap] w (RetOwn w (sgn neg (val zs)) n) := by
  have hc := fun w1 hb => clone_any w1 ao n cap zs (h.below hb) hn
  have HC := Lib.hid hc
  have hzl := h.len
  clear hc h
  go_enter Tryd.func22, Tryd.ntmps22
  go_wp2_with fail
  refine (HC.out _ (by go_grown)).mono ?_
  rintro e w1 ⟨ao1, cap1, rfl, hown, hb1⟩
  have hr1 : w1.heap[w.heap.size]? = some (.cells #[.bool false, .slice none 0 0] 28 (0, 0)) := (hb1.block _ (by simp)).trans (heap_alloc_new w _)
  have hz1 : w.heap.size + 1 ≤ w1.heap.size := by have := hb1.size; simp at this; omega
  have hb2 : Below w.heap.size w w1 := ((Below.refl _ _).alloc (Nat.le_refl _) _).trans (hb1.mono (by simp))
  have ho : Own (w.heap.size + 1) w1 ao1 n cap1 zs := hown.mono (by simp)
  have HS := Lib.hid hown.sl
  have HO := Lib.hid ho
  have HR := Lib.hid hr1
  clear hown hr1 ho
  go_wp2_with fail
  refine (wrap_own w1 neg ao1 n cap1 zs HO.out hl rfl).mono ?_
  rintro e w2 ⟨neg', ao', n', cap', zs', rfl, hown2, hint, hn', hb3⟩
  have hr2 := (hb3.block _ (by omega)).trans HR.out
  have hb4 : Below w.heap.size w w2 := hb2.trans (hb3.mono (by omega))
  obtain ⟨c0, c1, f0, f1⟩ := blk2 hr2
  have HI := Lib.hid (hint.stored hr2 (.bool neg') (.slice ao' n' cap'))
  have HW := Lib.hid ((hown2.setOther (p := ⟨w.heap.size, 0, none⟩) (.bool neg') (by simp)).setOther (p := ⟨w.heap.size, 1, none⟩) (.slice ao' n' cap') (by simp))
  clear hint hr2 hown2
  go_wp2
  refine bodyPost_ret (v := .agg #[.bool neg', .slice ao' n' cap']) (by simp [results, Tryd.results22, go_sem, c0, c1]) rfl ?_
  exact ⟨_, _, _, _, _, rfl, Own.mono HW.out (by omega), HI.out, hn', (hb4.setCell (Nat.le_refl _) _).setCell (Nat.le_refl _) _⟩

/-- The integers were returned: each is the number of its place. -/
def RetMade (w : World) (l : List Num) (X : Nat → Int) (e : Ending) (w' : World) : Prop :=
  ∃ ao cap rs, e = .returned (.slice ao l.length cap) ∧ rs.length = l.length ∧ w'.ownsRow w.heap.size 28 2 (.slice ao l.length cap) l.length (flat rs) ∧
    (∀ i r x, rs[i]? = some r → l[i]? = some x → r.n ≤ x.n ∧ ∃ zs, IntAt w' r.neg r.ao r.n r.cap zs (X i)) ∧ Below w.heap.size w w'

theorem ownsRow_kept {B : Nat} {w w' : World} {e : TypeId} {s : Nat} {v : Value} {n : Nat} {xs : List Value} (h : w.ownsRow B e s v n xs) (hb : Below w.heap.size w w') : w'.ownsRow B e s v n xs := by
  refine ⟨h.1, ?_⟩
  rcases h.2 with h2 | ⟨g, c, cur, hv, hbg, hg, r⟩
  · exact .inl h2
  · refine .inr ⟨g, c, cur, hv, hbg, ?_, r⟩
    rw [hb.block g (Array.getElem?_eq_some_iff.1 hg).1]
    exact hg

set_option maxRecDepth 100000 in
theorem made_many (w : World) (b cap : Nat) (l : List Num) (X : Nat → Int) (Z : Nat → List Int) (hl : Nums w b l) (hb : b < w.heap.size) (hlen : l.length ≤ cap) (hcap : cap ≤ 1000)
    (hs : ∀ i x, l[i]? = some x → Sl w x.ao x.n x.cap (Z i) ∧ Lim (Z i) ∧ X i = sgn x.neg (val (Z i)) ∧ x.n ≤ 34359738368) :
    Calls Tryd.prog 6 #[.slice (some ⟨b, 0, none⟩) l.length cap] w (RetMade w l X) := by
  obtain ⟨i0, hi, hz0, hz1, hz2⟩ := info_parts info_Int
  have HL := Lib.hid hl
  have HS := Lib.hid hs
  clear hl hs
  obtain ⟨n, hn⟩ : ∃ n, n = l.length := ⟨_, rfl⟩
  unfold RetMade
  rw [← hn] at hlen ⊢
  have HN := Lib.hid hn
  clear hn
  go_enter Tryd.func6, Tryd.ntmps6
  go_wp2_with fail
  go_loopw [3, 8] (fun o i wr => ∃ (j : Nat) (ao : Option Addr) (c : Nat) (rs : List Num), j ≤ n ∧ i = .int .i64 j ∧ o = .slice ao j c ∧ rs.length = j ∧ wr.ownsRow w.heap.size 28 2 (.slice ao j c) j (flat rs) ∧
      (∀ i r x, rs[i]? = some r → l[i]? = some x → r.n ≤ x.n ∧ ∃ zs, Own w.heap.size wr r.ao r.n r.cap zs ∧ IntAt wr r.neg r.ao r.n r.cap zs (X i)) ∧ Below w.heap.size w wr)
    (fun o i _ => n - (intOf i).toNat)
  case atStart =>
    refine ⟨0, none, 0, [], by omega, rfl, rfl, rfl, ⟨rfl, .inl ⟨rfl, rfl⟩⟩, ?_, .refl _ _⟩
    intro i r x h; simp at h
  case round =>
    obtain ⟨j, ao, c, rs, hj, rfl, rfl, hrl, hown, hall, hbel⟩ := hrel
    have HRL := Lib.hid hrl
    have HALL := Lib.hid hall
    have HOWN := Lib.hid hown
    clear hall hrl hown
    by_cases hjs : j < n
    · obtain ⟨x, hx⟩ : ∃ x, l[j]? = some x := ⟨l[j]'(by rw [← HN.out]; exact hjs), by simp⟩
      obtain ⟨x0, x1⟩ := HL.out.below hbel hb j x hx
      have HX := Lib.hid hx
      clear hx
      have hji : (j : Int) < n := by omega
      obtain ⟨hsl, hlim, hxv, hxn⟩ := HS.out j x HX.out
      go_wp2_with fail
      refine (make_own _ x.neg x.ao x.n x.cap (Z j) (hsl.below (Below.trans hbel (Below.mono (by go_grown) hbel.size))) hlim hxn).mono ?_
      rintro e w1 ⟨rg, ra, rn, rc, rz, rfl, hrow, hint, hrn, hb1⟩
      have HI := Lib.hid hint
      have HROW := Lib.hid (Own.mono hrow (B' := w.heap.size) (by have := hbel.size; simp; omega))
      have hb2 : Below wr.heap.size wr w1 := Below.trans (by go_grown) (hb1.mono (by go_size))
      have HO1 := Lib.hid (ownsRow_kept HOWN.out hb2)
      have hb3 : Below w.heap.size w w1 := hbel.trans (hb2.mono hbel.size)
      have hsz := hb3.size
      have HXV := Lib.hid hxv
      clear hint hsl hlim HOWN hb1 x0 x1 hrow hxv
      go_wp2_with (at_builtin; refine wpList_app2 rfl _ _ 29 rfl w.heap.size 28 i0 (.agg #[.bool false, .slice none 0 0]) 32 Tryd.underlying29 hi hz0 hz1 hz2 rfl (.slice ao j c) j (flat rs) (.bool rg) (.slice ra rn rc) rfl HO1.out rfl rfl rfl (by omega) (by omega) hsz ?_)
      intro ao2 c2 w2 hown2 hgrow
      have hbw2 : Below w.heap.size w w2 := Below.grown (hb3.alloc hsz _) hgrow (by simp; omega) (by intro g hg; exact (World.ownsRow.lt HO1.out g hg).1)
      have hrowg : ∀ g, (Value.slice ao j c).ownBlock = some g → ∃ cur fz, (w1.alloc (.cells #[.bool rg, .slice ra rn rc] 28)).heap[g]? = some (.cells cur 28 fz) := by
        intro g hg
        rcases HO1.out.2 with ⟨hv, h0⟩ | ⟨g', c', cur, hv, hbg, hg', r⟩
        · rw [hv] at hg; simp [Value.ownBlock] at hg
        · rw [hv] at hg
          simp [Value.ownBlock] at hg
          subst hg
          refine ⟨cur, (0, 0), ?_⟩
          rw [(Below.trans (by go_grown) (.refl _ _) : Below w1.heap.size w1 (w1.alloc (.cells #[.bool rg, .slice ra rn rc] 28))).block _ (Array.getElem?_eq_some_iff.1 hg').1]
          exact hg'
      have hba : Below w1.heap.size w1 (w1.alloc (.cells #[.bool rg, .slice ra rn rc] 28)) := by go_grown
      have hall2 : ∀ i r x, (rs ++ [⟨rg, ra, rn, rc⟩])[i]? = some r → l[i]? = some x → r.n ≤ x.n ∧ ∃ zs, Own w.heap.size w2 r.ao r.n r.cap zs ∧ IntAt w2 r.neg r.ao r.n r.cap zs (X i) := by
        intro i r y hr hy
        by_cases hi : i < j
        · rw [List.getElem?_append_left (by rw [HRL.out]; exact hi)] at hr
          obtain ⟨h1, zs, h2, h3⟩ := HALL.out i r y hr hy
          have h4 := ((h2.kept hb2).kept hba).grown hgrow hrowg
          exact ⟨h1, zs, h4, ⟨h4.sl, h3.lim, h3.top, h3.sign, h3.val⟩⟩
        · have hij : i = j := by
            have := (List.getElem?_eq_some_iff.1 hr).1
            simp [HRL.out] at this
            omega
          subst hij
          rw [List.getElem?_append_right (by rw [HRL.out]; omega), HRL.out] at hr
          simp at hr
          subst hr
          rw [HX.out] at hy
          simp at hy
          subst hy
          have h4 := (HROW.out.kept hba).grown hgrow hrowg
          refine ⟨hrn, rz, h4, ⟨h4.sl, HI.out.lim, HI.out.top, HI.out.sign, ?_⟩⟩
          rw [HXV.out]
          exact HI.out.val
      have HALL2 := Lib.hid hall2
      have hown3 : w2.ownsRow w.heap.size 28 2 (.slice ao2 (j + 1) c2) (j + 1) (flat (rs ++ [⟨rg, ra, rn, rc⟩])) := by
        unfold flat
        rw [List.flatMap_append]
        exact hown2
      have HOWN3 := Lib.hid hown3
      clear hown2 hown3 hall2 hgrow hrowg hba
      go_wp2_with fail
      go_roundw
      case rel => exact ⟨j + 1, ao2, c2, rs ++ [⟨rg, ra, rn, rc⟩], by omega, by go_num, rfl, by rw [List.length_append, HRL.out]; rfl, HOWN3.out, HALL2.out, hbw2⟩
      case measure => simp [intOf]; omega
    · obtain rfl : j = n := by omega
      have hji : ¬ (j : Int) < j := by omega
      go_wp2_with fail
      go_ret
      exact ⟨ao, c, rfl, rs, HRL.out, HOWN.out, fun i r x hr hx => ⟨(HALL.out i r x hr hx).1, (HALL.out i r x hr hx).2.imp fun _ h => h.2⟩, hbel⟩
end Go.Proofs.YtkifebmlojdjnaaDoor
