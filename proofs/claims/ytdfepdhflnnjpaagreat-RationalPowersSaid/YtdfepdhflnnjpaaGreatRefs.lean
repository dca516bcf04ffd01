/- Ref1, Ref2, Ref3 in one text. -/
import Derived.Test.YtdfepdhflnnjpaaGreatNats
import Derived.Test.YtdfepdhflnnjpaaGreatTexts
namespace Go.Proofs.YtdfepdhflnnjpaaGreat
open Go.RowKit
set_option autoImplicit false
set_option maxHeartbeats 1000000
set_option linter.unusedVariables false

/-- At the slice's address lie these limbs. -/
def CellsI (w : World) (ao : Option Addr) (zs : List Int) : Prop :=
  zs = [] ∨ ∃ b o, ao = some ⟨b, o, none⟩ ∧ ∀ i, i < zs.length → w.cell? ⟨b, o + i, none⟩ = some (.int .i64 (zs.getD i 0))

/-- A slice value of limbs, as any function may be handed it. -/
structure SlI (w : World) (ao : Option Addr) (n cap : Nat) (zs : List Int) : Prop where
  len : zs.length = n
  le : n ≤ cap
  most : cap ≤ maxLen
  nil : ao = none → cap = 0
  cells : CellsI w ao zs

/-- The limbs lie in a row from block B on. -/
def OwnI (B : Nat) (w : World) (ao : Option Addr) (n cap : Nat) (zs : List Int) : Prop :=
  w.ownsRow B 3 1 (.slice ao n cap) n (zs.map (Value.int .i64))

theorem CellsI.below {w w' : World} {ao : Option Addr} {zs : List Int} (h : CellsI w ao zs) (hb : Below w.heap.size w w') : CellsI w' ao zs := by
  rcases h with h | ⟨b, o, h1, h2⟩
  · exact .inl h
  · refine .inr ⟨b, o, h1, fun i hi => ?_⟩
    have := h2 i hi
    rw [hb.cell (World.block_lt_of_cell? w _ this)]
    exact this

theorem CellsI.take {w : World} {ao : Option Addr} {zs : List Int} (h : CellsI w ao zs) (n : Nat) : CellsI w ao (zs.take n) := by
  rcases h with h | ⟨b, o, h1, h2⟩
  · exact .inl (by rw [h]; simp)
  · refine .inr ⟨b, o, h1, fun i hi => ?_⟩
    rw [List.length_take] at hi
    rw [h2 i (by omega)]
    have : (zs.take n).getD i 0 = zs.getD i 0 := by simp [List.getD, show i < n by omega]
    rw [this]

theorem SlI.below {w w' : World} {ao : Option Addr} {n cap : Nat} {zs : List Int} (h : SlI w ao n cap zs) (hb : Below w.heap.size w w') : SlI w' ao n cap zs :=
  ⟨h.len, h.le, h.most, h.nil, h.cells.below hb⟩

theorem OwnI.sl {B : Nat} {w : World} {ao : Option Addr} {n cap : Nat} {zs : List Int} (h : OwnI B w ao n cap zs) : SlI w ao n cap zs := by
  have h1 := h.1
  simp only [List.length_map, Nat.mul_one] at h1
  rcases h.2 with ⟨hv, hn⟩ | ⟨g, c, cur, hv, hb, hg, hnc, hcm, hcs, htake⟩
  · simp only [Value.slice.injEq] at hv
    obtain ⟨rfl, rfl, rfl⟩ := hv
    exact ⟨h1, Nat.le_refl _, Nat.zero_le _, fun _ => rfl, .inl (List.eq_nil_of_length_eq_zero h1)⟩
  · simp only [Value.slice.injEq] at hv
    obtain ⟨rfl, _, rfl⟩ := hv
    refine ⟨h1, hnc, hcm, (fun hno => nomatch hno), .inr ⟨g, 0, rfl, fun i hi => ?_⟩⟩
    have := World.ownsRow.cellAt h i (by omega)
    rw [Nat.zero_add, this, List.getElem?_map, List.getElem?_eq_getElem hi, getD_lt hi]
    rfl

theorem info_int : (Tryz.prog.info? 3).map (fun i => (i.zero, i.size, i.bytes)) = some (some (.int .i64 0), 1, 8) := by kernel_rfl

theorem rtrim_any (w : World) (ao : Option Addr) (n cap : Nat) (zs : List Int) (hz : zs.length = n) (hn : n ≤ cap) (hc : cap ≤ maxLen) (h : CellsI w ao zs) :
    Calls Tryz.prog 147 #[.slice ao n cap] w fun e w' => e = .returned (.slice ao (tl zs n) cap) ∧ w = w' := by
  unfold maxLen at hc
  rcases h with rfl | ⟨b, o, rfl, hcell⟩
  · subst hz
    go_enter Tryz.func147, Tryz.ntmps147
    go_wp2
    refine wp_loop_rounds 1 ?_; rw [rounds_succ]
    go_wp2
    go_ret
    exact ⟨rfl, rfl⟩
  · have HC := Lib.hid hcell
    clear hcell
    have hz' : n ≤ zs.length := by omega
    clear hz
    go_enter Tryz.func147, Tryz.ntmps147
    go_wp2
    go_loop [3] (fun v => ∃ k : Nat, k ≤ n ∧ v = .int .i64 k ∧ tl zs n = tl zs k) (fun v => (intOf v).toNat)
    case atStart => exact ⟨n, Nat.le_refl _, rfl, rfl⟩
    case round =>
      obtain ⟨k, hk, rfl, he⟩ := hrel
      have HE := Lib.hid he
      clear he
      by_cases hk0 : k = 0
      · subst hk0
        go_wp2
        go_ret
        exact ⟨by rw [HE.out]; rfl, rfl⟩
      · obtain ⟨j, rfl⟩ : ∃ j, k = j + 1 := ⟨k - 1, by omega⟩
        have hcj : w.cell? ⟨b, o + j, none⟩ = some (.int .i64 (zs.getD j 0)) := HC.out j (by omega)
        have ht : tl zs (j + 1) = if zs.getD j 0 = 0 then tl zs j else j + 1 := rfl
        generalize zs.getD j 0 = z at hcj ht
        have HT := Lib.hid ht
        clear ht
        by_cases hzero : z = 0
        · have hb : (z == 0) = true := by simpa using hzero
          go_wp2
          go_round
          case rel => exact ⟨j, by omega, by go_num, by rw [HE.out, HT.out, if_pos hzero]⟩
          case measure => simp [intOf]
        · have hb : (z == 0) = false := by simpa using hzero
          go_wp2
          go_ret
          exact ⟨ret_slice (by rw [HE.out, HT.out, if_neg hzero]), rfl⟩

theorem tl_dval (r : Int) (zs : List Int) (n : Nat) : dval r (zs.take (tl zs n)) = dval r (zs.take n) := by
  induction n with
  | zero => simp [tl]
  | succ n ih =>
    unfold tl; split
    · rw [ih, dval_take_succ, ‹zs.getD n 0 = 0›]; omega
    · rfl

theorem trm_dval (r : Int) (zs : List Int) : dval r (trm zs) = dval r zs := by rw [trm, tl_dval, List.take_length]

theorem trm_dig {r : Int} {zs : List Int} (h : Dig r zs) : Dig r (trm zs) := Dig_take h _

/-- The sign and the slice hold the reference's integer x. -/
structure RefAt (w : World) (neg : Bool) (ao : Option Addr) (n cap : Nat) (zs : List Int) (x : Int) : Prop where
  sl : SlI w ao n cap zs
  lim : Dig 65536 zs
  top : Top zs
  sign : neg = true → zs ≠ []
  val : x = sgn neg (dval 65536 zs)

theorem RefAt.below {w w' : World} {neg : Bool} {ao : Option Addr} {n cap : Nat} {zs : List Int} {x : Int} (h : RefAt w neg ao n cap zs x) (hb : Below w.heap.size w w') : RefAt w' neg ao n cap zs x :=
  ⟨h.sl.below hb, h.lim, h.top, h.sign, h.val⟩

theorem CellsI.setCell {w : World} {ao : Option Addr} {zs : List Int} (h : CellsI w ao zs) {p : Addr} (u : Value) (hp : ∀ z, w.cell? p ≠ some (.int .i64 z)) : CellsI (w.setCell p u) ao zs := by
  rcases h with h | ⟨b, o, h1, h2⟩
  · exact .inl h
  · refine .inr ⟨b, o, h1, fun i hi => ?_⟩
    have h3 := h2 i hi
    rw [World.cell?_setCell_other]
    · exact h3
    · intro e; rw [e] at hp; exact hp _ h3

theorem RefAt.setCell {w : World} {neg : Bool} {ao : Option Addr} {n cap : Nat} {zs : List Int} {x : Int} (h : RefAt w neg ao n cap zs x) {p : Addr} (u : Value) (hp : ∀ z, w.cell? p ≠ some (.int .i64 z)) : RefAt (w.setCell p u) neg ao n cap zs x :=
  ⟨⟨h.sl.len, h.sl.le, h.sl.most, h.sl.nil, h.sl.cells.setCell u hp⟩, h.lim, h.top, h.sign, h.val⟩

theorem RefAt.stored {w : World} {neg : Bool} {ao : Option Addr} {n cap : Nat} {zs : List Int} {x : Int} (h : RefAt w neg ao n cap zs x) {B : Nat} {a : Bool} {b : Option Addr} {c d : Nat} (hb : w.heap[B]? = some (.cells #[.bool a, .slice b c d] 34 (0, 0))) (u v : Value) :
    RefAt ((w.setCell ⟨B, 0, none⟩ u).setCell ⟨B, 1, none⟩ v) neg ao n cap zs x := by
  obtain ⟨h0, h1, _, _⟩ := blk2 hb
  refine (h.setCell u ?_).setCell v ?_
  · rw [h0]; simp
  · intro z; rw [World.cell?_setCell_other _ _ _ _ (by simp), h1]; simp

/-- An integer of the reference was returned: the value x, in at most L digits. -/
def RetRef (w : World) (x : Int) (L : Nat) (e : Ending) (w' : World) : Prop :=
  ∃ neg ao n cap zs, e = .returned (.agg #[.bool neg, .slice ao n cap]) ∧ RefAt w' neg ao n cap zs x ∧ n ≤ L ∧ Below w.heap.size w w'

theorem fin_ref {w w2 : World} {B : Nat} {neg : Bool} {ao : Option Addr} {n cap : Nat} {zs : List Int} {x0 x : Int} {L : Nat} (hB : w.heap.size ≤ B) (hb : Below w.heap.size w w2)
    (h : RefAt ((w2.setCell ⟨B, 0, none⟩ (.bool neg)).setCell ⟨B, 1, none⟩ (.slice ao n cap)) neg ao n cap zs x0) (hx : x0 = x) (hn : n ≤ L) :
    RetRef w x L (.returned (.agg #[.bool neg, .slice ao n cap])) ((w2.setCell ⟨B, 0, none⟩ (.bool neg)).setCell ⟨B, 1, none⟩ (.slice ao n cap)) :=
  ⟨_, _, _, _, _, rfl, hx ▸ h, hn, (hb.setCell (p := ⟨B, 0, none⟩) hB _).setCell (p := ⟨B, 1, none⟩) hB _⟩

theorem made_any (w : World) (neg : Bool) (ao : Option Addr) (n cap : Nat) (zs : List Int) (h : SlI w ao n cap zs) :
    Calls Tryz.prog 118 #[.bool neg, .slice ao n cap] w fun e w' => e = .returned (.agg #[.bool (neg && decide ((0 : Int) < (tl zs n : Nat))), .slice ao (tl zs n) cap]) ∧ Below w.heap.size w w' := by
  have htl := tl_le zs n
  have hle := h.le
  have hmost := h.most
  have ht : ∀ w1, Below w.heap.size w w1 → Calls Tryz.prog 147 #[.slice ao n cap] w1 fun e w' => e = .returned (.slice ao (tl zs n) cap) ∧ w1 = w' :=
    fun w1 hb => rtrim_any w1 ao n cap zs h.len h.le h.most (h.cells.below hb)
  have HT := Lib.hid ht
  clear ht h
  unfold maxLen at hmost
  cases neg
  all_goals
    go_enter Tryz.func118, Tryz.ntmps118
    go_wp2_with fail
    refine (HT.out _ (by go_grown)).mono ?_
    rintro e w' ⟨rfl, rfl⟩
    go_wp2
    go_returns
    exact ⟨by simp, by go_grown⟩

theorem made_int (w : World) (neg : Bool) (ao : Option Addr) (n cap : Nat) (zs : List Int) (h : SlI w ao n cap zs) (hl : Dig 65536 zs) {x : Int} (hx : x = sgn neg (dval 65536 zs)) :
    Calls Tryz.prog 118 #[.bool neg, .slice ao n cap] w (RetRef w x n) := by
  refine (made_any w neg ao n cap zs h).mono ?_
  rintro e w' ⟨rfl, hb⟩
  have hle := tl_le zs n
  have hlen := h.len
  have hv : dval 65536 (trm zs) = dval 65536 zs := trm_dval 65536 zs
  have hn : (trm zs).length = tl zs n := by rw [trm_length, hlen]
  have hs := h.below hb
  refine ⟨_, _, _, _, trm zs, rfl, ⟨⟨hn, Nat.le_trans hle h.le, h.most, h.nil, ?_⟩, trm_dig hl, trm_top zs, ?_, ?_⟩, hle, hb⟩
  · exact hs.cells.take _
  · intro hneg hnil
    rw [hnil] at hn
    simp at hneg hn
    omega
  · rw [hx, hv]
    by_cases h0 : tl zs n = 0
    · have : dval 65536 zs = 0 := by rw [← hv, List.eq_nil_of_length_eq_zero (hn.trans h0)]; rfl
      rw [this]; simp [sgn]
    · have : decide ((0 : Int) < (tl zs n : Nat)) = true := by simp; omega
      rw [this, Bool.and_true]

theorem Dig_nil (r : Int) : Dig r [] := by intro d hd; cases hd

/-- 'append(s, x)' of one value of one cell, s the call's own: the value x lies in a block that has just been laid. -/
theorem wpList_app1 {P : Program} {w : World} {ops : Array Oper} {rest : List Oper} {o : Oper} {a : Act} {Q : Exit → Act → World → Prop} (hgd : o.guard = none) (s x : Operand) (t : TypeId)
    (ho : o.op = .call { callee := .builtin .append, args := #[s, x], argTypes := #[t, t] })
    (base : Nat) (e : TypeId) (i : TypeInfo) (z : Value) (bytes : Nat) (ht : P.underlying t = some (.slice e)) (hi : P.info? e = some i) (hz : i.zero = some z)
    (hsize : i.size = 1) (hby : i.bytes = bytes) (hzs : z.cells.size = 1)
    (v : Value) (n : Nat) (xs : List Value) (u : Value) (hs : a.eval s = v) (hown : w.ownsRow base e 1 v n xs)
    (hx : a.eval x = .slice (some ⟨w.heap.size, 0, none⟩) 1 1) (h1 : u.oneCell' = true)
    (hn : n ≤ 1099511627776) (hb : bytes ≤ 64) (hbase : base ≤ w.heap.size)
    (h : ∀ ao c w', w'.ownsRow base e 1 (.slice ao (n + 1) c) (n + 1) (xs ++ [u]) → (w.alloc (.cells #[u] e)).grownBy w' v.ownBlock → wpList P ops Q rest (a.put o.dst (.slice ao (n + 1) c)) w') :
    wpList P ops Q (o :: rest) a (w.alloc (.cells #[u] e)) := by
  refine wpList_append_own _ hgd s x t ho base e i z 1 bytes ht hi hz hsize hby hzs (by decide) v n xs hs (hown.alloc _) ⟨w.heap.size, 0, none⟩ 1 1 [u] hx rfl ?_ ?_ (by unfold maxLen; omega) ?_ (by simp; omega) ?_
  · intro j v' hj
    match j, hj with
    | 0, hj =>
      simp at hj
      subst hj
      simp [Addr.add]
  · intro v' hv'
    simp at hv'
    subst hv'
    exact h1
  · have : (n + 1) * bytes ≤ (n + 1) * 64 := Nat.mul_le_mul_left _ hb
    omega
  · intro v' w' ho' hg' _
    obtain ⟨ao, c, rfl⟩ : ∃ ao c, v' = .slice ao (n + 1) c := by
      rcases ho'.2 with ⟨hv, h0⟩ | ⟨g, c, cur, hv, _⟩
      · omega
      · exact ⟨_, _, hv⟩
    exact h ao c w' ho' hg'

set_option maxRecDepth 100000 in
theorem rnew_any (w : World) (x : Int) (h0 : -9223372036854775808 ≤ x) (h1 : x ≤ 9223372036854775807) : Calls Tryz.prog 87 #[.int .i64 x] w (RetRef w x 4) := by
  obtain ⟨i0, hi, hz0, hz1, hz2⟩ := info_parts info_int
  obtain ⟨u, hu⟩ : ∃ u : Int, u = x.natAbs := ⟨_, rfl⟩
  have hs := sgn_abs x
  rw [← hu] at hs
  have hu0 : 0 ≤ u := by omega
  have hu1 : u < 18446744073709551616 := by omega
  have HS := Lib.hid hs
  clear hs
  have e0 : x < 0 → IntKind.u64.wrap (- IntKind.u64.wrap x) = u := fun hx => by rw [IntKind.wrap_u64, IntKind.wrap_u64]; omega
  have e1 : ¬ x < 0 → IntKind.u64.wrap x = u := fun hx => by rw [IntKind.wrap_u64]; omega
  clear hu
  by_cases hx : x < 0
  rotate_left
  have e2 := e1 hx
  rotate_left
  have e2 := e0 hx
  all_goals
    clear e0 e1
    go_enter Tryz.func87, Tryz.ntmps87
    go_wp2_with fail
    go_loopg [3, 4] u.toNat (fun gk uu d wr => ∃ (q : Int) (ds : List Int) (k : Nat), ∃ to tc, uu = .int .u64 q ∧ d = .slice to k tc ∧ gk = q.toNat ∧ 0 ≤ q ∧ k ≤ 4 ∧ q < 65536 ^ (4 - k) ∧
        OwnI (w.heap.size + 1) wr to k tc ds ∧ Dig 65536 ds ∧ dval 65536 ds + 65536 ^ k * q = u ∧ Below (w.heap.size + 1) (w.alloc (.cells #[.bool false, .slice none 0 0] 34)) wr)
    case atStart => exact ⟨u, [], 0, none, 0, rfl, rfl, rfl, hu0, by omega, by simpa using hu1, World.ownsRow_nil _ _ _ _, Dig_nil _, by simp [dval], Below.refl _ _⟩
    case round =>
      obtain ⟨q, ds, k, to, tc, rfl, rfl, hgk, hq0, hk, hqk, hown, hdig, hval, hbel⟩ := hrel
      have HO := Lib.hid hown
      have HV := Lib.hid hval
      have HG := Lib.hid hgk
      have HK := Lib.hid hqk
      have HDL : Hid (ds.length = k) := hown.sl.len
      have hsz : w.heap.size + 1 ≤ wr.heap.size := by have := hbel.size; simpa using this
      have HB := Lib.hid hbel
      clear hown hval hgk hqk hbel
      by_cases hq : 0 < q
      · have hk4 : k < 4 := by
          rcases (show k < 4 ∨ k = 4 by omega) with h | h
          · exact h
          · have := HK.out; rw [h] at this; simp at this; omega
        have hm0 : 0 ≤ q % 65536 := by omega
        have hqu : q ≤ 18446744073709551615 := by
          have h1 := HV.out
          have h2 := dval_nonneg (r := 65536) (by omega) hdig
          have h3 : (1 : Int) ≤ 65536 ^ k := by have := rpow_pos (r := 65536) (by omega) k; omega
          have h4 : 1 * q ≤ 65536 ^ k * q := Int.mul_le_mul_of_nonneg_right h3 hq0
          omega
        go_wp2_with (at_builtin; refine wpList_app1 rfl _ _ 32 rfl (w.heap.size + 1) 3 i0 (.int .i64 0) 8 Tryz.underlying32 hi hz0 hz1 hz2 rfl (.slice to k tc) k (ds.map (Value.int .i64)) (.int .i64 (q % 65536)) rfl HO.out rfl rfl (by omega) (by omega) hsz ?_)
        intro to2 tc2 w2 hown2 hgrow
        have hrow2 : OwnI (w.heap.size + 1) w2 to2 (k + 1) tc2 (ds ++ [q % 65536]) := by
          unfold OwnI
          rw [List.map_append]
          exact hown2
        have hb2 : Below (w.heap.size + 1) (w.alloc (.cells #[.bool false, .slice none 0 0] 34)) w2 := Below.grown (HB.out.alloc hsz _) hgrow (by simp; omega) (by intro g hg; exact (World.ownsRow.lt HO.out g hg).1)
        have HR2 := Lib.hid hrow2
        have HB2 := Lib.hid hb2
        clear hown2 hgrow hrow2 hb2
        go_wp2_with fail
        go_roundg (q / 65536).toNat
        case measure => have := HG.out; omega
        case rel =>
          have hdl := HDL.out
          have hst := dig_step (r := 65536) (q := q) (ds := ds) (S := u) (by rw [hdl]; exact HV.out)
          rw [List.length_append, hdl] at hst
          refine ⟨q / 65536, ds ++ [q % 65536], k + 1, to2, tc2, rfl, rfl, rfl, by omega, by omega, ?_, HR2.out, Dig_snoc hdig hm0 (by omega), hst, HB2.out⟩
          have h5 := HK.out
          rw [show 4 - k = (4 - (k + 1)) + 1 by omega, Int.pow_succ] at h5
          exact Int.ediv_lt_of_lt_mul (by omega) h5
      · have hq00 : q = 0 := by omega
        have hv : dval 65536 ds = u := by have := HV.out; rw [hq00] at this; simpa using this
        have HV2 := Lib.hid hv
        clear hv
        go_wp2_with fail
        refine (made_int wr _ _ _ _ ds HO.out.sl hdig rfl).mono ?_
        rintro e w2 ⟨neg', ao', n', cap', zs', rfl, hint, hn', hb3⟩
        have hr2 : w2.heap[w.heap.size]? = some (.cells #[.bool false, .slice none 0 0] 34 (0, 0)) := (hb3.block _ (by omega)).trans ((HB.out.block _ (by omega)).trans (heap_alloc_new w _))
        obtain ⟨c0, c1, f0, f1⟩ := blk2 hr2
        have HI := Lib.hid (hint.stored hr2 (.bool neg') (.slice ao' n' cap'))
        clear hint hr2
        have hb4 : Below w.heap.size w w2 := (((Below.refl _ _).alloc (Nat.le_refl _) _).trans (HB.out.mono (by omega))).trans (hb3.mono (by omega))
        go_wp2
        refine bodyPost_ret (v := .agg #[.bool neg', .slice ao' n' cap']) (by simp [results, Tryz.results87, go_sem, c0, c1]) rfl ?_
        exact fin_ref (Nat.le_refl _) hb4 HI.out (by have := HS.out; rw [HV2.out]; simpa [hx] using this) (Nat.le_trans hn' hk)

theorem limb_pair {ds : List Int} {out : List Int} {k : Nat} (hl : out.length = k) (h : val out = dval 65536 (ds.take (2 * k))) :
    val (out ++ [ds.getD (2 * k) 0 + ds.getD (2 * k + 1) 0 * 65536]) = dval 65536 (ds.take (2 * (k + 1))) := by
  rw [val_snoc, hl, show 2 * (k + 1) = 2 * k + 1 + 1 by omega, dval_take_succ, dval_take_succ, h, Int.pow_succ]
  have : (4294967296 : Int) ^ k = 65536 ^ (2 * k) := by rw [Int.pow_mul]; rfl
  rw [this]
  grind

theorem CellsI.at {w : World} {ao : Option Addr} {zs : List Int} (h : CellsI w ao zs) {k : Nat} (hk : k < zs.length) : ∃ b o, ao = some ⟨b, o, none⟩ ∧ w.cell? ⟨b, o + k, none⟩ = some (.int .i64 (zs.getD k 0)) := by
  rcases h with h | ⟨b, o, h1, h2⟩
  · rw [h] at hk; simp at hk
  · exact ⟨b, o, h1, h2 k hk⟩

theorem Dig_getD {r : Int} (hr : 0 < r) {ds : List Int} (h : Dig r ds) (k : Nat) : 0 ≤ ds.getD k 0 ∧ ds.getD k 0 < r := by
  by_cases hk : k < ds.length
  · rw [getD_lt hk]; exact h _ (List.getElem_mem hk)
  · rw [getD_ge (by omega)]; omega

set_option maxRecDepth 100000 in
theorem rlimbs_any (w : World) (neg : Bool) (ao : Option Addr) (n cap : Nat) (ds : List Int) (x : Int) (h : RefAt w neg ao n cap ds x) (hn : n ≤ 4294967296) :
    Calls Tryz.prog 101 #[.agg #[.bool neg, .slice ao n cap]] w (RetNat w (dval 65536 ds) (n + 1)) := by
  obtain ⟨i0, hi, hz0, hz1, hz2⟩ := info_parts info_u32
  have HL := Lib.hid h.sl.len
  have HC := Lib.hid h.sl.cells
  have HD := Lib.hid h.lim
  have HT := Lib.hid h.top
  clear h
  go_enter Tryz.func101, Tryz.ntmps101
  go_wp2_with fail
  go_loopw [3, 4] (fun o i wr => ∃ (k : Nat) (out : List Int), ∃ to tc, i = .int .i64 (2 * (k : Int)) ∧ 2 * k ≤ n + 1 ∧ o = .slice to k tc ∧ Own (w.heap.size + 1) wr to k tc out ∧ Lim out ∧ val out = dval 65536 (ds.take (2 * k)) ∧ (0 < k → out.getD (k - 1) 0 = ds.getD (2 * (k - 1)) 0 + ds.getD (2 * (k - 1) + 1) 0 * 65536) ∧
      Below (w.heap.size + 1) (w.alloc (.cells #[.bool neg, .slice ao n cap] 34)) wr) (fun _ i _ => n + 2 - (intOf i).toNat)
  case atStart => exact ⟨0, [], none, 0, rfl, by omega, rfl, World.ownsRow_nil _ _ _ _, Lim_nil, by simp [val, dval], by omega, Below.refl _ _⟩
  case round =>
    obtain ⟨k, out, to, tc, rfl, hk, rfl, hown, hlim, hval, hlast, hbel⟩ := hrel
    have HO := Lib.hid hown
    have HV := Lib.hid hval
    have HLA := Lib.hid hlast
    have hbk : wr.heap[w.heap.size]? = some (.cells #[.bool neg, .slice ao n cap] 34 (0, 0)) := (hbel.block _ (by omega)).trans (heap_alloc_new w _)
    obtain ⟨c0, c1, _, _⟩ := blk2 hbk
    have hb0 : Below w.heap.size w wr := ((Below.refl _ _).alloc (Nat.le_refl _) _).trans (hbel.mono (by omega))
    have hsz : w.heap.size + 1 ≤ wr.heap.size := by have := hbel.size; simpa using this
    have HB := Lib.hid hbel
    have HBK := Lib.hid hbk
    clear hown hval hlast hbel hbk
    by_cases h1 : 2 * k < n
    · obtain ⟨d, hd⟩ : ∃ d, ds.getD (2 * k) 0 = d := ⟨_, rfl⟩
      obtain ⟨e, he⟩ : ∃ e, ds.getD (2 * k + 1) 0 = e := ⟨_, rfl⟩
      have hd1 := Dig_getD (by omega) HD.out (2 * k)
      have he1 := Dig_getD (by omega) HD.out (2 * k + 1)
      obtain ⟨b, o, rfl, hcd⟩ := (HC.out.below hb0).at (k := 2 * k) (by rw [HL.out]; exact h1)
      rw [hd] at hd1 hcd
      rw [he] at he1
      obtain ⟨hd0, hd1⟩ := hd1
      obtain ⟨he0, he1⟩ := he1
      have HDD := Lib.hid hd
      have HEE := Lib.hid he
      clear hd he
      have hkn : 2 * (k : Int) < n := by omega
      have hk0 : (0 : Int) ≤ 2 * k := by omega
      by_cases h2 : 2 * k + 1 < n
      · obtain ⟨b', o', hbo, hce⟩ := (HC.out.below hb0).at (k := 2 * k + 1) (by rw [HL.out]; exact h2)
        obtain ⟨rfl, rfl⟩ : b = b' ∧ o = o' := by simpa using hbo
        rw [HEE.out] at hce
        go_wp2_with (at_builtin; refine wpList_app1 rfl _ _ 22 rfl (w.heap.size + 1) 138 i0 (.int .u32 0) 4 Tryz.underlying22 hi hz0 hz1 hz2 rfl (.slice to k tc) k (out.map (Value.int .u32)) (.int .u32 (d + e * 65536)) rfl HO.out rfl rfl (by omega) (by omega) hsz ?_)
        intro to2 tc2 w2 hown2 hgrow
        have hrow2 : Own (w.heap.size + 1) w2 to2 (k + 1) tc2 (out ++ [d + e * 65536]) := by
          unfold Own
          rw [List.map_append]
          exact hown2
        have hb2 : Below (w.heap.size + 1) (w.alloc (.cells #[.bool neg, .slice (some ⟨b, o, none⟩) n cap] 34)) w2 := Below.grown (HB.out.alloc hsz _) hgrow (by simp; omega) (by intro g hg; exact (World.ownsRow.lt HO.out g hg).1)
        have HR2 := Lib.hid hrow2
        have HB2 := Lib.hid hb2
        clear hown2 hgrow hrow2 hb2
        go_wp2_with fail
        go_roundw
        case rel =>
          have hol : out.length = k := HO.out.sl.len
          have hst := limb_pair hol HV.out
          rw [HDD.out, HEE.out] at hst
          refine ⟨k + 1, out ++ [d + e * 65536], to2, tc2, by go_num, by omega, rfl, HR2.out, Lim_snoc hlim (by omega) (by omega), ?_, ?_, HB2.out⟩
          · exact hst
          · intro _
            rw [show k + 1 - 1 = k by omega, HDD.out, HEE.out, getD_lt (by rw [List.length_append, hol]; simp), List.getElem_append_right (by omega)]
            simp [hol]
        case measure => simp [intOf]; omega
      · have he00 : e = 0 := by rw [← HEE.out]; exact getD_ge (by rw [HL.out]; omega)
        subst he00
        go_wp2_with (at_builtin; refine wpList_app1 rfl _ _ 22 rfl (w.heap.size + 1) 138 i0 (.int .u32 0) 4 Tryz.underlying22 hi hz0 hz1 hz2 rfl (.slice to k tc) k (out.map (Value.int .u32)) (.int .u32 d) rfl HO.out rfl rfl (by omega) (by omega) hsz ?_)
        intro to2 tc2 w2 hown2 hgrow
        have hrow2 : Own (w.heap.size + 1) w2 to2 (k + 1) tc2 (out ++ [d]) := by
          unfold Own
          rw [List.map_append]
          exact hown2
        have hb2 : Below (w.heap.size + 1) (w.alloc (.cells #[.bool neg, .slice (some ⟨b, o, none⟩) n cap] 34)) w2 := Below.grown (HB.out.alloc hsz _) hgrow (by simp; omega) (by intro g hg; exact (World.ownsRow.lt HO.out g hg).1)
        have HR2 := Lib.hid hrow2
        have HB2 := Lib.hid hb2
        clear hown2 hgrow hrow2 hb2
        go_wp2_with fail
        go_roundw
        case rel =>
          have hol : out.length = k := HO.out.sl.len
          have hst := limb_pair hol HV.out
          rw [HDD.out, HEE.out] at hst
          refine ⟨k + 1, out ++ [d], to2, tc2, by go_num, by omega, rfl, HR2.out, Lim_snoc hlim (by omega) (by omega), ?_, ?_, HB2.out⟩
          · simpa using hst
          · intro _
            rw [show k + 1 - 1 = k by omega, HDD.out, HEE.out, getD_lt (by rw [List.length_append, hol]; simp), List.getElem_append_right (by omega)]
            simp [hol]
        case measure => simp [intOf]; omega
    · have hv : val out = dval 65536 ds := by have := HV.out; rwa [List.take_of_length_le (by rw [HL.out]; omega)] at this
      have hol : out.length = k := HO.out.sl.len
      have htop : Top out := by
        by_cases hk0 : k = 0
        · left; exact List.eq_nil_of_length_eq_zero (by omega)
        · right
          rw [hol, HLA.out (by omega)]
          have hne : ds ≠ [] := by intro h; have := HL.out; rw [h] at this; simp at this; omega
          have h3 : ds.getD (ds.length - 1) 0 ≠ 0 := by
            rcases HT.out with h | h
            · exact absurd h hne
            · exact h
          rw [HL.out] at h3
          have h4 := Dig_getD (by omega) HD.out (2 * (k - 1))
          have h5 := Dig_getD (by omega) HD.out (2 * (k - 1) + 1)
          rcases (show n - 1 = 2 * (k - 1) ∨ n - 1 = 2 * (k - 1) + 1 by omega) with h6 | h6
          · rw [h6] at h3; omega
          · rw [h6] at h3; omega
      have HVV := Lib.hid hv
      have HTT := Lib.hid htop
      clear hv htop hol
      have hkn : (n : Int) ≤ 2 * (k : Int) := by omega
      go_wp2_with fail
      go_ret
      exact ⟨to, k, tc, out, rfl, HO.out.mono (by omega), hlim, HTT.out, HVV.out, by omega, hb0⟩
end Go.Proofs.YtdfepdhflnnjpaaGreat
