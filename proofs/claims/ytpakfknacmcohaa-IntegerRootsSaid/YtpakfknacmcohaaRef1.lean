/- The reference's integers: digits to the base 65536 in slices of int; trimmed, made. -/
import Derived.Test.YtpakfknacmcohaaNat5
import Derived.Test.YtpakfknacmcohaaTextMath
namespace Go.Proofs.Ytpakfknacmcohaa
open Go.RowKit
set_option autoImplicit false
set_option linter.unusedVariables false

/-- At the slice's address lie these limbs. -/
def CellsI (w : World) (ao : Option Addr) (zs : List Int) : Prop :=
  zs = [] ∨ ∃ b o, ao = some ⟨b, o, none⟩ ∧ ∀ i, i < zs.length → w.cell? ⟨b, o + i, none⟩ = some (.int .i64 (zs.getD i 0))

/-- A slice value of limbs, as any function may be handed it. -/
structure SlI (w : World) (ao : Option Addr) (n cap : Nat) (zs : List Int) : Prop where
  len : zs.length = n
  le : n ≤ cap
  most : cap ≤ maxLen
  nil : ao = none → cap = 0
  cells : CellsI w ao zs

/-- The limbs lie in a row from block B on. -/
def OwnI (B : Nat) (w : World) (ao : Option Addr) (n cap : Nat) (zs : List Int) : Prop :=
  w.ownsRow B 3 1 (.slice ao n cap) n (zs.map (Value.int .i64))

theorem CellsI.below {w w' : World} {ao : Option Addr} {zs : List Int} (h : CellsI w ao zs) (hb : Below w.heap.size w w') : CellsI w' ao zs := by
  rcases h with h | ⟨b, o, h1, h2⟩
  · exact .inl h
  · refine .inr ⟨b, o, h1, fun i hi => ?_⟩
    have := h2 i hi
    rw [hb.cell (World.block_lt_of_cell? w _ this)]
    exact this

theorem CellsI.take {w : World} {ao : Option Addr} {zs : List Int} (h : CellsI w ao zs) (n : Nat) : CellsI w ao (zs.take n) := by
  rcases h with h | ⟨b, o, h1, h2⟩
  · exact .inl (by rw [h]; simp)
  · refine .inr ⟨b, o, h1, fun i hi => ?_⟩
    rw [List.length_take] at hi
    rw [h2 i (by omega)]
    have : (zs.take n).getD i 0 = zs.getD i 0 := by simp [List.getD, show i < n by omega]
    rw [this]

theorem SlI.below {w w' : World} {ao : Option Addr} {n cap : Nat} {zs : List Int} (h : SlI w ao n cap zs) (hb : Below w.heap.size w w') : SlI w' ao n cap zs :=
  ⟨h.len, h.le, h.most, h.nil, h.cells.below hb⟩

theorem OwnI.sl {B : Nat} {w : World} {ao : Option Addr} {n cap : Nat} {zs : List Int} (h : OwnI B w ao n cap zs) : SlI w ao n cap zs := by
  have h1 := h.1
  simp only [List.length_map, Nat.mul_one] at h1
  rcases h.2 with ⟨hv, hn⟩ | ⟨g, c, cur, hv, hb, hg, hnc, hcm, hcs, htake⟩
  · simp only [Value.slice.injEq] at hv
    obtain ⟨rfl, rfl, rfl⟩ := hv
    exact ⟨h1, Nat.le_refl _, Nat.zero_le _, fun _ => rfl, .inl (List.eq_nil_of_length_eq_zero h1)⟩
  · simp only [Value.slice.injEq] at hv
    obtain ⟨rfl, _, rfl⟩ := hv
    refine ⟨h1, hnc, hcm, (fun hno => nomatch hno), .inr ⟨g, 0, rfl, fun i hi => ?_⟩⟩
    have := World.ownsRow.cellAt h i (by omega)
    rw [Nat.zero_add, this, List.getElem?_map, List.getElem?_eq_getElem hi, getD_lt hi]
    rfl

theorem info_int : (Try.prog.info? 3).map (fun i => (i.zero, i.size, i.bytes)) = some (some (.int .i64 0), 1, 8) := by kernel_rfl

theorem rtrim_any (w : World) (ao : Option Addr) (n cap : Nat) (zs : List Int) (hz : zs.length = n) (hn : n ≤ cap) (hc : cap ≤ maxLen) (h : CellsI w ao zs) :
    Calls Try.prog 114 #[.slice ao n cap] w fun e w' => e = .returned (.slice ao (tl zs n) cap) ∧ w = w' := by
  unfold maxLen at hc
  rcases h with rfl | ⟨b, o, rfl, hcell⟩
  · subst hz
    go_enter Try.func114, Try.ntmps114
    go_wp2
    refine wp_loop_rounds 1 ?_; rw [rounds_succ]
    go_wp2
    go_ret
    exact ⟨rfl, rfl⟩
  · have HC := Lib.hid hcell
    clear hcell
    have hz' : n ≤ zs.length := by omega
    clear hz
    go_enter Try.func114, Try.ntmps114
    go_wp2
    go_loop [3] (fun v => ∃ k : Nat, k ≤ n ∧ v = .int .i64 k ∧ tl zs n = tl zs k) (fun v => (intOf v).toNat)
    case atStart => exact ⟨n, Nat.le_refl _, rfl, rfl⟩
    case round =>
      obtain ⟨k, hk, rfl, he⟩ := hrel
      have HE := Lib.hid he
      clear he
      by_cases hk0 : k = 0
      · subst hk0
        go_wp2
        go_ret
        exact ⟨by rw [HE.out]; rfl, rfl⟩
      · obtain ⟨j, rfl⟩ : ∃ j, k = j + 1 := ⟨k - 1, by omega⟩
        have hcj : w.cell? ⟨b, o + j, none⟩ = some (.int .i64 (zs.getD j 0)) := HC.out j (by omega)
        have ht : tl zs (j + 1) = if zs.getD j 0 = 0 then tl zs j else j + 1 := rfl
        generalize zs.getD j 0 = z at hcj ht
        have HT := Lib.hid ht
        clear ht
        by_cases hzero : z = 0
        · have hb : (z == 0) = true := by simpa using hzero
          go_wp2
          go_round
          case rel => exact ⟨j, by omega, by go_num, by rw [HE.out, HT.out, if_pos hzero]⟩
          case measure => simp [intOf]
        · have hb : (z == 0) = false := by simpa using hzero
          go_wp2
          go_ret
          exact ⟨ret_slice (by rw [HE.out, HT.out, if_neg hzero]), rfl⟩


theorem tl_dval (r : Int) (zs : List Int) (n : Nat) : dval r (zs.take (tl zs n)) = dval r (zs.take n) := by
  induction n with
  | zero => simp [tl]
  | succ n ih =>
    unfold tl; split
    · rw [ih, dval_take_succ, ‹zs.getD n 0 = 0›]; omega
    · rfl
theorem trm_dval (r : Int) (zs : List Int) : dval r (trm zs) = dval r zs := by rw [trm, tl_dval, List.take_length]
theorem trm_dig {r : Int} {zs : List Int} (h : Dig r zs) : Dig r (trm zs) := Dig_take h _

/-- The sign and the slice hold the reference's integer x. -/
structure RefAt (w : World) (neg : Bool) (ao : Option Addr) (n cap : Nat) (zs : List Int) (x : Int) : Prop where
  sl : SlI w ao n cap zs
  lim : Dig 65536 zs
  top : Top zs
  sign : neg = true → zs ≠ []
  val : x = sgn neg (dval 65536 zs)

theorem RefAt.below {w w' : World} {neg : Bool} {ao : Option Addr} {n cap : Nat} {zs : List Int} {x : Int} (h : RefAt w neg ao n cap zs x) (hb : Below w.heap.size w w') : RefAt w' neg ao n cap zs x :=
  ⟨h.sl.below hb, h.lim, h.top, h.sign, h.val⟩
theorem CellsI.setCell {w : World} {ao : Option Addr} {zs : List Int} (h : CellsI w ao zs) {p : Addr} (u : Value) (hp : ∀ z, w.cell? p ≠ some (.int .i64 z)) : CellsI (w.setCell p u) ao zs := by
  rcases h with h | ⟨b, o, h1, h2⟩
  · exact .inl h
  · refine .inr ⟨b, o, h1, fun i hi => ?_⟩
    have h3 := h2 i hi
    rw [World.cell?_setCell_other]
    · exact h3
    · intro e; rw [e] at hp; exact hp _ h3
theorem RefAt.setCell {w : World} {neg : Bool} {ao : Option Addr} {n cap : Nat} {zs : List Int} {x : Int} (h : RefAt w neg ao n cap zs x) {p : Addr} (u : Value) (hp : ∀ z, w.cell? p ≠ some (.int .i64 z)) : RefAt (w.setCell p u) neg ao n cap zs x :=
  ⟨⟨h.sl.len, h.sl.le, h.sl.most, h.sl.nil, h.sl.cells.setCell u hp⟩, h.lim, h.top, h.sign, h.val⟩
theorem blk2R {w : World} {B : Nat} {a b : Value} (h : w.heap[B]? = some (.cells #[a, b] 31 (0, 0))) :
    w.cell? ⟨B, 0, none⟩ = some a ∧ w.cell? ⟨B, 1, none⟩ = some b ∧ w.frozen? ⟨B, 0, none⟩ = false ∧ w.frozen? ⟨B, 1, none⟩ = false := blk2 h
theorem RefAt.stored {w : World} {neg : Bool} {ao : Option Addr} {n cap : Nat} {zs : List Int} {x : Int} (h : RefAt w neg ao n cap zs x) {B : Nat} {a : Bool} {b : Option Addr} {c d : Nat} (hb : w.heap[B]? = some (.cells #[.bool a, .slice b c d] 31 (0, 0))) (u v : Value) :
    RefAt ((w.setCell ⟨B, 0, none⟩ u).setCell ⟨B, 1, none⟩ v) neg ao n cap zs x := by
  obtain ⟨h0, h1, _, _⟩ := blk2 hb
  refine (h.setCell u ?_).setCell v ?_
  · rw [h0]; simp
  · intro z; rw [World.cell?_setCell_other _ _ _ _ (by simp), h1]; simp

/-- An integer of the reference was returned: the value x, in at most L digits. -/
def RetRef (w : World) (x : Int) (L : Nat) (e : Ending) (w' : World) : Prop :=
  ∃ neg ao n cap zs, e = .returned (.agg #[.bool neg, .slice ao n cap]) ∧ RefAt w' neg ao n cap zs x ∧ n ≤ L ∧ Below w.heap.size w w'
theorem fin_ref {w w2 : World} {B : Nat} {neg : Bool} {ao : Option Addr} {n cap : Nat} {zs : List Int} {x0 x : Int} {L : Nat} (hB : w.heap.size ≤ B) (hb : Below w.heap.size w w2)
    (h : RefAt ((w2.setCell ⟨B, 0, none⟩ (.bool neg)).setCell ⟨B, 1, none⟩ (.slice ao n cap)) neg ao n cap zs x0) (hx : x0 = x) (hn : n ≤ L) :
    RetRef w x L (.returned (.agg #[.bool neg, .slice ao n cap])) ((w2.setCell ⟨B, 0, none⟩ (.bool neg)).setCell ⟨B, 1, none⟩ (.slice ao n cap)) :=
  ⟨_, _, _, _, _, rfl, hx ▸ h, hn, (hb.setCell (p := ⟨B, 0, none⟩) hB _).setCell (p := ⟨B, 1, none⟩) hB _⟩
theorem made_any (w : World) (neg : Bool) (ao : Option Addr) (n cap : Nat) (zs : List Int) (h : SlI w ao n cap zs) :
    Calls Try.prog 72 #[.bool neg, .slice ao n cap] w fun e w' => e = .returned (.agg #[.bool (neg && decide ((0 : Int) < (tl zs n : Nat))), .slice ao (tl zs n) cap]) ∧ Below w.heap.size w w' := by
  have htl := tl_le zs n
  have hle := h.le
  have hmost := h.most
  have ht : ∀ w1, Below w.heap.size w w1 → Calls Try.prog 114 #[.slice ao n cap] w1 fun e w' => e = .returned (.slice ao (tl zs n) cap) ∧ w1 = w' :=
    fun w1 hb => rtrim_any w1 ao n cap zs h.len h.le h.most (h.cells.below hb)
  have HT := Lib.hid ht
  clear ht h
  unfold maxLen at hmost
  cases neg
  all_goals
    go_enter Try.func72, Try.ntmps72
    go_wp2_with fail
    refine (HT.out _ (by go_grown)).mono ?_
    rintro e w' ⟨rfl, rfl⟩
    go_wp2
    go_returns
    exact ⟨by simp, by go_grown⟩

theorem made_int (w : World) (neg : Bool) (ao : Option Addr) (n cap : Nat) (zs : List Int) (h : SlI w ao n cap zs) (hl : Dig 65536 zs) {x : Int} (hx : x = sgn neg (dval 65536 zs)) :
    Calls Try.prog 72 #[.bool neg, .slice ao n cap] w (RetRef w x n) := by
  refine (made_any w neg ao n cap zs h).mono ?_
  rintro e w' ⟨rfl, hb⟩
  have hle := tl_le zs n
  have hlen := h.len
  have hv : dval 65536 (trm zs) = dval 65536 zs := trm_dval 65536 zs
  have hn : (trm zs).length = tl zs n := by rw [trm_length, hlen]
  have hs := h.below hb
  refine ⟨_, _, _, _, trm zs, rfl, ⟨⟨hn, Nat.le_trans hle h.le, h.most, h.nil, ?_⟩, trm_dig hl, trm_top zs, ?_, ?_⟩, hle, hb⟩
  · exact hs.cells.take _
  · intro hneg hnil
    rw [hnil] at hn
    simp at hneg hn
    omega
  · rw [hx, hv]
    by_cases h0 : tl zs n = 0
    · have : dval 65536 zs = 0 := by rw [← hv, List.eq_nil_of_length_eq_zero (hn.trans h0)]; rfl
      rw [this]; simp [sgn]
    · have : decide ((0 : Int) < (tl zs n : Nat)) = true := by simp; omega
      rw [this, Bool.and_true]

end Go.Proofs.Ytpakfknacmcohaa
