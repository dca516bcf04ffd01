/- Contracts of the functions on limbs that need no loop but trim's: trim, limb, wrap, clone. -/
import Derived.Test.YtpakfknacmcohaaProg
import Derived.WalkKit
import Derived.WalkSpells
import Derived.Outline
import Derived.Deep.LoopGhost
import Derived.Handy
import Derived.Lib.Hide
import Derived.Test.YtpakfknacmcohaaMath
namespace Go.Proofs.Ytpakfknacmcohaa
open Go.RowKit
set_option autoImplicit false

/-- At the slice's address lie these limbs. -/
def Cells (w : World) (ao : Option Addr) (zs : List Int) : Prop :=
  zs = [] ∨ ∃ b o, ao = some ⟨b, o, none⟩ ∧ ∀ i, i < zs.length → w.cell? ⟨b, o + i, none⟩ = some (.int .u32 (zs.getD i 0))

/-- A slice value of limbs, as any function may be handed it. -/
structure Sl (w : World) (ao : Option Addr) (n cap : Nat) (zs : List Int) : Prop where
  len : zs.length = n
  le : n ≤ cap
  most : cap ≤ maxLen
  nil : ao = none → cap = 0
  cells : Cells w ao zs

/-- The limbs lie in a row from block B on. -/
def Own (B : Nat) (w : World) (ao : Option Addr) (n cap : Nat) (zs : List Int) : Prop :=
  w.ownsRow B 99 1 (.slice ao n cap) n (zs.map (Value.int .u32))

theorem ret_slice {a : Option Addr} {n m c : Nat} (h : n = m) : Ending.returned (.slice a n c) = .returned (.slice a m c) := by rw [h]
theorem ret_int {k : IntKind} {a b : Int} (h : a = b) : Ending.returned (.int k a) = .returned (.int k b) := by rw [h]

theorem Cells.below {w w' : World} {ao : Option Addr} {zs : List Int} (h : Cells w ao zs) (hb : Below w.heap.size w w') : Cells w' ao zs := by
  rcases h with h | ⟨b, o, h1, h2⟩
  · exact .inl h
  · refine .inr ⟨b, o, h1, fun i hi => ?_⟩
    have := h2 i hi
    rw [hb.cell (World.block_lt_of_cell? w _ this)]
    exact this

theorem Cells.take {w : World} {ao : Option Addr} {zs : List Int} (h : Cells w ao zs) (n : Nat) : Cells w ao (zs.take n) := by
  rcases h with h | ⟨b, o, h1, h2⟩
  · exact .inl (by rw [h]; simp)
  · refine .inr ⟨b, o, h1, fun i hi => ?_⟩
    rw [List.length_take] at hi
    rw [h2 i (by omega)]
    have : (zs.take n).getD i 0 = zs.getD i 0 := by simp [List.getD, show i < n by omega]
    rw [this]

theorem Sl.below {w w' : World} {ao : Option Addr} {n cap : Nat} {zs : List Int} (h : Sl w ao n cap zs) (hb : Below w.heap.size w w') : Sl w' ao n cap zs :=
  ⟨h.len, h.le, h.most, h.nil, h.cells.below hb⟩

theorem Own.sl {B : Nat} {w : World} {ao : Option Addr} {n cap : Nat} {zs : List Int} (h : Own B w ao n cap zs) : Sl w ao n cap zs := by
  have h1 := h.1
  simp only [List.length_map, Nat.mul_one] at h1
  rcases h.2 with ⟨hv, hn⟩ | ⟨g, c, cur, hv, hb, hg, hnc, hcm, hcs, htake⟩
  · simp only [Value.slice.injEq] at hv
    obtain ⟨rfl, rfl, rfl⟩ := hv
    exact ⟨h1, Nat.le_refl _, Nat.zero_le _, fun _ => rfl, .inl (List.eq_nil_of_length_eq_zero h1)⟩
  · simp only [Value.slice.injEq] at hv
    obtain ⟨rfl, _, rfl⟩ := hv
    refine ⟨h1, hnc, hcm, (fun hno => nomatch hno), .inr ⟨g, 0, rfl, fun i hi => ?_⟩⟩
    have := World.ownsRow.cellAt h i (by omega)
    rw [Nat.zero_add, this, List.getElem?_map, List.getElem?_eq_getElem hi, getD_lt hi]
    rfl

theorem info_u32 : (Try.prog.info? 99).map (fun i => (i.zero, i.size, i.bytes)) = some (some (.int .u32 0), 1, 4) := by kernel_rfl

theorem trim_any (w : World) (ao : Option Addr) (n cap : Nat) (zs : List Int) (hz : zs.length = n) (hn : n ≤ cap) (hc : cap ≤ maxLen) (h : Cells w ao zs) :
    Calls Try.prog 118 #[.slice ao n cap] w fun e w' => e = .returned (.slice ao (tl zs n) cap) ∧ w = w' := by
  unfold maxLen at hc
  rcases h with rfl | ⟨b, o, rfl, hcell⟩
  · subst hz
    go_enter Try.func118, Try.ntmps118
    go_wp2
    refine wp_loop_rounds 1 ?_; rw [rounds_succ]
    go_wp2
    go_ret
    exact ⟨rfl, rfl⟩
  · have HC := Lib.hid hcell
    clear hcell
    have hz' : n ≤ zs.length := by omega
    clear hz
    go_enter Try.func118, Try.ntmps118
    go_wp2
    go_loop [3] (fun v => ∃ k : Nat, k ≤ n ∧ v = .int .i64 k ∧ tl zs n = tl zs k) (fun v => (intOf v).toNat)
    case atStart => exact ⟨n, Nat.le_refl _, rfl, rfl⟩
    case round =>
      obtain ⟨k, hk, rfl, he⟩ := hrel
      have HE := Lib.hid he
      clear he
      by_cases hk0 : k = 0
      · subst hk0
        go_wp2
        go_ret
        exact ⟨by rw [HE.out]; rfl, rfl⟩
      · obtain ⟨j, rfl⟩ : ∃ j, k = j + 1 := ⟨k - 1, by omega⟩
        have hcj : w.cell? ⟨b, o + j, none⟩ = some (.int .u32 (zs.getD j 0)) := HC.out j (by omega)
        have ht : tl zs (j + 1) = if zs.getD j 0 = 0 then tl zs j else j + 1 := rfl
        generalize zs.getD j 0 = z at hcj ht
        have HT := Lib.hid ht
        clear ht
        by_cases hzero : z = 0
        · have hb : (z == 0) = true := by simpa using hzero
          go_wp2
          go_round
          case rel => exact ⟨j, by omega, by go_num, by rw [HE.out, HT.out, if_pos hzero]⟩
          case measure => simp [intOf]
        · have hb : (z == 0) = false := by simpa using hzero
          go_wp2
          go_ret
          exact ⟨ret_slice (by rw [HE.out, HT.out, if_neg hzero]), rfl⟩

theorem limb_any (w : World) (ao : Option Addr) (n cap : Nat) (zs : List Int) (i : Int) (hz : zs.length = n) (h : Cells w ao zs) (hi : 0 ≤ i) :
    Calls Try.prog 111 #[.slice ao n cap, .int .i64 i] w fun e w' => e = .returned (.int .u32 (zs.getD i.toNat 0)) ∧ w = w' := by
  by_cases hlt : (n : Int) ≤ i
  · go_enter Try.func111, Try.ntmps111
    go_wp2
    go_ret
    exact ⟨by rw [getD_ge (by omega)]; rfl, rfl⟩
  · rcases h with rfl | ⟨b, o, rfl, hcell⟩
    · simp at hz; omega
    · have hc := hcell i.toNat (by omega)
      clear hcell
      obtain ⟨j, rfl⟩ := Int.eq_ofNat_of_zero_le hi
      simp only [Int.toNat_natCast] at hc ⊢
      generalize zs.getD j 0 = z at hc ⊢
      clear hz
      go_enter Try.func111, Try.ntmps111
      go_wp2
      go_ret
      exact ⟨rfl, rfl⟩

theorem clone_any (w : World) (ao : Option Addr) (n cap : Nat) (zs : List Int) (h : Sl w ao n cap zs) (hn : n ≤ 34359738368) :
    Calls Try.prog 85 #[.slice ao n cap] w fun e w' => ∃ ao' cap', e = .returned (.slice ao' n cap') ∧ Own w.heap.size w' ao' n cap' zs ∧ Below w.heap.size w w' := by
  obtain ⟨hlen, hle, hmost, hnil, hcells⟩ := h
  obtain ⟨i0, hi, hz0, hz1, hz2⟩ := info_parts info_u32
  cases ao with
  | none =>
    obtain rfl := hnil rfl
    obtain rfl : n = 0 := by omega
    obtain rfl := List.eq_nil_of_length_eq_zero hlen
    have hown := World.ownsRow_nil w w.heap.size 99 1
    go_enter Try.func85, Try.ntmps85
    go_wp2
    go_ret
    exact ⟨_, _, rfl, hown, Below.refl _ _⟩
  | some ad =>
    have hnews : ∀ j u, (zs.map (Value.int .u32))[j]? = some u → w.cell? (ad.add j) = some u := by
      intro j u hj
      rw [List.getElem?_map] at hj
      obtain ⟨z, hz, rfl⟩ := Option.map_eq_some_iff.1 hj
      obtain ⟨hjl, rfl⟩ := List.getElem?_eq_some_iff.1 hz
      rcases hcells with rfl | ⟨b, o, hao, hc⟩
      · simp at hjl
      · cases hao
        have := hc j hjl
        rw [getD_lt hjl] at this
        rw [Addr.add_lit]
        exact this
    have HN := Lib.hid hnews
    clear hnews hcells
    have HL := Lib.hid hlen
    clear hlen
    go_enter Try.func85, Try.ntmps85
    go_wp2_with (at_builtin; refine wpList_append_own _ rfl _ _ 22 rfl w.heap.size 99 i0 (.int .u32 0) 1 4 Try.underlying22 hi hz0 hz1 hz2 rfl (by decide) _ _ _ rfl (World.ownsRow_nil _ _ _ _) ad n cap (zs.map (Value.int .u32)) rfl ?c1 ?c2 ?c3 ?c4 ?c5 ?c6 ?_)
    case c1 => rw [List.length_map, HL.out]; omega
    case c2 => exact HN.out
    case c3 => exact ints_oneCell _ _
    case c4 => unfold maxLen; omega
    case c5 => omega
    case c6 => exact Nat.le_refl _
    intro v' w1 hown hgrow _
    have hb : Below w.heap.size w w1 := (Below.refl _ _).grown hgrow (Nat.le_refl _) (by intro k hk; simp [Value.ownBlock] at hk)
    obtain ⟨ao', cap', rfl⟩ : ∃ ao' cap', v' = .slice ao' n cap' := by
      rcases hown.2 with ⟨hv, h0⟩ | ⟨g, c, cur, hv, _⟩
      · exact ⟨none, 0, by rw [hv, h0]⟩
      · exact ⟨_, _, hv⟩
    go_wp2
    go_ret
    exact ⟨_, _, rfl, hown, hb⟩
end Go.Proofs.Ytpakfknacmcohaa
