/- One fraction handed in; equality; powers. -/
import Derived.Test.YtdfepdhflnnjpaaGreatQR3
import Derived.Test.YtdfepdhflnnjpaaGreatQ11
import Derived.Deep.AppendLies
import Derived.OwnWalk
namespace Go.Proofs.YtdfepdhflnnjpaaGreat
open Go.RowKit
set_option autoImplicit false
set_option linter.unusedVariables false

theorem info_Ratio : (Tryz.prog.info? 38).map (fun i => (i.zero, i.size, i.bytes)) = some (some (.agg #[.bool false, .slice none 0 0, .bool false, .slice none 0 0]), 4, 64) := by kernel_rfl

/-- A slice of one fraction was returned. -/
def RetOf1 (w : World) (K : Nat) (e : Ending) (w' : World) : Prop :=
  ∃ g cap tn ta t tc zt bn ba b bc zb n x d, e = .returned (.slice (some ⟨g, 0, none⟩) 1 cap) ∧ w'.cell? ⟨g, 0, none⟩ = some (.bool tn) ∧ w'.cell? ⟨g, 1, none⟩ = some (.slice ta t tc) ∧ w'.cell? ⟨g, 2, none⟩ = some (.bool bn) ∧ w'.cell? ⟨g, 3, none⟩ = some (.slice ba b bc) ∧ g < w'.heap.size ∧
    RatAt w' tn ta t tc zt bn ba b bc zb n x d ∧ t ≤ K ∧ b ≤ K ∧ Below w.heap.size w w'

/-- The loop of of. -/
def OfAt (w : World) (K : Nat) (o i : Value) (wr : World) : Prop :=
  (o = .slice none 0 0 ∧ i = .int .i64 0 ∧ Below w.heap.size w wr) ∨
  (i = .int .i64 1 ∧ ∃ g cap tn ta t tc zt bn ba b bc zb n x d, o = .slice (some ⟨g, 0, none⟩) 1 cap ∧ wr.cell? ⟨g, 0, none⟩ = some (.bool tn) ∧ wr.cell? ⟨g, 1, none⟩ = some (.slice ta t tc) ∧ wr.cell? ⟨g, 2, none⟩ = some (.bool bn) ∧ wr.cell? ⟨g, 3, none⟩ = some (.slice ba b bc) ∧ g < wr.heap.size ∧
    RatAt wr tn ta t tc zt bn ba b bc zb n x d ∧ t ≤ K ∧ b ≤ K ∧ Below w.heap.size w wr)

theorem cell_four (w : World) (x y z u : Value) (t : TypeId) : ∀ j v, [x, y, z, u][j]? = some v → (w.alloc (.cells #[x, y, z, u] t)).cell? ((⟨w.heap.size, 0, none⟩ : Addr).add j) = some v := by
  intro j v hj
  match j, hj with
  | 0, hj => simp at hj; subst hj; simp [Addr.add]
  | 1, hj => simp at hj; subst hj; simp [Addr.add]
  | 2, hj => simp at hj; subst hj; simp [Addr.add]
  | 3, hj => simp at hj; subst hj; simp [Addr.add]

theorem owned_four {w : World} {base g cap : Nat} {e : TypeId} {a b c d : Value} (h : w.ownsRow base e 4 (.slice (some ⟨g, 0, none⟩) 1 cap) 1 [a, b, c, d]) :
    w.cell? ⟨g, 0, none⟩ = some a ∧ w.cell? ⟨g, 1, none⟩ = some b ∧ w.cell? ⟨g, 2, none⟩ = some c ∧ w.cell? ⟨g, 3, none⟩ = some d := by
  rcases h.2 with ⟨hv, -⟩ | ⟨g', cap', cur, hv, hb, hg, hn, hc, hs, ht⟩
  · cases hv
  · cases hv
    have at_ : ∀ i, i < 4 → w.cell? ⟨g, i, none⟩ = [a, b, c, d][i]? := by
      intro i hi
      rw [cell_of_row w g i cur e (0, 0) hg, ← ht, List.getElem?_take_of_lt (by omega), Array.getElem?_toList]
    exact ⟨at_ 0 (by omega), at_ 1 (by omega), at_ 2 (by omega), at_ 3 (by omega)⟩


set_option maxRecDepth 100000 in
set_option maxHeartbeats 4000000 in
theorem of_one (w : World) (b0 : Nat) (nn : Bool) (na : Option Addr) (nl nc : Nat) (nz : List Int) (dn : Bool) (da : Option Addr) (dl dc : Nat) (dz : List Int) (hrow : w.heap[b0]? = some (.cells #[.bool nn, .slice na nl nc, .bool dn, .slice da dl dc] 26 (0, 0)))
    (hx : Sl w na nl nc nz) (hy : Sl w da dl dc dz) (lx : Lim nz) (ly : Lim dz) (K : Nat) (h1 : nl ≤ K) (h2 : dl ≤ K) (hK : K ≤ 1000) :
    Calls Tryz.prog 60 #[.slice (some ⟨b0, 0, none⟩) 1 1] w (RetOf1 w (2 * K + 4)) := by
  obtain ⟨n1, d1, hof⟩ := of_both nn na nl nc nz dn da dl dc dz lx ly K h1 h2 hK
  have HOF : Hid (∀ w1, Below w.heap.size w w1 → Calls Tryz.prog 18 #[.agg #[.bool nn, .slice na nl nc, .bool dn, .slice da dl dc]] w1 (RetOfQ w1 n1 d1 (2 * K + 4))) := Lib.hid (fun w1 hb => hof w1 (hx.below hb) (hy.below hb))
  have HR := Lib.hid hrow
  have hl : b0 < w.heap.size := (Array.getElem?_eq_some_iff.1 hrow).1
  clear hof hx hy hrow lx ly
  obtain ⟨i0, hi, hz0, hz1, hz2⟩ := info_parts info_Ratio
  have hun := Tryz.underlying92
  go_enter Tryz.func60, Tryz.ntmps60
  go_wp2_with fail
  go_loopw [3, 10] (fun o i wr => OfAt w (2 * K + 4) o i wr) (fun _ i _ => 1 - (intOf i).toNat)
  case atStart => exact .inl ⟨rfl, rfl, Below.refl _ _⟩
  case round =>
    rcases hrel with ⟨rfl, rfl, hb⟩ | ⟨rfl, g, cap, tn, ta, t, tc, zt, bn, ba, b, bc, zb, n, x, d, rfl, c0, c1, c2, c3, hg, hr, ht, hbb, hb⟩
    · have r0 := (hb.block _ hl).trans HR.out
      obtain ⟨x0, x1, x2, x3⟩ := blk4 r0
      have HB := Lib.hid hb
      clear r0 hb
      go_wp2_with fail
      refine (HOF.out _ (by first | exact HB.out.trans (Below.mono (by go_grown) HB.out.size) | skip)).mono ?_
      rintro e w2 ⟨tn, ta, t, tc, zt, bn, ba, b, bc, zb, x, qtn, qta, qt, qtc, qzt, qbn, qba, qb, qbc, qzb, rfl, hq, -, ht, hbb, -, -, ub⟩
      have hb2 : Below w.heap.size w w2 := HB.out.trans (Below.mono (Below.trans (by go_grown) (ub.mono (by go_size))) HB.out.size)
      have HQ := Lib.hid hq
      have HB2 := Lib.hid hb2
      clear hq hb2 ub x0 x1 x2 x3
      go_upto_region 6 with (fail)
      obtain ⟨w3, hw3⟩ : ∃ x, x = (w2.alloc (.cells #[.bool tn, .slice ta t tc, .bool bn, .slice ba b bc] 38)).alloc (.cells #[.bool qtn, .slice qta qt qtc, .bool qbn, .slice qba qb qbc] 43) := ⟨_, rfl⟩
      have ub : Below w2.heap.size w2 w3 := by rw [hw3]; go_grown
      have r : w3.heap[w2.heap.size]? = some (.cells #[.bool tn, .slice ta t tc, .bool bn, .slice ba b bc] 38 (0, 0)) := by rw [hw3]; exact (heap_alloc2 w2 _ _).2
      rw [← hw3]
      clear hw3
      replace HQ := Lib.hid (HQ.out.below ub)
      replace HB2 := Lib.hid (HB2.out.trans (ub.mono HB2.out.size))
      obtain ⟨x0, x1, x2, x3⟩ := blk4 r
      clear ub r HB
      have HBN : Hid (Below w3.heap.size w3 (w3.alloc (.cells #[.bool tn, .slice ta t tc, .bool bn, .slice ba b bc] 38))) := Lib.hid (by go_grown)
      go_wp2_with (first | (at_builtin; refine wpList_append_lies _ rfl (.tmp 19) (.tmp 21) _ rfl w.heap.size 38 i0 _ 4 64 hun hi hz0 hz1 hz2 rfl (by omega) (.slice none 0 0) 0 [] rfl (World.ownsRow_nil _ _ _ _) ⟨w3.heap.size, 0, none⟩ 1 1 [.bool tn, .slice ta t tc, .bool bn, .slice ba b bc] rfl rfl ?c1 ?c2 (by omega) (by decide) (by decide) ?c3 _ rfl ?_) | fail)
      case c1 => exact cell_four _ _ _ _ _ _
      case c2 => simp [Value.oneCell']
      case c3 => have := HB2.out.size; have := HBN.out.size; omega
      intro g cap w4 hown hgrow hat hlt
      have hb4 : Below w3.heap.size w3 w4 := Below.grown HBN.out hgrow (HBN.out.size) (by intro k hk; cases hk)
      obtain ⟨e0, e1, e2, e3⟩ := owned_four hown
      have HE := Lib.hid (And.intro e0 (And.intro e1 (And.intro e2 e3)))
      have HQ4 := Lib.hid (HQ.out.below hb4)
      have HB4 := Lib.hid (HB2.out.trans (hb4.mono HB2.out.size))
      clear hown hgrow hat hb4 e0 e1 e2 e3 x0 x1 x2 x3 HBN HQ HB2
      go_wp2_with fail
      go_roundw
      case rel => exact .inr ⟨rfl, g, cap, tn, ta, t, tc, zt, bn, ba, b, bc, zb, n1, x, d1, rfl, HE.out.1, HE.out.2.1, HE.out.2.2.1, HE.out.2.2.2, hlt, HQ4.out, ht, hbb, HB4.out⟩
      case measure => simp [intOf]
    · have HE := Lib.hid (And.intro c0 (And.intro c1 (And.intro c2 c3)))
      have HQ := Lib.hid hr
      have HB := Lib.hid hb
      clear c0 c1 c2 c3 hr hb
      go_wp2_with fail
      go_ret
      exact ⟨g, cap, tn, ta, t, tc, zt, bn, ba, b, bc, zb, n, x, d, rfl, HE.out.1, HE.out.2.1, HE.out.2.2.1, HE.out.2.2.2, hg, HQ.out, ht, hbb, HB.out⟩

set_option maxRecDepth 100000 in
set_option maxHeartbeats 4000000 in
theorem same_q (w : World) (tn : Bool) (ta : Option Addr) (t tc : Nat) (zt : List Int) (bn : Bool) (ba : Option Addr) (b bc : Nat) (zb : List Int) (n x d : Int) (ytn : Bool) (yta : Option Addr) (yt ytc : Nat) (yzt : List Int) (ybn : Bool) (yba : Option Addr) (yb ybc : Nat) (yzb : List Int) (m u f : Int) (h : RatAt w tn ta t tc zt bn ba b bc zb n x d) (hy : RatAt w ytn yta yt ytc yzt ybn yba yb ybc yzb m u f) (ht : t ≤ 100000) (hb : b ≤ 100000) (hyt : yt ≤ 100000) (hyb : yb ≤ 100000) (heq : n * f = m * d) :
    Calls Tryz.prog 61 #[.agg #[.bool tn, .slice ta t tc, .bool bn, .slice ba b bc], .agg #[.bool ytn, .slice yta yt ytc, .bool ybn, .slice yba yb ybc]] w (RetV w (.bool true)) := by
  have H := Lib.hid h
  have HY := Lib.hid hy
  have HC : Hid (cmpI (n * f) (m * d) = 0) := Lib.hid (cmpI_eq heq)
  clear h hy heq
  go_enter Tryz.func61, Tryz.ntmps61
  go_wp2_with fail
  refine (cmpq_any _ _ _ _ _ _ _ _ _ _ _ n x d _ _ _ _ _ _ _ _ _ _ m u f (H.out.below (by go_grown)) (HY.out.below (by go_grown)) ht hb hyt hyb).mono ?_
  rintro e w2 ⟨rfl, ub⟩
  rw [HC.out]
  have hb2 : Below w.heap.size w w2 := Below.trans (by go_grown) (ub.mono (by go_size))
  clear ub
  go_wp2_with fail
  go_ret
  exact ⟨rfl, hb2⟩

/-- The numerator and the denominator of a power. -/
def PN (n d i : Int) : Int := if 0 ≤ i then n ^ i.toNat else if n < 0 then (-d) ^ (-i).toNat else d ^ (-i).toNat
def PD (n d i : Int) : Int := if 0 ≤ i then d ^ i.toNat else if n < 0 then (-n) ^ (-i).toNat else n ^ (-i).toNat

theorem powq_int (w : World) (tn : Bool) (ta : Option Addr) (t tc : Nat) (zt : List Int) (bn : Bool) (ba : Option Addr) (b bc : Nat) (zb : List Int) (n x d : Int) (h : RatAt w tn ta t tc zt bn ba b bc zb n x d) (hn : n ≠ 0) (i : Int) (hi : -20 ≤ i) (hi2 : i ≤ 20) (ht : t ≤ 100) (hb : b ≤ 100) :
    Calls Tryz.prog 32 #[.agg #[.bool tn, .slice ta t tc, .bool bn, .slice ba b bc], .int .i64 i] w (RetRatE w (PN n d i) (PD n d i) 2001 2001 0) := by
  unfold PN PD
  by_cases h0 : 0 ≤ i
  · rw [if_pos h0, if_pos h0]
    obtain ⟨k, rfl⟩ : ∃ k : Nat, i = k := ⟨i.toNat, by omega⟩
    exact powq_nat w _ _ _ _ _ _ _ _ _ _ n x d h k (by omega) ht hb
  · rw [if_neg h0, if_neg h0]
    obtain ⟨k, rfl⟩ : ∃ k : Nat, i = -k := ⟨(-i).toNat, by omega⟩
    have e : (-(-(k : Int))).toNat = k := by omega
    rw [e]
    by_cases h1 : n < 0
    · rw [if_pos h1, if_pos h1]
      exact powq_neg w _ _ _ _ _ _ _ _ _ _ n x d h h1 k (by omega) (by omega) ht hb
    · rw [if_neg h1, if_neg h1]
      exact powq_pos w _ _ _ _ _ _ _ _ _ _ n x d h (by omega) k (by omega) (by omega) ht hb

/-- A power as it is told, held against one whose exponents are not below 0. -/
theorem pow_told {n d : Int} (hn : n ≠ 0) (i : Int) (hi : -10 ≤ i) (hi2 : i ≤ 10) : PN n d i * (n ^ 10 * d ^ 10) = PD n d i * (n ^ (10 + i).toNat * d ^ (10 - i).toNat) := by
  unfold PN PD
  by_cases h0 : 0 ≤ i
  · rw [if_pos h0, if_pos h0]
    obtain ⟨k, rfl⟩ : ∃ k : Nat, i = k := ⟨i.toNat, by omega⟩
    have e1 : ((k : Int)).toNat = k := by omega
    have e2 : (10 + (k : Int)).toNat = k + 10 := by omega
    have e3 : (10 - (k : Int)).toNat = 10 - k := by omega
    have e4 : d ^ 10 = d ^ k * d ^ (10 - k) := by rw [← Int.pow_add]; congr 1; omega
    rw [e1, e2, e3, Int.pow_add, e4]
    simp only [Int.mul_assoc, Int.mul_left_comm]
  · rw [if_neg h0, if_neg h0]
    obtain ⟨k, rfl⟩ : ∃ k : Nat, i = -k := ⟨(-i).toNat, by omega⟩
    have e1 : (-(-(k : Int))).toNat = k := by omega
    have e2 : (10 + -(k : Int)).toNat = 10 - k := by omega
    have e3 : (10 - -(k : Int)).toNat = k + 10 := by omega
    have e4 : n ^ 10 = n ^ k * n ^ (10 - k) := by rw [← Int.pow_add]; congr 1; omega
    rw [e1, e2, e3, Int.pow_add, e4]
    by_cases h1 : n < 0
    · rw [if_pos h1, if_pos h1]
      have e5 : (-d) ^ k * n ^ k = (-n) ^ k * d ^ k := by rw [← Int.mul_pow, ← Int.mul_pow]; congr 1; rw [Int.neg_mul, Int.neg_mul, Int.mul_comm]
      have e6 : (-d) ^ k * (n ^ k * n ^ (10 - k) * d ^ 10) = ((-d) ^ k * n ^ k) * (n ^ (10 - k) * d ^ 10) := by simp only [Int.mul_assoc]
      rw [e6, e5]
      simp only [Int.mul_assoc, Int.mul_left_comm]
    · rw [if_neg h1, if_neg h1]
      simp only [Int.mul_assoc, Int.mul_left_comm]

theorem PD_pos {n d : Int} (hn : n ≠ 0) (hd : 0 < d) (i : Int) : 0 < PD n d i := by
  unfold PD
  split
  · exact Int.pow_pos hd
  · split
    · exact Int.pow_pos (by omega)
    · exact Int.pow_pos (by omega)

/-- Powers of a sum of exponents. -/
theorem pow_sum {n d : Int} (hn : n ≠ 0) (hd : 0 < d) (i k : Int) (hi : -5 ≤ i) (hi2 : i ≤ 5) (hk : -5 ≤ k) (hk2 : k ≤ 5) : PN n d i * PN n d k * PD n d (i + k) = PN n d (i + k) * (PD n d i * PD n d k) := by
  have f1 := pow_told (d := d) hn i (by omega) (by omega)
  have f2 := pow_told (d := d) hn k (by omega) (by omega)
  have f3 := pow_told (d := d) hn (i + k) (by omega) (by omega)
  have hT : (n ^ (10 + i).toNat * d ^ (10 - i).toNat) * (n ^ (10 + k).toNat * d ^ (10 - k).toNat) = (n ^ 10 * d ^ 10) * (n ^ (10 + (i + k)).toNat * d ^ (10 - (i + k)).toNat) := by
    have a1 : n ^ (10 + i).toNat * n ^ (10 + k).toNat = n ^ 10 * n ^ (10 + (i + k)).toNat := by rw [← Int.pow_add, ← Int.pow_add]; congr 1; omega
    have a2 : d ^ (10 - i).toNat * d ^ (10 - k).toNat = d ^ 10 * d ^ (10 - (i + k)).toNat := by rw [← Int.pow_add, ← Int.pow_add]; congr 1; omega
    calc _ = (n ^ (10 + i).toNat * n ^ (10 + k).toNat) * (d ^ (10 - i).toNat * d ^ (10 - k).toNat) := by simp only [Int.mul_assoc, Int.mul_left_comm]
      _ = _ := by rw [a1, a2]; simp only [Int.mul_assoc, Int.mul_left_comm]
  have hM : n ^ 10 * d ^ 10 ≠ 0 := Int.mul_ne_zero (Int.pow_ne_zero hn) (Int.pow_ne_zero (by omega))
  revert f1 f2 f3 hT hM
  generalize n ^ 10 * d ^ 10 = M
  generalize n ^ (10 + i).toNat * d ^ (10 - i).toNat = T1
  generalize n ^ (10 + k).toNat * d ^ (10 - k).toNat = T2
  generalize n ^ (10 + (i + k)).toNat * d ^ (10 - (i + k)).toNat = T3
  generalize PN n d i = A1
  generalize PN n d k = A2
  generalize PN n d (i + k) = A3
  generalize PD n d i = B1
  generalize PD n d k = B2
  generalize PD n d (i + k) = B3
  intro f1 f2 f3 hT hM
  have hMM : M * M ≠ 0 := Int.mul_ne_zero hM hM
  apply Int.eq_of_mul_eq_mul_right hMM
  have s1 : A1 * A2 * B3 * (M * M) = (A1 * M) * (A2 * M) * B3 := by simp only [Int.mul_left_comm, Int.mul_comm]
  have s2 : (B1 * T1) * (B2 * T2) * B3 = (T1 * T2) * (B1 * B2 * B3) := by simp only [Int.mul_left_comm, Int.mul_comm]
  have s3 : M * T3 * (B1 * B2 * B3) = (B3 * T3) * (M * (B1 * B2)) := by simp only [Int.mul_left_comm, Int.mul_comm]
  have s4 : A3 * M * (M * (B1 * B2)) = A3 * (B1 * B2) * (M * M) := by simp only [Int.mul_left_comm, Int.mul_comm]
  rw [s1, f1, f2, s2, hT, s3, ← f3, s4]

theorem cross_q {N D s f : Int} (hD : D ≠ 0) (h : N * f = s * D) : qn N D * f = s * qd N D := by
  have h1 := qn_mul (n := N) hD
  have h2 := qd_mul (n := N) hD
  have hg : (Nat.gcd N.natAbs D.natAbs : Int) ≠ 0 := by have := gcd_pos (n := N) hD; omega
  apply Int.eq_of_mul_eq_mul_right hg
  have e1 : qn N D * f * (Nat.gcd N.natAbs D.natAbs : Int) = (qn N D * (Nat.gcd N.natAbs D.natAbs : Int)) * f := by simp only [Int.mul_left_comm, Int.mul_comm]
  have e2 : s * qd N D * (Nat.gcd N.natAbs D.natAbs : Int) = s * (qd N D * (Nat.gcd N.natAbs D.natAbs : Int)) := by rw [Int.mul_assoc]
  rw [e1, e2, h1, h2]
  split
  · rw [Int.neg_mul, h, Int.mul_neg]
  · exact h

theorem low_sq {n d : Int} (h : Low n d) : Low (n * n) (d * d) := by
  have := pow_low h 2
  simpa [Int.pow_succ] using this

end Go.Proofs.YtdfepdhflnnjpaaGreat

