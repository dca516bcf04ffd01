/- The reference's Count. -/
import Derived.Test.YtihfokdehcdgdaaNum15
namespace Go.Proofs.Ytihfokdehcdgdaa
open Go.RowKit
set_option autoImplicit false
set_option linter.unusedVariables false

theorem rbits_any (w : World) (nx : Bool) (ao : Option Addr) (n cap : Nat) (xs : List Int) (x : Int) (hx : RefAt w nx ao n cap xs x) (hn : n ≤ 4294967296) (k : Nat) (hk : k ≤ 1099511627776) :
    Calls Try.prog 81 #[.agg #[.bool nx, .slice ao n cap], .int .i64 (k : Int)] w (RetBits w (cpl x).toNat nx k) := by
  cases nx
  · exact rbits_pos w ao n cap xs x hx hn k hk
  · exact rbits_neg w ao n cap xs x hx hn k hk

theorem bit_ne (y : Nat) (neg : Bool) (j : Nat) : (bitOf y neg j != neg) = (y / 2 ^ j % 2 == 1) := by
  unfold bitOf
  cases neg <;> cases (y / 2 ^ j % 2 == 1) <;> rfl

theorem row_cell {B : Nat} {w : World} {ao : Option Addr} {cap k : Nat} {f : Nat → Value} {t : TypeId} (h : w.ownsRow B t 1 (.slice ao k cap) k ((List.range k).map f)) {j : Nat} (hj : j < k) :
    ∃ g, ao = some ⟨g, 0, none⟩ ∧ w.cell? ⟨g, j, none⟩ = some (f j) := by
  rcases h.2 with ⟨hv, hn⟩ | ⟨g, c, cur, hv, _⟩
  · omega
  · simp only [Value.slice.injEq] at hv
    obtain ⟨rfl, _, rfl⟩ := hv
    refine ⟨g, rfl, ?_⟩
    have := World.ownsRow.cellAt h j (by omega)
    rw [this, List.getElem?_map, List.getElem?_range hj]
    rfl

theorem row_cap {B : Nat} {w : World} {ao : Option Addr} {cap k : Nat} {xs : List Value} {t : TypeId} {s : Nat} (h : w.ownsRow B t s (.slice ao k cap) k xs) : k ≤ cap ∧ cap ≤ maxLen := by
  rcases h.2 with ⟨hv, hn⟩ | ⟨g, c, cur, hv, hb, hg, hnc, hcm, _⟩
  · simp only [Value.slice.injEq] at hv
    omega
  · simp only [Value.slice.injEq] at hv
    omega

set_option maxRecDepth 100000 in
theorem rcount_any (w : World) (nx : Bool) (ao : Option Addr) (n cap : Nat) (xs : List Int) (x : Int) (hx : RefAt w nx ao n cap xs x) (hn : n ≤ 4294967296) :
    Calls Try.prog 29 #[.agg #[.bool nx, .slice ao n cap]] w (RetV w (.int .i64 (pops (cpl x).toNat : Int))) := by
  have HX := Lib.hid hx
  obtain ⟨L, hL⟩ : ∃ L, blen (cpl x).toNat = L := ⟨_, rfl⟩
  have hLk : L ≤ 1099511627776 := by
    have h1 := dval_nonneg (r := 65536) (by omega) hx.lim
    have h2 := dval_lt (r := 65536) (by omega) hx.lim
    rw [pow16, hx.sl.len] at h2
    have h3 : (cpl x).toNat < 2 ^ (16 * n) := by
      obtain ⟨P, hP⟩ : ∃ P : Nat, 2 ^ (16 * n) = P := ⟨_, rfl⟩
      obtain ⟨d, hd⟩ : ∃ d : Int, dval 65536 xs = d := ⟨_, rfl⟩
      unfold cpl
      rw [hx.val]
      rw [hP] at h2 ⊢
      rw [hd] at h1 h2 ⊢
      cases nx <;> simp only [sgn] <;> split <;> (try simp) <;> omega
    rw [← hL]
    unfold blen
    split
    · omega
    · have := (Nat.log2_lt (by assumption)).2 h3
      omega
  have HL := Lib.hid hL
  have HLEN : Hid (∀ w', Below w.heap.size w w' → Calls Try.prog 27 #[.agg #[.bool nx, .slice ao n cap]] w' (RetV w' (.int .i64 (L : Int)))) := Lib.hid (fun w' hb => by
    have := rlength_any w' nx ao n cap xs x (hx.below hb) hn
    rwa [hL] at this)
  clear hx hL
  go_enter Try.func29, Try.ntmps29
  go_wp2_with fail
  go_region_held3 (fun w' => w'.cell? ⟨w.heap.size, 0, none⟩ = some (.bool nx) ∧ w'.cell? ⟨w.heap.size, 1, none⟩ = some (.slice ao n cap)) (((try dsimp only); (repeat' apply And.intro) <;> (first | (go_keep; done) | (go_split_ands; rw [hb1.cell (by go_size)]; assumption) | (go_split_ands; rw [hb3.cell (by first | (dsimp only; omega) | go_size)]; assumption))))
    (first | (go_at_call 27; refine (HLEN.out _ (by go_grown)).mono ?_; rintro e w1 ⟨rfl, hb1⟩; have hz1 : w.heap.size + 1 ≤ w1.heap.size := Nat.le_trans (by go_size) hb1.size; have hb2 : Below w.heap.size w w1 := Below.trans (by go_grown) (hb1.mono (by go_size))) | (go_at_call 81; refine (rbits_any _ nx ao n cap xs x (HX.out.below hb2) hn L hLk).mono ?_; rintro e w2 ⟨ab, cb, rfl, hrow, hb3⟩))
  have hh : w2.cell? ⟨w.heap.size, 0, none⟩ = some (.bool nx) ∧ w2.cell? ⟨w.heap.size, 1, none⟩ = some (.slice ao n cap) := by assumption
  obtain ⟨x0, -⟩ := hh
  have HW := Lib.hid (hb2.trans (hb3.mono hb2.size))
  have hcap := row_cap hrow
  have HR := Lib.hid hrow
  unfold maxLen at hcap
  obtain ⟨hc1, hc2⟩ := hcap
  clear hb1 hb2 hb3 hz1 hrow
  go_wp2_with fail
  go_loopw [4, 5] (fun c i wr => ∃ (j q : Nat), j ≤ L ∧ i = .int .i64 j ∧ c = .int .i64 q ∧ q = onesTo (cpl x).toNat j ∧ ∃ m, wr = w2.drewN m) (fun _ i _ => L - (intOf i).toNat)
  case atStart => exact ⟨0, 0, by omega, rfl, rfl, rfl, 0, rfl⟩
  case round =>
    obtain ⟨j, q, hj, rfl, rfl, hq, m, rfl⟩ := hrel
    have hqb : q ≤ j := by rw [hq]; exact onesTo_le _ _
    have HQ := Lib.hid hq
    clear hq
    by_cases hjk : j < L
    · obtain ⟨g, rfl, hc⟩ := row_cell HR.out hjk
      obtain ⟨b, hb⟩ : ∃ b, bitOf (cpl x).toNat nx j = b := ⟨_, rfl⟩
      have hbn := bit_ne (cpl x).toNat nx j
      rw [hb] at hc hbn
      have hji : (j : Int) < L := by omega
      have hj0 : (0 : Int) ≤ j := by omega
      by_cases hv : (cpl x).toNat / 2 ^ j % 2 = 1
      · have hbt : (b != nx) = true := by rw [hbn]; simpa using hv
        have hbt2 : (b == nx) = false := by revert hbt; cases b <;> cases nx <;> simp
        have HO : Hid (onesTo (cpl x).toNat (j + 1) = onesTo (cpl x).toNat j + 1) := Lib.hid (by simp only [onesTo]; omega)
        clear hbn hb hv
        go_wp2_with fail
        go_quiet (fail)
        go_wp2_with fail
        go_roundw
        case rel => exact ⟨j + 1, q + 1, by omega, by go_num, by go_num, by rw [HO.out, HQ.out], _, by first | rfl | rw [World.drewN_drewN]⟩
        case measure => simp [intOf]; omega
      · have hbt : (b != nx) = false := by rw [hbn]; simpa using hv
        have hbt2 : (b == nx) = true := by revert hbt; cases b <;> cases nx <;> simp
        have HO : Hid (onesTo (cpl x).toNat (j + 1) = onesTo (cpl x).toNat j) := Lib.hid (by simp only [onesTo]; omega)
        clear hbn hb hv
        go_wp2_with fail
        go_quiet (fail)
        go_wp2_with fail
        go_roundw
        case rel => exact ⟨j + 1, q, by omega, by go_num, by go_num, by rw [HO.out, HQ.out], _, by first | rfl | rw [World.drewN_drewN]⟩
        case measure => simp [intOf]; omega
    · obtain rfl : j = L := by omega
      have hji : ¬ (j : Int) < j := by omega
      have HF : Hid (q = pops (cpl x).toNat) := Lib.hid (by rw [HQ.out]; unfold pops; rw [HL.out])
      go_wp2_with fail
      go_ret
      exact ⟨congrArg (fun x => Ending.returned (.int .i64 ((x : Nat) : Int))) HF.out, below_drewN HW.out m⟩
end Go.Proofs.Ytihfokdehcdgdaa
