/- Short: no number has more limbs than permitted. -/
import Derived.Test.YtpakfknacmcohaaAwake2
namespace Go.Proofs.Ytpakfknacmcohaa
open Go.RowKit
set_option autoImplicit false
set_option linter.unusedVariables false

/-- A number as it is handed in: a sign and its limbs. -/
structure Num where
  neg : Bool
  ao : Option Addr
  n : Nat
  cap : Nat

def Num.agg (x : Num) : Value := .agg #[.bool x.neg, .slice x.ao x.n x.cap]

/-- The block holds the numbers, one behind the other. -/
def Nums (w : World) (b : Nat) (l : List Num) : Prop :=
  ∀ i x, l[i]? = some x → w.cell? ⟨b, i * 2, none⟩ = some (.bool x.neg) ∧ w.cell? ⟨b, i * 2 + 1, none⟩ = some (.slice x.ao x.n x.cap)

theorem Nums.below {w w' : World} {b : Nat} {l : List Num} (h : Nums w b l) (hb : Below w.heap.size w w') (hl : b < w.heap.size) : Nums w' b l := by
  intro i x hx
  obtain ⟨h1, h2⟩ := h i x hx
  exact ⟨(hb.cell hl).trans h1, (hb.cell hl).trans h2⟩

theorem short1 (w : World) (neg : Bool) (ao : Option Addr) (n cap : Nat) (most : Int) (p : Addr) (hc : w.cell? p = some (.int .i64 most)) (hp : p.block < w.heap.size) :
    Calls Try.prog 67 #[.agg #[.bool neg, .slice ao n cap], .pointer (some p)] w (RetV w (.bool (decide (most < (n : Int))))) := by
  go_enter Try.func67, Try.ntmps67
  go_wp2_with fail
  go_ret
  exact ⟨rfl, by go_grown⟩

/-- The first number that is too long is found, or none is. -/
def RetFind (w : World) (l : List Num) (most : Nat) (e : Ending) (w' : World) : Prop :=
  ∃ k : Int, e = .returned (.int .i64 k) ∧ (0 ≤ k ↔ ∃ x ∈ l, most < x.n) ∧ Below w.heap.size w w'

set_option maxRecDepth 100000 in
theorem find_any (w : World) (b cap : Nat) (l : List Num) (most : Nat) (p : Addr) (hl : Nums w b l) (hb : b < w.heap.size) (hc : w.cell? p = some (.int .i64 most)) (hp : p.block < w.heap.size) (hlen : l.length ≤ cap) (hcap : cap ≤ 1000) :
    Calls Try.prog 117 #[.slice (some ⟨b, 0, none⟩) l.length cap, .func (Fn.func 67) #[] #[.pointer (some p)]] w (RetFind w l most) := by
  have HL := Lib.hid hl
  clear hl
  obtain ⟨n, hn⟩ : ∃ n, n = l.length := ⟨_, rfl⟩
  rw [← hn] at hlen ⊢
  have HN := Lib.hid hn
  clear hn
  go_enter Try.func117, Try.ntmps117
  go_wp2_with fail
  go_loopw [8] (fun i wr => ∃ j : Nat, j ≤ n ∧ i = .int .i64 j ∧ (∀ x ∈ l.take j, x.n ≤ most) ∧ Below w.heap.size w wr)
    (fun i _ => n - (intOf i).toNat)
  case atStart => exact ⟨0, by omega, rfl, by simp, .refl _ _⟩
  case round =>
    obtain ⟨j, hj, rfl, hall, hbel⟩ := hrel
    have HALL := Lib.hid hall
    have hc' : wr.cell? p = some (.int .i64 most) := (hbel.cell hp).trans hc
    have hp' : p.block < wr.heap.size := Nat.lt_of_lt_of_le hp hbel.size
    clear hall
    by_cases hjs : j < n
    · obtain ⟨x, hx⟩ : ∃ x, l[j]? = some x := ⟨l[j]'(by rw [← HN.out]; exact hjs), by simp⟩
      obtain ⟨x0, x1⟩ := HL.out.below hbel hb j x hx
      have HX := Lib.hid hx
      clear hx
      have hji : (j : Int) < n := by omega
      go_wp2_with fail
      by_cases hm : most < x.n
      · refine (short1 _ x.neg x.ao x.n x.cap most p hc' hp').mono ?_
        rintro e w1 ⟨rfl, hb1⟩
        have hd : decide ((most : Int) < (x.n : Int)) = true := by simp; exact hm
        rw [hd]
        clear hd
        go_wp2_with fail
        go_ret
        refine ⟨j, rfl, ⟨fun _ => ⟨x, List.mem_of_getElem? HX.out, hm⟩, fun _ => by omega⟩, hbel.trans (hb1.mono hbel.size)⟩
      · refine (short1 _ x.neg x.ao x.n x.cap most p hc' hp').mono ?_
        rintro e w1 ⟨rfl, hb1⟩
        have hd : decide ((most : Int) < (x.n : Int)) = false := by simp; omega
        rw [hd]
        clear hd
        go_wp2_with fail
        go_roundw
        case rel =>
          refine ⟨j + 1, by omega, by go_num, ?_, hbel.trans (hb1.mono hbel.size)⟩
          intro y hy
          rw [List.take_add_one, HX.out] at hy
          simp at hy
          rcases hy with hy | rfl
          · exact HALL.out y hy
          · omega
        case measure => simp [intOf]; omega
    · obtain rfl : j = n := by omega
      have hji : ¬ (j : Int) < j := by omega
      go_wp2_with fail
      go_ret
      refine ⟨-1, rfl, ⟨fun h => by omega, ?_⟩, hbel⟩
      rintro ⟨y, hy, hm⟩
      have := HALL.out y (by rw [List.take_of_length_le (by rw [← HN.out]; omega)]; exact hy)
      omega

theorem contains_any (w : World) (b cap : Nat) (l : List Num) (most : Nat) (p : Addr) (hl : Nums w b l) (hb : b < w.heap.size) (hc : w.cell? p = some (.int .i64 most)) (hp : p.block < w.heap.size) (hlen : l.length ≤ cap) (hcap : cap ≤ 1000) :
    Calls Try.prog 66 #[.slice (some ⟨b, 0, none⟩) l.length cap, .func (Fn.func 67) #[] #[.pointer (some p)]] w (RetV w (.bool (decide (∃ x ∈ l, most < x.n)))) := by
  have HC := Lib.hid (find_any w b cap l most p hl hb hc hp hlen hcap)
  clear hl hc
  go_enter Try.func66, Try.ntmps66
  go_wp2_with fail
  refine HC.out.mono ?_
  rintro e w1 ⟨k, rfl, hk, hb1⟩
  have HK := Lib.hid hk
  clear hk
  go_wp2_with fail
  go_ret
  refine ⟨?_, hb1⟩
  change Ending.returned (.bool (decide (0 ≤ k))) = _
  rw [decide_eq_decide.2 HK.out]

theorem short_any (w : World) (b cap : Nat) (l : List Num) (most : Nat) (hl : Nums w b l) (hb : b < w.heap.size) (hlen : l.length ≤ cap) (hcap : cap ≤ 1000) :
    Calls Try.prog 14 #[.int .i64 most, .slice (some ⟨b, 0, none⟩) l.length cap] w (RetV w (.bool (decide (∀ x ∈ l, x.n ≤ most)))) := by
  have HL := Lib.hid hl
  clear hl
  go_enter Try.func14, Try.ntmps14
  go_wp2_with fail
  refine (contains_any _ b cap l most ⟨w.heap.size, 0, none⟩ (HL.out.below (by go_grown) hb) (Nat.lt_of_lt_of_le hb (by go_size)) (by go_keep) (by go_size) hlen hcap).mono ?_
  rintro e w1 ⟨rfl, hb1⟩
  have hd : (!(decide (∃ x ∈ l, most < x.n))) = decide (∀ x ∈ l, x.n ≤ most) := by
    rw [← decide_not]
    apply decide_eq_decide.2
    simp
  have HD := Lib.hid hd
  clear hd
  go_wp2_with fail
  go_ret
  refine ⟨?_, Below.trans (by go_grown) (hb1.mono (by go_size))⟩
  change Ending.returned (.bool (!(decide (∃ x ∈ l, most < x.n)))) = _
  rw [HD.out]
end Go.Proofs.Ytpakfknacmcohaa
