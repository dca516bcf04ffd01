/- Boo1, Boo2, Boo3 in one text. -/
import Derived.Test.YtpakfknacmcohaaNumC
namespace Go.Proofs.Ytpakfknacmcohaa
open Go.RowKit
set_option autoImplicit false
set_option linter.unusedVariables false

/-- The bit that a table of four bits has for two bits. -/
def tb (op : Nat) (a b : Bool) : Bool := op / 2 ^ (2 * a.toNat + b.toNat) % 2 == 1

set_option maxRecDepth 100000 in
theorem chosen_any (w : World) (op : Nat) (a b : Bool) (h : op ≤ 15) :
    Calls Try.prog 103 #[.int .i64 (op : Int), .bool a, .bool b] w fun e w' => e = .returned (.bool (tb op a b)) ∧ w = w' := by
  obtain ⟨n, hn⟩ : ∃ n, 2 * a.toNat + b.toNat = n := ⟨_, rfl⟩
  have hn3 : n ≤ 3 := by rw [← hn]; cases a <;> cases b <;> simp
  have HT : Hid (tb op a b = (op / 2 ^ n % 2 == 1)) := Lib.hid (by unfold tb; rw [hn])
  rcases a with _ | _ <;> rcases b with _ | _ <;> (simp at hn)
  · skip
    subst hn
    go_enter Try.func103, Try.ntmps103
    go_wp2_with fail
    go_loop [0, 8] (fun o i => ∃ j : Nat, i = .int .i64 j ∧ o = .int .i64 ((op / 2 ^ j : Nat) : Int) ∧ j ≤ 0) (fun _ i => 0 - (intOf i).toNat)
    case atStart => exact ⟨0, rfl, by simp, by omega⟩
    case round =>
      obtain ⟨j, rfl, rfl, hj⟩ := hrel
      have hd : op / 2 ^ j / 2 = op / 2 ^ (j + 1) := by rw [Nat.div_div_eq_div_mul, Nat.pow_succ]
      have hle : op / 2 ^ j ≤ 15 := Nat.le_trans (Nat.div_le_self _ _) h
      obtain ⟨p, hp⟩ : ∃ p, op / 2 ^ j = p := ⟨_, rfl⟩
      rw [hp] at hd hle ⊢
      have HP := Lib.hid hp
      have HD := Lib.hid hd
      clear hp hd
      by_cases hjn : j < 0
      · have hji : (j : Int) < 0 := by omega
        go_wp2_with fail
        go_round
        case rel => exact ⟨j + 1, by go_num, by rw [← HD.out]; go_num, by omega⟩
        case measure => simp [intOf]; omega
      · obtain rfl : j = 0 := by omega
        have hbp : (((p : Int) % 2) == 1) = (p % 2 == 1) := by rw [Bool.eq_iff_iff]; simp; omega
        have HBP := Lib.hid hbp
        clear hbp
        go_wp2_with fail
        go_ret
        refine ⟨?_, rfl⟩
        rw [HT.out, HP.out, ← HBP.out]
        rfl
  · skip
    subst hn
    go_enter Try.func103, Try.ntmps103
    go_wp2_with fail
    go_loop [0, 8] (fun o i => ∃ j : Nat, i = .int .i64 j ∧ o = .int .i64 ((op / 2 ^ j : Nat) : Int) ∧ j ≤ 1) (fun _ i => 1 - (intOf i).toNat)
    case atStart => exact ⟨0, rfl, by simp, by omega⟩
    case round =>
      obtain ⟨j, rfl, rfl, hj⟩ := hrel
      have hd : op / 2 ^ j / 2 = op / 2 ^ (j + 1) := by rw [Nat.div_div_eq_div_mul, Nat.pow_succ]
      have hle : op / 2 ^ j ≤ 15 := Nat.le_trans (Nat.div_le_self _ _) h
      obtain ⟨p, hp⟩ : ∃ p, op / 2 ^ j = p := ⟨_, rfl⟩
      rw [hp] at hd hle ⊢
      have HP := Lib.hid hp
      have HD := Lib.hid hd
      clear hp hd
      by_cases hjn : j < 1
      · have hji : (j : Int) < 1 := by omega
        go_wp2_with fail
        go_round
        case rel => exact ⟨j + 1, by go_num, by rw [← HD.out]; go_num, by omega⟩
        case measure => simp [intOf]; omega
      · obtain rfl : j = 1 := by omega
        have hbp : (((p : Int) % 2) == 1) = (p % 2 == 1) := by rw [Bool.eq_iff_iff]; simp; omega
        have HBP := Lib.hid hbp
        clear hbp
        go_wp2_with fail
        go_ret
        refine ⟨?_, rfl⟩
        rw [HT.out, HP.out, ← HBP.out]
        rfl
  · skip
    subst hn
    go_enter Try.func103, Try.ntmps103
    go_wp2_with fail
    go_loop [0, 8] (fun o i => ∃ j : Nat, i = .int .i64 j ∧ o = .int .i64 ((op / 2 ^ j : Nat) : Int) ∧ j ≤ 2) (fun _ i => 2 - (intOf i).toNat)
    case atStart => exact ⟨0, rfl, by simp, by omega⟩
    case round =>
      obtain ⟨j, rfl, rfl, hj⟩ := hrel
      have hd : op / 2 ^ j / 2 = op / 2 ^ (j + 1) := by rw [Nat.div_div_eq_div_mul, Nat.pow_succ]
      have hle : op / 2 ^ j ≤ 15 := Nat.le_trans (Nat.div_le_self _ _) h
      obtain ⟨p, hp⟩ : ∃ p, op / 2 ^ j = p := ⟨_, rfl⟩
      rw [hp] at hd hle ⊢
      have HP := Lib.hid hp
      have HD := Lib.hid hd
      clear hp hd
      by_cases hjn : j < 2
      · have hji : (j : Int) < 2 := by omega
        go_wp2_with fail
        go_round
        case rel => exact ⟨j + 1, by go_num, by rw [← HD.out]; go_num, by omega⟩
        case measure => simp [intOf]; omega
      · obtain rfl : j = 2 := by omega
        have hbp : (((p : Int) % 2) == 1) = (p % 2 == 1) := by rw [Bool.eq_iff_iff]; simp; omega
        have HBP := Lib.hid hbp
        clear hbp
        go_wp2_with fail
        go_ret
        refine ⟨?_, rfl⟩
        rw [HT.out, HP.out, ← HBP.out]
        rfl
  · skip
    subst hn
    go_enter Try.func103, Try.ntmps103
    go_wp2_with fail
    go_loop [0, 8] (fun o i => ∃ j : Nat, i = .int .i64 j ∧ o = .int .i64 ((op / 2 ^ j : Nat) : Int) ∧ j ≤ 3) (fun _ i => 3 - (intOf i).toNat)
    case atStart => exact ⟨0, rfl, by simp, by omega⟩
    case round =>
      obtain ⟨j, rfl, rfl, hj⟩ := hrel
      have hd : op / 2 ^ j / 2 = op / 2 ^ (j + 1) := by rw [Nat.div_div_eq_div_mul, Nat.pow_succ]
      have hle : op / 2 ^ j ≤ 15 := Nat.le_trans (Nat.div_le_self _ _) h
      obtain ⟨p, hp⟩ : ∃ p, op / 2 ^ j = p := ⟨_, rfl⟩
      rw [hp] at hd hle ⊢
      have HP := Lib.hid hp
      have HD := Lib.hid hd
      clear hp hd
      by_cases hjn : j < 3
      · have hji : (j : Int) < 3 := by omega
        go_wp2_with fail
        go_round
        case rel => exact ⟨j + 1, by go_num, by rw [← HD.out]; go_num, by omega⟩
        case measure => simp [intOf]; omega
      · obtain rfl : j = 3 := by omega
        have hbp : (((p : Int) % 2) == 1) = (p % 2 == 1) := by rw [Bool.eq_iff_iff]; simp; omega
        have HBP := Lib.hid hbp
        clear hbp
        go_wp2_with fail
        go_ret
        refine ⟨?_, rfl⟩
        rw [HT.out, HP.out, ← HBP.out]
        rfl

/-- A row of the call's own: the digits ys, all of them. -/
def MineI (B : Nat) (w : World) (g : Nat) (ys : List Int) : Prop := OwnI B w (some ⟨g, 0, none⟩) ys.length ys.length ys
theorem MineI.cell {B : Nat} {w : World} {g : Nat} {ys : List Int} (h : MineI B w g ys) (j : Nat) (hj : j < ys.length) : w.cell? ⟨g, j, none⟩ = some (.int .i64 (ys.getD j 0)) ∧ w.frozen? ⟨g, j, none⟩ = false := by
  refine ⟨?_, World.ownsRow.frozenAt h j⟩
  rw [World.ownsRow.cellAt h j (by omega), List.getElem?_map, List.getElem?_eq_getElem hj, getD_lt hj]
  rfl
theorem MineI.set {B : Nat} {w : World} {g : Nat} {ys : List Int} (h : MineI B w g ys) (j : Nat) (v : Int) : MineI B (w.setCell ⟨g, j, none⟩ (.int .i64 v)) g (ys.set j v) := by
  have := (World.ownsRow.stored h j (.int .i64 v)).1
  unfold MineI OwnI
  rw [List.length_set, List.map_set]
  exact this
theorem made_mineI {B : Nat} {w : World} {g n : Nat} (h : w.ownsRow B 3 1 (.slice (some ⟨g, 0, none⟩) n n) n (madeCells #[.int .i64 0] n).toList) : MineI B w g (List.replicate n 0) := by
  rw [toList_madeCells_one] at h
  unfold MineI OwnI
  simpa using h

/-- The number that bits make. -/
def bval (g : Nat → Bool) : Nat → Nat
  | 0 => 0
  | k + 1 => bval g k + 2 ^ k * (g k).toNat
theorem bval_lt (g : Nat → Bool) (k : Nat) : bval g k < 2 ^ k := by
  induction k with
  | zero => simp [bval]
  | succ k ih =>
    simp only [bval, Nat.pow_succ]
    have : (g k).toNat ≤ 1 := Bool.toNat_le _
    rcases (show (g k).toNat = 0 ∨ (g k).toNat = 1 by omega) with h | h <;> rw [h] <;> omega
theorem bval_bit (g : Nat → Bool) (k i : Nat) (h : i < k) : bval g k / 2 ^ i % 2 = (g i).toNat := by
  induction k with
  | zero => omega
  | succ k ih =>
    simp only [bval]
    have hb : (g k).toNat ≤ 1 := Bool.toNat_le _
    by_cases hi : i = k
    · subst hi
      rw [Nat.add_mul_div_left _ _ (Nat.two_pow_pos _), Nat.div_eq_of_lt (bval_lt g i)]
      omega
    · have hik : i < k := by omega
      obtain ⟨d, hd⟩ : ∃ d, k = i + 1 + d := ⟨k - i - 1, by omega⟩
      have e : 2 ^ k * (g k).toNat = 2 ^ i * (2 * (2 ^ d * (g k).toNat)) := by
        rw [hd, Nat.pow_add, Nat.pow_succ]; simp [Nat.mul_assoc]
      rw [e, Nat.add_mul_div_left _ _ (Nat.two_pow_pos _), Nat.add_mul_mod_self_left, ih hik]

/-- What digit j holds when the bits from s on have been put in. -/
def part (v s j : Nat) : Nat := v / 2 ^ (max s (16 * j)) % 2 ^ (16 * j + 16 - max s (16 * j))
theorem part_other {v i j : Nat} (h : j ≠ i / 16) : part v i j = part v (i + 1) j := by
  unfold part
  rcases (show i + 1 ≤ 16 * j ∨ 16 * j + 16 ≤ i by omega) with h1 | h1
  · rw [show max i (16 * j) = 16 * j by omega, show max (i + 1) (16 * j) = 16 * j by omega]
  · rw [show 16 * j + 16 - max i (16 * j) = 0 by omega, show 16 * j + 16 - max (i + 1) (16 * j) = 0 by omega]
    simp [Nat.mod_one]
theorem part_step (v i : Nat) : part v i (i / 16) = 2 * part v (i + 1) (i / 16) + v / 2 ^ i % 2 := by
  unfold part
  rw [show max i (16 * (i / 16)) = i by omega, show max (i + 1) (16 * (i / 16)) = i + 1 by omega]
  obtain ⟨m, hm⟩ : ∃ m, 16 * (i / 16) + 16 - i = m + 1 := ⟨16 * (i / 16) + 15 - i, by omega⟩
  rw [hm, show 16 * (i / 16) + 16 - (i + 1) = m by omega, Nat.pow_succ 2 i, ← Nat.div_div_eq_div_mul, Nat.pow_succ, Nat.mul_comm (2 ^ m) 2]
  generalize v / 2 ^ i = u
  rw [Nat.mod_mul]
  omega
theorem part_start {v k j : Nat} (hv : v < 2 ^ k) : part v k j = 0 := by
  unfold part
  rw [Nat.div_eq_of_lt (Nat.lt_of_lt_of_le hv (Nat.pow_le_pow_right (by omega) (by omega)))]
  simp
theorem part_zero (v j : Nat) : part v 0 j = v / 65536 ^ j % 65536 := by
  unfold part
  rw [show max 0 (16 * j) = 16 * j by omega, show 16 * j + 16 - 16 * j = 16 by omega, show (65536 : Nat) ^ j = 2 ^ (16 * j) by rw [Nat.pow_mul]]
theorem part_lt (v s j : Nat) : part v s j < 65536 := by
  unfold part
  have h1 : v / 2 ^ max s (16 * j) % 2 ^ (16 * j + 16 - max s (16 * j)) < 2 ^ (16 * j + 16 - max s (16 * j)) := Nat.mod_lt _ (Nat.two_pow_pos _)
  have h2 : 2 ^ (16 * j + 16 - max s (16 * j)) ≤ 2 ^ 16 := Nat.pow_le_pow_right (by omega) (by omega)
  omega
theorem part_half {v i : Nat} : 2 * part v (i + 1) (i / 16) + v / 2 ^ i % 2 < 65536 := by rw [← part_step]; exact part_lt _ _ _

theorem dval_digits (v n : Nat) {ds : List Int} (hl : ds.length = n) (h : ∀ j, j < n → ds.getD j 0 = ((v / 65536 ^ j % 65536 : Nat) : Int)) : dval 65536 ds = ((v % 65536 ^ n : Nat) : Int) := by
  have key : ∀ m, m ≤ n → dval 65536 (ds.take m) = ((v % 65536 ^ m : Nat) : Int) := by
    intro m
    induction m with
    | zero => intro _; simp [dval, Nat.mod_one]
    | succ m ih =>
      intro hm
      rw [dval_take_succ, ih (by omega), h m (by omega), Nat.pow_succ, Nat.mod_mul]
      simp
  have := key n (Nat.le_refl _)
  rwa [List.take_of_length_le (by omega)] at this

def ofSign (neg : Bool) (v : Int) : Int := if neg then -1 - v else v

/-- A slice of bits, as a function may be handed it. -/
structure SlB (w : World) (ao : Option Addr) (k cap : Nat) (f : Nat → Bool) : Prop where
  le : k ≤ cap
  most : cap ≤ 9223372036854775807
  cells : ∀ j, j < k → ∃ b o, ao = some ⟨b, o, none⟩ ∧ w.cell? ⟨b, o + j, none⟩ = some (.bool (f j))
theorem SlB.below {w w' : World} {ao : Option Addr} {k cap : Nat} {f : Nat → Bool} (h : SlB w ao k cap f) (hb : Below w.heap.size w w') : SlB w' ao k cap f :=
  ⟨h.le, h.most, fun j hj => by
    obtain ⟨b, o, h1, h2⟩ := h.cells j hj
    exact ⟨b, o, h1, by rw [hb.cell (World.block_lt_of_cell? w _ h2)]; exact h2⟩⟩

set_option maxRecDepth 100000 in
set_option maxHeartbeats 400000 in
theorem rof_pos (w : World) (ao : Option Addr) (k cap : Nat) (f : Nat → Bool) (neg : Bool) (hx : SlB w ao k cap f) (hk : k ≤ 34359738368) :
    Calls Try.prog 104 #[.slice ao k cap, .bool neg] w (RetRef w (ofSign neg (bval (fun i => f i != neg) k)) (k / 16 + 5)) := by
  obtain ⟨v, hv⟩ : ∃ v, bval (fun i => f i != neg) k = v := ⟨_, rfl⟩
  have hvlt : v < 2 ^ k := by rw [← hv]; exact bval_lt _ _
  have HBIT : Hid (∀ i, i < k → v / 2 ^ i % 2 = (f i != neg).toNat) := Lib.hid (fun i hi => by rw [← hv, bval_bit _ _ _ hi])
  rw [hv]
  have HX := Lib.hid hx
  have hcap := hx.le
  have hmx := hx.most
  have HVL := Lib.hid hvlt
  obtain ⟨i0, hi, hz0, hz1, hz2⟩ := info_parts info_int
  have e16 : (k : Int) / 16 = ((k / 16 : Nat) : Int) := by omega
  obtain ⟨n, hn⟩ : ∃ n, k / 16 = n := ⟨_, rfl⟩
  rw [hn] at e16 ⊢
  have HN := Lib.hid hn
  have hnb : n ≤ 2147483648 := by omega
  clear hx hv hvlt hn
  go_enter Try.func104, Try.ntmps104
  go_wp2_with (at_make; refine wpList_make_full _ rfl _ _ 29 rfl (w.heap.size + 1) 3 i0 (.int .i64 0) 1 Try.underlying29 hi hz0 hz1 _ _ _ _ (n + 1) rfl rfl (by omega) (by omega) (by rw [hz2]; omega) (by unfold maxLen; omega) (by simp) ?_)
  intro w1 hown hgrow
  have hb1 : Below (w.heap.size + 1) (w.alloc (.cells #[.bool false, .slice none 0 0] 31)) w1 := (Below.refl _ _).grown hgrow (by simp) (by intro k hk; cases hk)
  have hm1 := made_mineI (n := n + 1) (by simpa using hown)
  clear hown hgrow
  go_wp2_with fail
  go_loopw [6] (fun i wr => ∃ (s : Nat) (ds : List Int), s ≤ k ∧ i = .int .i64 ((s : Int) - 1) ∧ ds.length = n + 1 ∧ (∀ j, j < n + 1 → ds.getD j 0 = ((part v s j : Nat) : Int)) ∧ MineI (w.heap.size + 1) wr (w.heap.size + 1) ds ∧
      Below (w.heap.size + 1) (w.alloc (.cells #[.bool false, .slice none 0 0] 31)) wr) (fun i _ => (intOf i + 1).toNat)
  case atStart => exact ⟨k, _, Nat.le_refl _, rfl, List.length_replicate, fun j hj => by rw [part_start HVL.out]; simp [List.getD, List.getElem?_replicate]; split <;> rfl, hm1, hb1⟩
  case round =>
    obtain ⟨s, ds, hs, rfl, hdl, hd, hm, hbel⟩ := hrel
    have HM := Lib.hid hm
    have HD := Lib.hid hd
    have HDL := Lib.hid hdl
    have hbw : Below w.heap.size w wr := ((Below.refl _ _).alloc (Nat.le_refl _) _).trans (hbel.mono (by omega))
    have hsz : w.heap.size + 1 ≤ wr.heap.size := by have := hbel.size; simpa using this
    clear hm hd hdl hm1 hb1
    by_cases hs0 : s = 0
    · subst hs0
      have hdig : Dig 65536 ds := by
        intro z hz
        obtain ⟨j, hj, rfl⟩ := List.getElem_of_mem hz
        have h1 := HD.out j (by rw [← HDL.out]; exact hj)
        rw [getD_lt hj] at h1
        have h2 := part_lt v 0 j
        omega
      have hval : dval 65536 ds = (v : Int) := by
        rw [dval_digits v (n + 1) HDL.out (fun j hj => by rw [HD.out j hj, part_zero])]
        have h1 : v < 65536 ^ (n + 1) := by
          refine Nat.lt_of_lt_of_le HVL.out ?_
          rw [show (65536 : Nat) = 2 ^ 16 from rfl, ← Nat.pow_mul]
          exact Nat.pow_le_pow_right (by omega) (by have := HN.out; omega)
        rw [Nat.mod_eq_of_lt h1]
      have HV := Lib.hid hval
      have hmm := HM.out
      unfold MineI at hmm
      rw [HDL.out] at hmm
      have HS := Lib.hid hmm.sl
      have hr0 : wr.heap[w.heap.size]? = some (.cells #[.bool false, .slice none 0 0] 31 (0, 0)) := (hbel.block _ (by omega)).trans (heap_alloc_new w _)
      clear hmm hval
      go_wp2_with fail
      refine (made_int wr false _ _ _ ds HS.out hdig rfl).mono ?_
      rintro e w2 ⟨neg2, a2, n2, c2, z2, rfl, hint, hn2, hb2⟩
      have hint2 : RefAt w2 neg2 a2 n2 c2 z2 (v : Int) := by rw [← HV.out]; simpa [sgn] using hint
      have HI := Lib.hid hint2
      have hr2 := (hb2.block w.heap.size (by omega)).trans hr0
      have hbw2 : Below w.heap.size w w2 := hbw.trans (hb2.mono hbw.size)
      have hz2' : w.heap.size + 1 ≤ w2.heap.size := Nat.le_trans hsz hb2.size
      clear hint hint2 hb2 hr0
      cases neg
      · have HF : Hid (ofSign false (v : Int) = v) := Lib.hid rfl
        obtain ⟨c0, c1, f0, f1⟩ := blk2 hr2
        have hl : w.heap.size < w2.heap.size := by omega
        go_wp2_with fail
        have e0 : ((w2.setCell ⟨w.heap.size, 0, none⟩ (.bool neg2)).setCell ⟨w.heap.size, 1, none⟩ (.slice a2 n2 c2)).cell? ⟨w.heap.size, 0, none⟩ = some (.bool neg2) := by rw [World.cell?_setCell_other _ _ _ _ (by simp)]; exact World.cell?_setCell_same _ _ _ c0
        have e1 : ((w2.setCell ⟨w.heap.size, 0, none⟩ (.bool neg2)).setCell ⟨w.heap.size, 1, none⟩ (.slice a2 n2 c2)).cell? ⟨w.heap.size, 1, none⟩ = some (.slice a2 n2 c2) := World.cell?_setCell_same _ _ _ ((World.cell?_setCell_other _ _ _ _ (by simp)).trans c1)
        have HI3 := Lib.hid (HI.out.stored hr2 (.bool neg2) (.slice a2 n2 c2))
        have hbs : Below w.heap.size w ((w2.setCell ⟨w.heap.size, 0, none⟩ (.bool neg2)).setCell ⟨w.heap.size, 1, none⟩ (.slice a2 n2 c2)) := (hbw2.setCell (p := ⟨w.heap.size, 0, none⟩) (Nat.le_refl _) _).setCell (p := ⟨w.heap.size, 1, none⟩) (Nat.le_refl _) _
        generalize ((w2.setCell ⟨w.heap.size, 0, none⟩ (.bool neg2)).setCell ⟨w.heap.size, 1, none⟩ (.slice a2 n2 c2)) = w5 at e0 e1 HI3 hbs ⊢
        have hba : Below w5.heap.size w5 (w5.alloc (.cells #[.bool neg2, .slice a2 n2 c2] 31)) := by go_grown
        have d0 := (hba.cell (p := ⟨w.heap.size, 0, none⟩) (World.block_lt_of_cell? _ _ e0)).trans e0
        have d1 := (hba.cell (p := ⟨w.heap.size, 1, none⟩) (World.block_lt_of_cell? _ _ e1)).trans e1
        refine bodyPost_ret (v := .agg #[.bool neg2, .slice a2 n2 c2]) (by simp [results, Try.results104, go_sem, d0, d1]) rfl ?_
        exact ⟨_, _, _, _, _, rfl, by rw [HF.out]; exact HI3.out.below hba, by omega, hbs.trans (hba.mono hbs.size)⟩
      · have HF : Hid (ofSign true (v : Int) = -1 - v) := Lib.hid rfl
        obtain ⟨c0, c1, f0, f1⟩ := blk2 hr2
        have hl : w.heap.size < w2.heap.size := by omega
        have hba : Below w2.heap.size w2 (w2.alloc (.cells #[.bool neg2, .slice a2 n2 c2] 31)) := by go_grown
        have hr4 := heap_alloc_new w2 (.cells #[.bool neg2, .slice a2 n2 c2] 31)
        have hr5 := (hba.block _ hl).trans hr2
        have hbw4 := hbw2.trans (hba.mono hbw2.size)
        have HI4 := Lib.hid (HI.out.below hba)
        go_wp2_with fail
        generalize (w2.alloc (.cells #[.bool neg2, .slice a2 n2 c2] 31)) = w4 at hr4 hr5 hbw4 HI4 ⊢
        obtain ⟨p7, hp7⟩ : ∃ p7, p7 = w2.heap.size := ⟨_, rfl⟩
        rw [← hp7] at hr4 ⊢
        have hne7 : w.heap.size ≠ p7 := by omega
        obtain ⟨x0, x1, -, -⟩ := blk2 hr4
        have hl7 : p7 < w4.heap.size := World.block_lt_of_cell? _ _ x0
        have hl4 : w.heap.size < w4.heap.size := by omega
        have HKP : Hid (∀ w', Below w4.heap.size w4 w' → w'.cell? ⟨p7, 0, none⟩ = some (.bool neg2) ∧ w'.cell? ⟨p7, 1, none⟩ = some (.slice a2 n2 c2)) := Lib.hid (fun w' hb => ⟨(hb.cell (p := ⟨p7, 0, none⟩) hl7).trans x0, (hb.cell (p := ⟨p7, 1, none⟩) hl7).trans x1⟩)
        clear hba hp7 hr4 x0 x1 c0 c1 f0 f1 hr2 HI hbw2 hz2'
        go_region_held3 (fun w' => w'.cell? ⟨p7, 0, none⟩ = some (.bool neg2) ∧ w'.cell? ⟨p7, 1, none⟩ = some (.slice a2 n2 c2)) ((first | exact HKP.out _ X2 | exact HKP.out _ X1 | exact HKP.out _ (Below.refl _ _).drew | (go_split_ands; refine ⟨?_, ?_⟩ <;> (rw [World.cell?_setCell_far _ _ _ _ (by dsimp only; omega), World.cell?_setCell_far _ _ _ _ (by dsimp only; omega)]; assumption))))
          (first | (go_at_call 18; refine (rnew_any _ (-1) (by omega) (by omega)).mono ?_; rintro e v1 ⟨n1, a1, k1, cc1, z1, rfl, hint1, hk1, u1⟩; have X1 : Below w4.heap.size w4 v1 := (Below.refl _ _).drew.trans u1; have HI1 := Lib.hid hint1; clear hint1) | (go_at_call 41; refine (rsub_any _ n1 neg2 a1 a2 k1 n2 cc1 c2 z1 z2 (-1) v HI1.out (HI4.out.below X1) (by omega) (by omega)).mono ?_; rintro e v2 ⟨neg', ao', n', cap', zs', rfl, hint, hn', u2⟩; have X2 : Below w4.heap.size w4 v2 := X1.trans (u2.mono X1.size); have hr6 := (X2.block _ hl4).trans hr5; obtain ⟨c0, c1, f0, f1⟩ := blk2 hr6; have HIF := Lib.hid (hint.stored hr6 (.bool neg') (.slice ao' n' cap')); clear hint hr6))
        have hbw6 := hbw4.trans (X2.mono hbw4.size)
        go_wp2_with fail
        refine bodyPost_ret (v := .agg #[.bool neg', .slice ao' n' cap']) (by simp [results, Try.results104, go_sem, c0, c1]) rfl ?_
        exact fin_ref (Nat.le_refl _) hbw6 HIF.out HF.out.symm (by omega)
    · obtain ⟨i, rfl⟩ : ∃ i, s = i + 1 := ⟨s - 1, by omega⟩
      have hj1 : ((i + 1 : Nat) : Int) - 1 = (i : Int) := by omega
      rw [hj1]
      have hi0 : (0 : Int) ≤ (i : Int) := by omega
      obtain ⟨q, hq⟩ : ∃ q, i / 16 = q := ⟨_, rfl⟩
      have HQ := Lib.hid hq
      have hqi : (i : Int) / 16 = (q : Int) := by omega
      have hqn : q ≤ n := by have := HN.out; omega
      obtain ⟨hcell, hfrz⟩ := HM.out.cell q (by rw [HDL.out]; omega)
      rw [HD.out q (by omega)] at hcell
      have hps := part_step v i
      have hph := part_half (v := v) (i := i)
      rw [HBIT.out i (by omega), hq] at hps hph
      obtain ⟨p, hp⟩ : ∃ p, part v (i + 1) q = p := ⟨_, rfl⟩
      rw [hp] at hcell hps hph
      obtain ⟨bb, ob, rfl, hcb⟩ := HX.out.cells i (by omega)
      have hbl : bb < w.heap.size := World.block_lt_of_cell? w _ hcb
      have hcb2 : wr.cell? ⟨bb, ob + i, none⟩ = some (.bool (f i)) := by rw [hbw.cell hbl]; exact hcb
      have hne : ¬ (w.heap.size + 1 = bb) := by omega
      obtain ⟨b, hb⟩ : ∃ b, f i = b := ⟨_, rfl⟩
      rw [hb] at hcb2 hps hph
      have hki : (i : Int) < k := by omega
      have hqi0 : (0 : Int) ≤ (q : Int) ∧ (q : Int) < n + 1 := by omega
      have hp0 : (p : Int) ≤ 65535 := by omega
      clear hcb hp hq hb
      cases hbn : (b != neg)
      · have hbe : (b == neg) = true := by revert hbn; cases b <;> cases neg <;> simp
        rw [hbn] at hps hph
        have HPS : Hid (part v i q = 2 * p) := Lib.hid (by rw [hps]; rfl)
        clear hps hph
        go_wp2_with fail
        go_roundw
        case rel =>
          have hdl := HDL.out
          refine ⟨i, ds.set q ((p : Int) * 2), by omega, rfl, by rw [List.length_set]; exact hdl, ?_, HM.out.set q _, hbel.setCell (p := ⟨w.heap.size + 1, q, none⟩) (Nat.le_refl _) _⟩
          intro j hj
          by_cases hjq : j = q
          · subst hjq
            rw [getD_set_eq (by omega), HPS.out]
            omega
          · rw [getD_set_ne (by omega), HD.out j hj, ← part_other (i := i) (by rw [HQ.out]; exact hjq)]
        case measure => simp [intOf]
      · have hbe : (b == neg) = false := by revert hbn; cases b <;> cases neg <;> simp
        rw [hbn] at hps hph
        have HPS : Hid (part v i q = 2 * p + 1) := Lib.hid (by rw [hps]; rfl)
        have hp1 : (p : Int) * 2 + 1 ≤ 65535 := by simp at hph; omega
        clear hps hph
        go_wp2_with fail
        go_roundw
        case rel =>
          have hdl := HDL.out
          refine ⟨i, (ds.set q ((p : Int) * 2)).set q ((p : Int) * 2 + 1), by omega, rfl, by rw [List.length_set, List.length_set]; exact hdl, ?_, (HM.out.set q _).set q _, (hbel.setCell (p := ⟨w.heap.size + 1, q, none⟩) (Nat.le_refl _) _).setCell (p := ⟨w.heap.size + 1, q, none⟩) (Nat.le_refl _) _⟩
          intro j hj
          by_cases hjq : j = q
          · subst hjq
            rw [getD_set_eq (by rw [List.length_set]; omega), HPS.out]
            omega
          · rw [getD_set_ne (by omega), getD_set_ne (by omega), HD.out j hj, ← part_other (i := i) (by rw [HQ.out]; exact hjq)]
        case measure => simp [intOf]
end Go.Proofs.Ytpakfknacmcohaa
