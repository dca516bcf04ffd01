/- Num11, Num12, Num13, Num14, Num15, Num16 in one text. -/
import Derived.Test.YtpakfknacmcohaaNumB
import Derived.Deep.AppendLies
import Derived.Maps.AppendAt
namespace Go.Proofs.Ytpakfknacmcohaa
open Go.RowKit
set_option autoImplicit false
set_option linter.unusedVariables false

/-- The number of ones among the lowest k bits. -/
def onesTo (v : Nat) : Nat → Nat
  | 0 => 0
  | k + 1 => onesTo v k + v / 2 ^ k % 2

def popLit : ByteArray := { data := #[0, 1, 1, 2, 1, 2, 2, 3, 1, 2, 2, 3, 2, 3, 3, 4, 1, 2, 2, 3, 2, 3, 3, 4, 2, 3, 3, 4, 3, 4, 4, 5, 1, 2, 2, 3, 2, 3, 3, 4, 2, 3, 3, 4, 3, 4, 4, 5, 2, 3, 3, 4, 3, 4, 4, 5, 3, 4, 4, 5, 4, 5, 5, 6, 1, 2, 2, 3, 2, 3, 3, 4, 2, 3, 3, 4, 3, 4, 4, 5, 2, 3, 3, 4, 3, 4, 4, 5, 3, 4, 4, 5, 4, 5, 5, 6, 2, 3, 3, 4, 3, 4, 4, 5, 3, 4, 4, 5, 4, 5, 5, 6, 3, 4, 4, 5, 4, 5, 5, 6, 4, 5, 5, 6, 5, 6, 6, 7, 1, 2, 2, 3, 2, 3, 3, 4, 2, 3, 3, 4, 3, 4, 4, 5, 2, 3, 3, 4, 3, 4, 4, 5, 3, 4, 4, 5, 4, 5, 5, 6, 2, 3, 3, 4, 3, 4, 4, 5, 3, 4, 4, 5, 4, 5, 5, 6, 3, 4, 4, 5, 4, 5, 5, 6, 4, 5, 5, 6, 5, 6, 6, 7, 2, 3, 3, 4, 3, 4, 4, 5, 3, 4, 4, 5, 4, 5, 5, 6, 3, 4, 4, 5, 4, 5, 5, 6, 4, 5, 5, 6, 5, 6, 6, 7, 3, 4, 4, 5, 4, 5, 5, 6, 4, 5, 5, 6, 5, 6, 6, 7, 4, 5, 5, 6, 5, 6, 6, 7, 5, 6, 6, 7, 6, 7, 7, 8] }
theorem pop_size : popLit.size = 256 := by decide +kernel
theorem pop_all : ∀ k : Fin 256, ((popLit[k.val]'(by rw [pop_size]; exact k.isLt)).toNat) = onesTo k.val 8 := by decide +kernel

theorem onesTo_le (v k : Nat) : onesTo v k ≤ k := by
  induction k with
  | zero => simp [onesTo]
  | succ k ih => simp only [onesTo]; omega

theorem onesTo_add (v j k : Nat) : onesTo v (j + k) = onesTo v j + onesTo (v / 2 ^ j) k := by
  induction k with
  | zero => simp [onesTo]
  | succ k ih =>
    rw [show j + (k + 1) = j + k + 1 by omega]
    simp only [onesTo]
    rw [ih, Nat.div_div_eq_div_mul, ← Nat.pow_add]
    omega

theorem onesTo_mod (v k m : Nat) (h : k ≤ m) : onesTo (v % 2 ^ m) k = onesTo v k := by
  induction k with
  | zero => rfl
  | succ k ih =>
    simp only [onesTo]
    rw [ih (by omega)]
    congr 1
    have e : v / 2 ^ k % 2 = (v % 2 ^ m) / 2 ^ k % 2 := by
      have h1 := Nat.testBit_mod_two_pow v m k
      have hk : k < m := by omega
      simp only [hk, decide_true, Bool.true_and] at h1
      rw [Nat.testBit_eq_decide_div_mod_eq, Nat.testBit_eq_decide_div_mod_eq] at h1
      have h2 := decide_eq_decide.1 h1
      omega
    exact e.symm

theorem ones32 (d : Nat) : onesTo d 32 = onesTo (d / 16777216 % 256) 8 + onesTo (d / 65536 % 256) 8 + onesTo (d / 256 % 256) 8 + onesTo (d % 256) 8 := by
  have h1 := onesTo_add d 8 24
  have h2 := onesTo_add (d / 2 ^ 8) 8 16
  have h3 := onesTo_add (d / 2 ^ 8 / 2 ^ 8) 8 8
  rw [show (256 : Nat) = 2 ^ 8 from rfl, onesTo_mod _ _ _ (Nat.le_refl 8), onesTo_mod _ _ _ (Nat.le_refl 8), onesTo_mod _ _ _ (Nat.le_refl 8), onesTo_mod _ _ _ (Nat.le_refl 8)]
  rw [Nat.div_div_eq_div_mul] at h2 h3
  rw [Nat.div_div_eq_div_mul] at h3
  simp only [Nat.reducePow, Nat.reduceMul, Nat.reduceAdd] at *
  omega

theorem and_255 (y z : Nat) (h : y < 4294967296) (hz : y % 256 = z) : bits BinOp.and IntKind.u32 (y : Int) 255 = (z : Int) := by
  have h1 := u32_and_nat y 255 (by omega) (by omega)
  have h2 : y &&& 255 = y % 256 := Nat.and_two_pow_sub_one_eq_mod y 8
  rw [h2, hz] at h1
  exact h1

set_option maxRecDepth 100000 in
theorem ones_walk (w : World) (d y3 y2 y1 z2 z1 z0 : Nat) (p3 p2 p1 p0 : Nat) (e3 : (d : Int) / 16777216 = y3) (e2 : (d : Int) / 65536 = y2) (e1 : (d : Int) / 256 = y1)
    (a2 : bits BinOp.and IntKind.u32 (y2 : Int) 255 = (z2 : Int)) (a1 : bits BinOp.and IntKind.u32 (y1 : Int) 255 = (z1 : Int)) (a0 : bits BinOp.and IntKind.u32 (d : Int) 255 = (z0 : Int))
    (h3 : y3 < 256) (h2 : z2 < 256) (h1 : z1 < 256) (h0 : z0 < 256)
    (b3 : (popLit[y3]'(by rw [pop_size]; exact h3)).toNat = p3) (b2 : (popLit[z2]'(by rw [pop_size]; exact h2)).toNat = p2) (b1 : (popLit[z1]'(by rw [pop_size]; exact h1)).toNat = p1) (b0 : (popLit[z0]'(by rw [pop_size]; exact h0)).toNat = p0)
    (c3 : p3 ≤ 8) (c2 : p2 ≤ 8) (c1 : p1 ≤ 8) (c0 : p0 ≤ 8) :
    Calls Try.prog 80 #[.int .u32 (d : Int)] w (RetQ w (.int .i64 ((p3 + p2 + p1 + p0 : Nat) : Int))) := by
  unfold popLit at b3 b2 b1 b0
  have i3 : (0 : Int) ≤ y3 ∧ (y3 : Int) < 256 := by omega
  have i2 : (0 : Int) ≤ z2 ∧ (z2 : Int) < 256 := by omega
  have i1 : (0 : Int) ≤ z1 ∧ (z1 : Int) < 256 := by omega
  have i0 : (0 : Int) ≤ z0 ∧ (z0 : Int) < 256 := by omega
  go_enter Try.func80, Try.ntmps80
  go_wp2_with fail
  go_quiet (fail)
  clear b3 b2 b1 b0
  go_wp2_with fail
  go_ret
  exact ⟨rfl, nq, rfl⟩

theorem ones_any (w : World) (d : Nat) (h : d < 4294967296) :
    Calls Try.prog 80 #[.int .u32 (d : Int)] w (RetQ w (.int .i64 (onesTo d 32 : Int))) := by
  have hs := ones32 d
  rw [Nat.mod_eq_of_lt (show d / 16777216 < 256 by omega)] at hs
  rw [hs]
  exact ones_walk w d (d / 16777216) (d / 65536) (d / 256) (d / 65536 % 256) (d / 256 % 256) (d % 256) _ _ _ _ (by omega) (by omega) (by omega) (and_255 _ _ (by omega) rfl) (and_255 _ _ (by omega) rfl) (and_255 _ _ h rfl)
    (by omega) (by omega) (by omega) (by omega) (pop_all ⟨_, by omega⟩) (pop_all ⟨_, by omega⟩) (pop_all ⟨_, by omega⟩) (pop_all ⟨_, by omega⟩) (onesTo_le _ _) (onesTo_le _ _) (onesTo_le _ _) (onesTo_le _ _)

/-- The number of ones. -/
def pops (v : Nat) : Nat := onesTo v (blen v)

theorem blen_lt (v : Nat) : v < 2 ^ blen v := by
  unfold blen
  by_cases h : v = 0
  · subst h; decide
  · rw [if_neg h]
    exact Nat.lt_log2_self

theorem onesTo_zero (k : Nat) : onesTo 0 k = 0 := by
  induction k with
  | zero => rfl
  | succ k ih => simp [onesTo, ih]

theorem onesTo_big (v k : Nat) (h : v < 2 ^ k) : onesTo v k = pops v := by
  unfold pops
  have hb : blen v ≤ k := by
    unfold blen
    by_cases h0 : v = 0
    · rw [if_pos h0]; omega
    · rw [if_neg h0]
      have := (Nat.log2_lt (n := v) (k := k) h0).2 h
      omega
  obtain ⟨j, rfl⟩ : ∃ j, k = blen v + j := ⟨k - blen v, by omega⟩
  rw [onesTo_add, Nat.div_eq_of_lt (blen_lt v), onesTo_zero]
  rfl

theorem ones_snoc {zs : List Int} (lz : Lim zs) {j : Nat} {t : Nat} (ht : zs.getD j 0 = t) :
    onesTo (val (zs.take (j + 1))).toNat (32 * (j + 1)) = onesTo (val (zs.take j)).toNat (32 * j) + onesTo t 32 := by
  have h1 := val_nonneg (Lim_take lz j)
  have h2 := val_lt (Lim_take lz j)
  obtain ⟨r, hr⟩ : ∃ r : Nat, val (zs.take j) = r := ⟨(val (zs.take j)).toNat, by omega⟩
  have hlen : (zs.take j).length ≤ j := by rw [List.length_take]; omega
  have h3 := pow_le hlen
  have hp : (4294967296 : Int) ^ j = ((2 ^ (32 * j) : Nat) : Int) := by rw [base_pow]; simp
  rw [val_take_succ, ht, hr]
  rw [hr] at h2
  rw [hp] at h3 ⊢
  have hv : ((r : Int) + ((2 ^ (32 * j) : Nat) : Int) * (t : Int)) = ((r + 2 ^ (32 * j) * t : Nat) : Int) := by simp
  rw [hv, Int.toNat_natCast, Int.toNat_natCast, show 32 * (j + 1) = 32 * j + 32 by omega, onesTo_add]
  have hr2 : r < 2 ^ (32 * j) := by omega
  have hpos : 0 < 2 ^ (32 * j) := Nat.two_pow_pos _
  rw [Nat.add_mul_div_left _ _ hpos, Nat.div_eq_of_lt hr2, Nat.zero_add, ← onesTo_mod (r + 2 ^ (32 * j) * t) (32 * j) (32 * j) (Nat.le_refl _), Nat.add_mul_mod_self_left, Nat.mod_eq_of_lt hr2]

set_option maxRecDepth 100000 in
theorem count_any (w : World) (nx : Bool) (ao : Option Addr) (n cap : Nat) (xs : List Int) (x : Int) (hx : IntAt w nx ao n cap xs x) (hn : n ≤ 34359738368) :
    Calls Try.prog 28 #[.agg #[.bool nx, .slice ao n cap]] w (RetV w (.int .i64 (pops (cpl x).toNat : Int))) := by
  have HX := Lib.hid hx
  clear hx
  go_enter Try.func28, Try.ntmps28
  go_wp2_with fail
  refine (complement_any _ nx ao n cap xs x (HX.out.below (by go_grown)) hn).mono ?_
  rintro e w1 ⟨a1, k1, c1, zs, rfl, hown, hl1, ht1, hv1, hk1, hb1⟩
  have HL : Hid (zs.length = k1) := hown.sl.len
  have HO := Lib.hid hown.sl
  have HV := Lib.hid hv1
  have HB := Lib.hid (show Below w.heap.size w w1 from Below.trans (by go_grown) (hb1.mono (by go_size)))
  have hcap := hown.sl.le
  have hmx : c1 ≤ 9223372036854775807 := by have := hown.sl.most; unfold maxLen at this; omega
  have hl2 : ∀ j, zs.getD j 0 = ((zs.getD j 0).toNat : Int) ∧ (zs.getD j 0).toNat < 4294967296 := fun j => by have := Lim_getD hl1 j; omega
  have HL2 := Lib.hid hl2
  have HLM := Lib.hid hl1
  clear hown hb1 hv1 hl2 hl1
  go_wp2_with fail
  go_loopw [3, 9] (fun c i wr => ∃ (j q : Nat), j ≤ k1 ∧ i = .int .i64 j ∧ c = .int .i64 q ∧ q = onesTo (val (zs.take j)).toNat (32 * j) ∧ ∃ m, wr = w1.drewN m) (fun _ i _ => k1 - (intOf i).toNat)
  case atStart => exact ⟨0, 0, by omega, rfl, rfl, rfl, 0, rfl⟩
  case round =>
    obtain ⟨j, q, hj, rfl, rfl, hq, m, rfl⟩ := hrel
    have HQ := Lib.hid hq
    have hqb : q ≤ 32 * j := by rw [hq]; exact onesTo_le _ _
    clear hq
    by_cases hjk : j < k1
    · obtain ⟨b, o, rfl, hc⟩ := HO.out.cells.at (k := j) (by rw [HL.out]; exact hjk)
      obtain ⟨t, ht⟩ : ∃ t, (zs.getD j 0).toNat = t := ⟨_, rfl⟩
      obtain ⟨hz, hlt⟩ := HL2.out j
      rw [ht] at hz hlt
      rw [hz] at hc
      have HZ := Lib.hid hz
      have HON : Hid (∀ w', Calls Try.prog 80 #[.int .u32 (t : Int)] w' (RetQ w' (.int .i64 (onesTo t 32 : Int)))) := Lib.hid (fun w' => ones_any w' t hlt)
      have hob := onesTo_le t 32
      have hji : (j : Int) < k1 := by omega
      clear ht hz
      go_wp2_with fail
      refine (HON.out _).mono ?_
      rintro e w2 ⟨rfl, m2, rfl⟩
      obtain ⟨p, hp⟩ : ∃ p, onesTo t 32 = p := ⟨_, rfl⟩
      have HP := Lib.hid hp
      rw [hp] at hob ⊢
      clear hp
      go_wp2_with fail
      go_roundw
      case rel => exact ⟨j + 1, q + p, by omega, by go_num, by go_num, by rw [ones_snoc HLM.out HZ.out, HP.out, HQ.out], _, by first | rfl | rw [World.drewN_drewN]⟩
      case measure => simp [intOf]; omega
    · obtain rfl : j = k1 := by omega
      have hji : ¬ (j : Int) < j := by omega
      have hfin : q = pops (cpl x).toNat := by
        have h1 := HQ.out
        rw [List.take_of_length_le (by rw [HL.out]; omega), HV.out] at h1
        rw [h1]
        refine onesTo_big _ _ ?_
        have h2 := val_lt HLM.out
        rw [HV.out, HL.out, base_pow] at h2
        have h3 : ((2 : Int) ^ (32 * j)) = ((2 ^ (32 * j) : Nat) : Int) := by simp
        rw [h3] at h2
        have h4 : 0 < 2 ^ (32 * j) := Nat.two_pow_pos _
        omega
      have HF := Lib.hid hfin
      clear hfin
      go_wp2_with fail
      go_ret
      exact ⟨congrArg (fun x => Ending.returned (.int .i64 ((x : Nat) : Int))) HF.out, below_drewN HB.out m⟩

theorem digit_bit (d rest r : Nat) (h : r < 16) : (d + 65536 * rest) / 2 ^ r % 2 = d / 2 ^ r % 2 := by
  have e : 65536 * rest = 2 ^ r * (2 ^ (16 - r) * rest) := by
    rw [← Nat.mul_assoc, ← Nat.pow_add, show r + (16 - r) = 16 by omega]
  rw [e, Nat.add_mul_div_left _ _ (Nat.two_pow_pos r)]
  have e2 : 2 ^ (16 - r) * rest = 2 * (2 ^ (16 - r - 1) * rest) := by
    rw [← Nat.mul_assoc]
    congr 1
    have : 16 - r = (16 - r - 1) + 1 := by omega
    rw [this, Nat.pow_succ, Nat.mul_comm]
    simp
  omega

theorem dval_bit {zs : List Int} (lz : Dig 65536 zs) (q r : Nat) (hr : r < 16) : (dval 65536 zs).toNat / 2 ^ (16 * q + r) % 2 = (zs.getD q 0).toNat / 2 ^ r % 2 := by
  have h1 := dval_nonneg (r := 65536) (by omega) (Dig_take lz q)
  have h2 := dval_lt (r := 65536) (by omega) (Dig_take lz q)
  by_cases hq : q < zs.length
  · have hs := dval_split 65536 zs q
    rw [drop_getD hq, List.length_take, Nat.min_eq_left (by omega)] at hs
    rw [List.length_take, Nat.min_eq_left (by omega)] at h2
    simp only [dval] at hs
    have hd := Dig_getD (by omega : (0 : Int) < 65536) lz q
    have h3 := dval_nonneg (r := 65536) (by omega) (Dig_drop lz (q + 1))
    obtain ⟨a, ha⟩ : ∃ a : Nat, dval 65536 (zs.take q) = a := ⟨(dval 65536 (zs.take q)).toNat, by omega⟩
    obtain ⟨b, hb⟩ : ∃ b : Nat, zs.getD q 0 = b := ⟨(zs.getD q 0).toNat, by omega⟩
    obtain ⟨c, hc⟩ : ∃ c : Nat, dval 65536 (zs.drop (q + 1)) = c := ⟨(dval 65536 (zs.drop (q + 1))).toNat, by omega⟩
    rw [ha, hb, hc, pow16] at hs
    rw [ha, pow16] at h2
    have hv : dval 65536 zs = ((a + 2 ^ (16 * q) * (b + 65536 * c) : Nat) : Int) := by rw [hs]; simp
    have ha2 : a < 2 ^ (16 * q) := by omega
    have hX : (a + 2 ^ (16 * q) * (b + 65536 * c)) / 2 ^ (16 * q) = b + 65536 * c := by
      rw [Nat.add_mul_div_left _ _ (Nat.two_pow_pos _), Nat.div_eq_of_lt ha2, Nat.zero_add]
    rw [hv, hb, Int.toNat_natCast, Int.toNat_natCast, Nat.pow_add, ← Nat.div_div_eq_div_mul, hX]
    exact digit_bit b c r hr
  · rw [getD_ge (by omega)]
    rw [List.take_of_length_le (by omega)] at h1 h2
    have hle := rpow_le (r := 65536) (by omega) (show zs.length ≤ q by omega)
    rw [pow16 q] at hle
    have hlt : (dval 65536 zs).toNat < 2 ^ (16 * q + r) := by
      rw [Nat.pow_add]
      have : 2 ^ (16 * q) * 1 ≤ 2 ^ (16 * q) * 2 ^ r := Nat.mul_le_mul_left _ (Nat.two_pow_pos r)
      omega
    rw [Nat.div_eq_of_lt hlt]
    simp

theorem one_bit (p : Nat) : ((p : Int) % 2 == 1) = (p % 2 == 1) := by
  rw [Bool.eq_iff_iff]
  simp
  omega

set_option maxRecDepth 100000 in
theorem rset_any (w : World) (nx : Bool) (ao : Option Addr) (n cap : Nat) (xs : List Int) (x : Int) (hx : RefAt w nx ao n cap xs x) (hn : n ≤ 34359738368) (i : Nat) (hi : i ≤ 1099511627776) :
    Calls Try.prog 105 #[.agg #[.bool nx, .slice ao n cap], .int .i64 (i : Int)] w (RetV w (.bool (x.natAbs / 2 ^ i % 2 == 1))) := by
  have hlen := hx.sl.len
  have habs : x.natAbs = (dval 65536 xs).toNat := by
    have h0 := dval_nonneg (r := 65536) (by omega) hx.lim
    rw [hx.val]
    cases nx <;> simp [sgn] <;> omega
  have hb := dval_bit hx.lim (i / 16) (i % 16) (by omega)
  rw [show 16 * (i / 16) + i % 16 = i by omega, ← habs] at hb
  rw [hb]
  have ei : (i : Int) / 16 = ((i / 16 : Nat) : Int) := by omega
  have er : (i : Int) % 16 = ((i % 16 : Nat) : Int) := by omega
  obtain ⟨q, hq⟩ : ∃ q, i / 16 = q := ⟨_, rfl⟩
  obtain ⟨r, hr⟩ : ∃ r, i % 16 = r := ⟨_, rfl⟩
  rw [hq] at ei hb ⊢
  rw [hr] at er hb ⊢
  have hrl : r < 16 := by omega
  clear hb habs
  by_cases hqn : q < n
  · obtain ⟨b, o, rfl, hc⟩ := hx.sl.cells.at (k := q) (by omega)
    have hd := Dig_getD (by omega : (0 : Int) < 65536) hx.lim q
    obtain ⟨d, hdd⟩ : ∃ d : Nat, xs.getD q 0 = d := ⟨(xs.getD q 0).toNat, by omega⟩
    rw [hdd] at hc hd ⊢
    rw [Int.toNat_natCast]
    have hcap := hx.sl.le
    have hmx : cap ≤ 9223372036854775807 := by have := hx.sl.most; unfold maxLen at this; omega
    have hbw := World.block_lt_of_cell? w _ hc
    have hne2 := World.new_ne w _ hc
    have hqi : (q : Int) < n := by omega
    have hq0 : (0 : Int) ≤ q := by omega
    have hi0 : (0 : Int) ≤ i := by omega
    have hd1 : d < 65536 := by omega
    clear hlen hdd hd hx hq hr
    go_enter Try.func105, Try.ntmps105
    go_wp2_with fail
    go_loopw [5, 6] (fun c k wr => ∃ (j : Nat), j ≤ r ∧ k = .int .i64 j ∧ c = .int .i64 ((d / 2 ^ j : Nat) : Int) ∧ Below w.heap.size w wr) (fun _ k _ => r - (intOf k).toNat)
    case atStart => exact ⟨0, by omega, rfl, by simp, by go_grown⟩
    case round =>
      obtain ⟨j, hj, rfl, rfl, hbel⟩ := hrel
      have HB := Lib.hid hbel
      have hpl : d / 2 ^ j ≤ d := Nat.div_le_self _ _
      have hpd : d / 2 ^ j / 2 = d / 2 ^ (j + 1) := by rw [Nat.div_div_eq_div_mul, Nat.pow_succ]
      obtain ⟨p, hp⟩ : ∃ p, d / 2 ^ j = p := ⟨_, rfl⟩
      rw [hp] at hpl hpd ⊢
      have HP := Lib.hid hp
      have HPD := Lib.hid hpd
      clear hbel hp hpd
      by_cases hjr : j < r
      · have hji : (j : Int) < r := by omega
        go_wp2_with fail
        go_roundw
        case rel => exact ⟨j + 1, by omega, by go_num, by rw [← HPD.out]; go_num, HB.out⟩
        case measure => simp [intOf]; omega
      · obtain rfl : j = r := by omega
        have hji : ¬ (j : Int) < j := by omega
        go_wp2_with fail
        go_ret
        refine ⟨congrArg (fun x => Ending.returned (.bool x)) ?_, HB.out⟩
        rw [one_bit, ← HP.out]
  · have hz : xs.getD q 0 = 0 := getD_ge (by omega)
    have hv : ((xs.getD q 0).toNat / 2 ^ r % 2 == 1) = false := by rw [hz]; simp
    rw [hv]
    have hqi : ¬ (q : Int) < n := by omega
    have hqi2 : (n : Int) ≤ q := by omega
    have hi0 : (0 : Int) ≤ i := by omega
    clear hlen hx hv hz hq hr er
    go_enter Try.func105, Try.ntmps105
    go_wp2_with fail
    go_ret
    exact ⟨rfl, by go_grown⟩

theorem info_bool : (Try.prog.info? 4).map (fun i => (i.zero, i.size, i.bytes)) = some (some (.bool false), 1, 1) := by kernel_rfl

theorem ownsRow_mono {B B' : Nat} {w : World} {e : TypeId} {s : Nat} {v : Value} {n : Nat} {xs : List Value} (h : w.ownsRow B e s v n xs) (hB : B' ≤ B) : w.ownsRow B' e s v n xs := by
  refine ⟨h.1, ?_⟩
  rcases h.2 with h2 | ⟨g, c, cur, hv, hbg, r⟩
  · exact .inl h2
  · exact .inr ⟨g, c, cur, hv, Nat.le_trans hB hbg, r⟩

/-- Bit i of y, turned round if neg. -/
def bitOf (y : Nat) (neg : Bool) (i : Nat) : Bool := (y / 2 ^ i % 2 == 1) != neg

/-- The bits were returned. -/
def RetBits (w : World) (y : Nat) (neg : Bool) (k : Nat) (e : Ending) (w' : World) : Prop :=
  ∃ ao cap, e = .returned (.slice ao k cap) ∧ w'.ownsRow w.heap.size 4 1 (.slice ao k cap) k ((List.range k).map fun i => .bool (bitOf y neg i)) ∧ Below w.heap.size w w'

set_option maxRecDepth 100000 in
theorem rbits_pos (w : World) (ao : Option Addr) (n cap : Nat) (xs : List Int) (x : Int) (hx : RefAt w false ao n cap xs x) (hn : n ≤ 4294967296) (k : Nat) (hk : k ≤ 1099511627776) :
    Calls Try.prog 81 #[.agg #[.bool false, .slice ao n cap], .int .i64 (k : Int)] w (RetBits w (cpl x).toNat false k) := by
  have HX := Lib.hid hx
  have h0 := dval_nonneg (r := 65536) (by omega) hx.lim
  have hx0 : 0 ≤ x := by rw [hx.val]; simp [sgn]; omega
  have HC : Hid ((cpl x).toNat = x.natAbs) := Lib.hid (by unfold cpl; rw [if_neg (by omega)]; omega)
  obtain ⟨i0, hi, hz0, hz1, hz2⟩ := info_parts info_bool
  clear hx h0
  go_enter Try.func81, Try.ntmps81
  go_wp2_with fail
  obtain ⟨w0, hw00⟩ : ∃ w0, w0 = ((w.alloc (.cells #[.bool false, .slice ao n cap] 31)).alloc (.cells #[.bool false, .slice ao n cap] 31)) := ⟨_, rfl⟩
  rw [← hw00]
  obtain ⟨B, hB⟩ : ∃ B, B = w.heap.size + 1 := ⟨_, rfl⟩
  rw [← hB]
  have q2 := heap_alloc2 w (.cells #[.bool false, .slice ao n cap] 31) (.cells #[.bool false, .slice ao n cap] 31)
  rw [← hw00, ← hB] at q2
  obtain ⟨y0, y1, -, -⟩ := blk2 q2.1
  obtain ⟨x0, -, -, -⟩ := blk2 q2.2
  have HW := Lib.hid (show Below w.heap.size w w0 by rw [hw00]; go_grown)
  have hw0 : w.heap.size ≤ w0.heap.size := HW.out.size
  have HY := Lib.hid (HX.out.below HW.out)
  have hwB : B < w0.heap.size := World.block_lt_of_cell? w0 _ y0
  have hwl : w.heap.size < w0.heap.size := by rw [hw00]; simp; omega
  clear q2 hw00 hB
  obtain ⟨ya, hya⟩ : ∃ a, a = ao := ⟨_, rfl⟩
  obtain ⟨yn, hyn⟩ : ∃ a, a = n := ⟨_, rfl⟩
  obtain ⟨yc, hyc⟩ : ∃ a, a = cap := ⟨_, rfl⟩
  rw [← hya, ← hyn, ← hyc] at y1
  rw [← hya, ← hyn, ← hyc] at HY
  have hynl : yn ≤ 34359738368 := by omega
  clear hya hyn hyc
  go_loopw [6, 7] (fun o i wr => ∃ (j : Nat) (to : Option Addr) (tc : Nat), j ≤ k ∧ i = .int .i64 j ∧ o = .slice to j tc ∧ wr.ownsRow w0.heap.size 4 1 (.slice to j tc) j ((List.range j).map fun i => .bool (bitOf (cpl x).toNat false i)) ∧
      (wr.cell? ⟨w.heap.size, 0, none⟩ = some (.bool false) ∧ wr.cell? ⟨B, 0, none⟩ = some (.bool false) ∧ wr.cell? ⟨B, 1, none⟩ = some (.slice ya yn yc)) ∧ Below w0.heap.size w0 wr) (fun _ i _ => k - (intOf i).toNat)
  case atStart => exact ⟨0, none, 0, by omega, rfl, rfl, World.ownsRow_nil _ _ _ _, ⟨x0, y0, y1⟩, .refl _ _⟩
  case round =>
    obtain ⟨j, to, tc, hj, rfl, rfl, hown, ⟨g0, g1, g2⟩, hbel⟩ := hrel
    have HO := Lib.hid hown
    have HB := Lib.hid hbel
    have hsz := Nat.le_trans hw0 hbel.size
    have hlB : B < wr.heap.size := World.block_lt_of_cell? wr _ g1
    have hl0 : w.heap.size < wr.heap.size := World.block_lt_of_cell? wr _ g0
    have hownb : ∀ g, (Value.slice to j tc).ownBlock = some g → w0.heap.size ≤ g := fun g hg => (World.ownsRow.lt hown g hg).1
    have hszw := hbel.size
    clear hown hbel
    by_cases hjk : j < k
    · have hji : (j : Int) < k := by omega
      obtain ⟨sb, hsb⟩ : ∃ sb, (Int.natAbs x / 2 ^ j % 2 == 1) = sb := ⟨_, rfl⟩
      have HSET : Hid (∀ w', Below w0.heap.size w0 w' → Calls Try.prog 105 #[.agg #[.bool false, .slice ya yn yc], .int .i64 (j : Int)] w' (RetV w' (.bool sb))) := Lib.hid (fun w' hb => by
        have := rset_any w' false ya yn yc xs x (HY.out.below hb) hynl j (by omega)
        rwa [hsb] at this)
      have HV : Hid (bitOf (cpl x).toNat false j = sb) := Lib.hid (by unfold bitOf; rw [HC.out, hsb]; simp)
      have hun := Try.underlying104
      clear hsb
      go_wp2_with fail
      go_region_held3 (fun w' => w'.cell? ⟨w.heap.size, 0, none⟩ = some (.bool false) ∧ w'.cell? ⟨B, 0, none⟩ = some (.bool false) ∧ w'.cell? ⟨B, 1, none⟩ = some (.slice ya yn yc)) (((try dsimp only); (repeat' apply And.intro) <;> (first | (go_keep; done) | (go_split_ands; rw [hb3.cell (by first | (dsimp only; omega) | go_size)]; assumption) | (go_split_ands; rw [hgrow.cell_far _ (by simp; omega) (by intro h; have := hownb _ h.symm; simp at this; omega)]; assumption))))
        (first | (go_at_call 105; refine (HSET.out _ HB.out.drew).mono ?_; rintro e w3 ⟨rfl, hb3⟩; have hbw3 : Below wr.heap.size wr w3 := (Below.refl _ _).drew.trans hb3; have hz3 := hbw3.size; have HO3 := Lib.hid ((ownsRow_kept HO.out hbw3).alloc (.cells #[.bool (sb)] 4))) | (refine step_append_lies _ (by rfl) _ _ 104 (by rfl) w0.heap.size 4 i0 (.bool false) 1 1 hun hi hz0 hz1 hz2 rfl (by omega) (.slice to j tc) j ((List.range j).map fun i => .bool (bitOf (cpl x).toNat false i)) (by rfl) HO3.out ⟨w3.heap.size, 0, none⟩ 1 1 [.bool (sb)] (by rfl) rfl (cell_one_new _ _ _) (by intro u hu; simp at hu; subst hu; rfl) (by omega) (by unfold maxLen; omega) (by omega) (by simp; omega) (w3.heap.size + 1) (by simp) ?_; intro g2 tc2 w4 hown4 hgrow hat hlt))
      have hh : w4.cell? ⟨w.heap.size, 0, none⟩ = some (.bool false) ∧ w4.cell? ⟨B, 0, none⟩ = some (.bool false) ∧ w4.cell? ⟨B, 1, none⟩ = some (.slice ya yn yc) := by assumption
      have hrow : w4.ownsRow w0.heap.size 4 1 (.slice (some ⟨g2, 0, none⟩) (j + 1) tc2) (j + 1) ((List.range (j + 1)).map fun i => .bool (bitOf (cpl x).toNat false i)) := by
        rw [List.range_succ, List.map_append, List.map_singleton, HV.out]
        exact hown4
      have hb5 : Below w0.heap.size w0 w4 := Below.grown ((HB.out.trans (hbw3.mono hszw)).alloc (by omega) _) hgrow (by simp; omega) hownb
      have HH := Lib.hid hh
      have HR := Lib.hid hrow
      have HB5 := Lib.hid hb5
      clear hh hrow hb5 hown4 hgrow hat
      go_wp2_with fail
      go_roundw
      case rel => exact ⟨j + 1, some ⟨g2, 0, none⟩, tc2, by omega, by go_num, rfl, HR.out, HH.out, HB5.out⟩
      case measure => simp [intOf]; omega
    · obtain rfl : j = k := by omega
      have hji : ¬ (j : Int) < j := by omega
      go_wp2_with fail
      go_ret
      exact ⟨to, tc, rfl, ownsRow_mono HO.out hw0, (HW.out.trans (HB.out.mono hw0)).mono (by omega)⟩

set_option maxRecDepth 100000 in
theorem rbits_neg (w : World) (ao : Option Addr) (n cap : Nat) (xs : List Int) (x : Int) (hx : RefAt w true ao n cap xs x) (hn : n ≤ 4294967296) (k : Nat) (hk : k ≤ 1099511627776) :
    Calls Try.prog 81 #[.agg #[.bool true, .slice ao n cap], .int .i64 (k : Int)] w (RetBits w (cpl x).toNat true k) := by
  have HX := Lib.hid hx
  have h0 := dval_pos_of_top (r := 65536) (by omega) hx.lim hx.top (hx.sign rfl)
  have hp := rpow_pos (r := 65536) (by omega) (xs.length - 1)
  have hx0 : x < 0 := by rw [hx.val]; simp [sgn]; omega
  obtain ⟨y, hy⟩ : ∃ y, -1 - x = y := ⟨_, rfl⟩
  have HC : Hid ((cpl x).toNat = y.natAbs) := Lib.hid (by unfold cpl; rw [if_pos hx0]; omega)
  have HYV := Lib.hid hy
  obtain ⟨i0, hi, hz0, hz1, hz2⟩ := info_parts info_bool
  clear hx h0 hp hy
  go_enter Try.func81, Try.ntmps81
  go_wp2_with fail
  go_region_held3 (fun w' => w'.cell? ⟨w.heap.size, 0, none⟩ = some (.bool true) ∧ w'.cell? ⟨w.heap.size, 1, none⟩ = some (.slice ao n cap)) (((try dsimp only); (repeat' apply And.intro) <;> (first | (go_keep; done) | (go_split_ands; rw [World.cell?_setCell_far _ _ _ _ (by dsimp only; omega), World.cell?_setCell_far _ _ _ _ (by dsimp only; omega)]; assumption) | (go_split_ands; rw [hb1.cell (by go_size)]; assumption) | (go_split_ands; rw [hb3.cell (by first | (dsimp only; omega) | go_size)]; assumption))))
    (first | (go_at_call 18; refine (rnew_any _ (-1) (by omega) (by omega)).mono ?_; rintro e w1 ⟨n1, a1, k1, cc1, z1, rfl, hint1, hk1, hb1⟩; have hr1 := (hb1.block (w.heap.size + 1) (by simp [World.drew])).trans (heap_alloc2 _ _ _).1; have hz1 : w.heap.size + 1 + 1 ≤ w1.heap.size := Nat.le_trans (by go_size) hb1.size; have hb2 : Below w.heap.size w w1 := Below.trans (by go_grown) (hb1.mono (by go_size)); have HI1 := Lib.hid hint1; clear hint1) | (go_at_call 41; refine (rsub_any _ n1 true a1 ao k1 n cc1 cap z1 xs (-1) x HI1.out (HX.out.below hb2) (by omega) hn).mono ?_; rintro e w2 ⟨yneg, ya, yn, yc, ys, rfl, hint, hn', hb3⟩; have hr2 := (hb3.block _ (by omega)).trans hr1; obtain ⟨c0, c1, f0, f1⟩ := blk2 hr2; have hz3 := hb3.size; have HI := Lib.hid (hint.stored hr2 (.bool yneg) (.slice ya yn yc)); clear hint hr1))
  have hh : ((w2.setCell ⟨w.heap.size + 1, 0, none⟩ (.bool yneg)).setCell ⟨w.heap.size + 1, 1, none⟩ (.slice ya yn yc)).cell? ⟨w.heap.size, 0, none⟩ = some (.bool true) ∧ ((w2.setCell ⟨w.heap.size + 1, 0, none⟩ (.bool yneg)).setCell ⟨w.heap.size + 1, 1, none⟩ (.slice ya yn yc)).cell? ⟨w.heap.size, 1, none⟩ = some (.slice ao n cap) := by assumption
  obtain ⟨x0, -⟩ := hh
  have y0 : ((w2.setCell ⟨w.heap.size + 1, 0, none⟩ (.bool yneg)).setCell ⟨w.heap.size + 1, 1, none⟩ (.slice ya yn yc)).cell? ⟨w.heap.size + 1, 0, none⟩ = some (.bool yneg) := by rw [World.cell?_setCell_other _ _ _ _ (by simp)]; exact World.cell?_setCell_same _ _ _ c0
  have y1 : ((w2.setCell ⟨w.heap.size + 1, 0, none⟩ (.bool yneg)).setCell ⟨w.heap.size + 1, 1, none⟩ (.slice ya yn yc)).cell? ⟨w.heap.size + 1, 1, none⟩ = some (.slice ya yn yc) := World.cell?_setCell_same _ _ _ ((World.cell?_setCell_other _ _ _ _ (by simp)).trans c1)
  obtain ⟨w0, hw00⟩ : ∃ w0, w0 = ((w2.setCell ⟨w.heap.size + 1, 0, none⟩ (.bool yneg)).setCell ⟨w.heap.size + 1, 1, none⟩ (.slice ya yn yc)) := ⟨_, rfl⟩
  have hbw : Below w.heap.size w ((w2.setCell ⟨w.heap.size + 1, 0, none⟩ (.bool yneg)).setCell ⟨w.heap.size + 1, 1, none⟩ (.slice ya yn yc)) := ((hb2.trans (hb3.mono hb2.size)).setCell (by dsimp only; omega) _).setCell (by dsimp only; omega) _
  have hwl : w.heap.size + 1 < w0.heap.size := by rw [hw00]; simp; omega
  rw [← hw00] at x0 y0 y1 HI hbw ⊢
  obtain ⟨B, hB⟩ : ∃ B, B = w.heap.size + 1 := ⟨_, rfl⟩
  rw [← hB] at y0 y1 hwl ⊢
  have HW := Lib.hid hbw
  have hw0 : w.heap.size ≤ w0.heap.size := hbw.size
  rw [HYV.out] at HI
  have HY := HI
  have hwB : B < w0.heap.size := hwl
  have hwl : w.heap.size < w0.heap.size := by omega
  have hynl : yn ≤ 34359738368 := by omega
  clear hbw hB hw00 hr2 c0 c1 f0 f1 hz1 hz3 hb1 hb2 hb3 HI1 HI hn' hk1 hx0
  go_wp2_with fail
  go_loopw [6, 7] (fun o i wr => ∃ (j : Nat) (to : Option Addr) (tc : Nat), j ≤ k ∧ i = .int .i64 j ∧ o = .slice to j tc ∧ wr.ownsRow w0.heap.size 4 1 (.slice to j tc) j ((List.range j).map fun i => .bool (bitOf (cpl x).toNat true i)) ∧
      (wr.cell? ⟨w.heap.size, 0, none⟩ = some (.bool true) ∧ wr.cell? ⟨B, 0, none⟩ = some (.bool yneg) ∧ wr.cell? ⟨B, 1, none⟩ = some (.slice ya yn yc)) ∧ Below w0.heap.size w0 wr) (fun _ i _ => k - (intOf i).toNat)
  case atStart => exact ⟨0, none, 0, by omega, rfl, rfl, World.ownsRow_nil _ _ _ _, ⟨x0, y0, y1⟩, .refl _ _⟩
  case round =>
    obtain ⟨j, to, tc, hj, rfl, rfl, hown, ⟨g0, g1, g2⟩, hbel⟩ := hrel
    have HO := Lib.hid hown
    have HB := Lib.hid hbel
    have hsz := Nat.le_trans hw0 hbel.size
    have hlB : B < wr.heap.size := World.block_lt_of_cell? wr _ g1
    have hl0 : w.heap.size < wr.heap.size := World.block_lt_of_cell? wr _ g0
    have hownb : ∀ g, (Value.slice to j tc).ownBlock = some g → w0.heap.size ≤ g := fun g hg => (World.ownsRow.lt hown g hg).1
    have hszw := hbel.size
    clear hown hbel
    by_cases hjk : j < k
    · have hji : (j : Int) < k := by omega
      obtain ⟨sb, hsb⟩ : ∃ sb, (Int.natAbs y / 2 ^ j % 2 == 1) = sb := ⟨_, rfl⟩
      have HSET : Hid (∀ w', Below w0.heap.size w0 w' → Calls Try.prog 105 #[.agg #[.bool yneg, .slice ya yn yc], .int .i64 (j : Int)] w' (RetV w' (.bool sb))) := Lib.hid (fun w' hb => by
        have := rset_any w' yneg ya yn yc ys y (HY.out.below hb) hynl j (by omega)
        rwa [hsb] at this)
      have HV : Hid (bitOf (cpl x).toNat true j = !sb) := Lib.hid (by unfold bitOf; rw [HC.out, hsb]; simp)
      have hun := Try.underlying104
      clear hsb
      go_wp2_with fail
      go_region_held3 (fun w' => w'.cell? ⟨w.heap.size, 0, none⟩ = some (.bool true) ∧ w'.cell? ⟨B, 0, none⟩ = some (.bool yneg) ∧ w'.cell? ⟨B, 1, none⟩ = some (.slice ya yn yc)) (((try dsimp only); (repeat' apply And.intro) <;> (first | (go_keep; done) | (go_split_ands; rw [hb3.cell (by first | (dsimp only; omega) | go_size)]; assumption) | (go_split_ands; rw [hgrow.cell_far _ (by simp; omega) (by intro h; have := hownb _ h.symm; simp at this; omega)]; assumption))))
        (first | (go_at_call 105; refine (HSET.out _ HB.out.drew).mono ?_; rintro e w3 ⟨rfl, hb3⟩; have hbw3 : Below wr.heap.size wr w3 := (Below.refl _ _).drew.trans hb3; have hz3 := hbw3.size; have HO3 := Lib.hid ((ownsRow_kept HO.out hbw3).alloc (.cells #[.bool (!sb)] 4))) | (refine step_append_lies _ (by rfl) _ _ 104 (by rfl) w0.heap.size 4 i0 (.bool false) 1 1 hun hi hz0 hz1 hz2 rfl (by omega) (.slice to j tc) j ((List.range j).map fun i => .bool (bitOf (cpl x).toNat true i)) (by rfl) HO3.out ⟨w3.heap.size, 0, none⟩ 1 1 [.bool (!sb)] (by rfl) rfl (cell_one_new _ _ _) (by intro u hu; simp at hu; subst hu; rfl) (by omega) (by unfold maxLen; omega) (by omega) (by simp; omega) (w3.heap.size + 1) (by simp) ?_; intro g2 tc2 w4 hown4 hgrow hat hlt))
      have hh : w4.cell? ⟨w.heap.size, 0, none⟩ = some (.bool true) ∧ w4.cell? ⟨B, 0, none⟩ = some (.bool yneg) ∧ w4.cell? ⟨B, 1, none⟩ = some (.slice ya yn yc) := by assumption
      have hrow : w4.ownsRow w0.heap.size 4 1 (.slice (some ⟨g2, 0, none⟩) (j + 1) tc2) (j + 1) ((List.range (j + 1)).map fun i => .bool (bitOf (cpl x).toNat true i)) := by
        rw [List.range_succ, List.map_append, List.map_singleton, HV.out]
        exact hown4
      have hb5 : Below w0.heap.size w0 w4 := Below.grown ((HB.out.trans (hbw3.mono hszw)).alloc (by omega) _) hgrow (by simp; omega) hownb
      have HH := Lib.hid hh
      have HR := Lib.hid hrow
      have HB5 := Lib.hid hb5
      clear hh hrow hb5 hown4 hgrow hat
      go_wp2_with fail
      go_roundw
      case rel => exact ⟨j + 1, some ⟨g2, 0, none⟩, tc2, by omega, by go_num, rfl, HR.out, HH.out, HB5.out⟩
      case measure => simp [intOf]; omega
    · obtain rfl : j = k := by omega
      have hji : ¬ (j : Int) < j := by omega
      go_wp2_with fail
      go_ret
      exact ⟨to, tc, rfl, ownsRow_mono HO.out hw0, (HW.out.trans (HB.out.mono hw0)).mono (by omega)⟩

theorem rbits_any (w : World) (nx : Bool) (ao : Option Addr) (n cap : Nat) (xs : List Int) (x : Int) (hx : RefAt w nx ao n cap xs x) (hn : n ≤ 4294967296) (k : Nat) (hk : k ≤ 1099511627776) :
    Calls Try.prog 81 #[.agg #[.bool nx, .slice ao n cap], .int .i64 (k : Int)] w (RetBits w (cpl x).toNat nx k) := by
  cases nx
  · exact rbits_pos w ao n cap xs x hx hn k hk
  · exact rbits_neg w ao n cap xs x hx hn k hk

theorem bit_ne (y : Nat) (neg : Bool) (j : Nat) : (bitOf y neg j != neg) = (y / 2 ^ j % 2 == 1) := by
  unfold bitOf
  cases neg <;> cases (y / 2 ^ j % 2 == 1) <;> rfl

theorem row_cell {B : Nat} {w : World} {ao : Option Addr} {cap k : Nat} {f : Nat → Value} {t : TypeId} (h : w.ownsRow B t 1 (.slice ao k cap) k ((List.range k).map f)) {j : Nat} (hj : j < k) :
    ∃ g, ao = some ⟨g, 0, none⟩ ∧ w.cell? ⟨g, j, none⟩ = some (f j) := by
  rcases h.2 with ⟨hv, hn⟩ | ⟨g, c, cur, hv, _⟩
  · omega
  · simp only [Value.slice.injEq] at hv
    obtain ⟨rfl, _, rfl⟩ := hv
    refine ⟨g, rfl, ?_⟩
    have := World.ownsRow.cellAt h j (by omega)
    rw [this, List.getElem?_map, List.getElem?_range hj]
    rfl

theorem row_cap {B : Nat} {w : World} {ao : Option Addr} {cap k : Nat} {xs : List Value} {t : TypeId} {s : Nat} (h : w.ownsRow B t s (.slice ao k cap) k xs) : k ≤ cap ∧ cap ≤ maxLen := by
  rcases h.2 with ⟨hv, hn⟩ | ⟨g, c, cur, hv, hb, hg, hnc, hcm, _⟩
  · simp only [Value.slice.injEq] at hv
    omega
  · simp only [Value.slice.injEq] at hv
    omega

set_option maxRecDepth 100000 in
theorem rcount_any (w : World) (nx : Bool) (ao : Option Addr) (n cap : Nat) (xs : List Int) (x : Int) (hx : RefAt w nx ao n cap xs x) (hn : n ≤ 4294967296) :
    Calls Try.prog 29 #[.agg #[.bool nx, .slice ao n cap]] w (RetV w (.int .i64 (pops (cpl x).toNat : Int))) := by
  have HX := Lib.hid hx
  obtain ⟨L, hL⟩ : ∃ L, blen (cpl x).toNat = L := ⟨_, rfl⟩
  have hLk : L ≤ 1099511627776 := by
    have h1 := dval_nonneg (r := 65536) (by omega) hx.lim
    have h2 := dval_lt (r := 65536) (by omega) hx.lim
    rw [pow16, hx.sl.len] at h2
    have h3 : (cpl x).toNat < 2 ^ (16 * n) := by
      obtain ⟨P, hP⟩ : ∃ P : Nat, 2 ^ (16 * n) = P := ⟨_, rfl⟩
      obtain ⟨d, hd⟩ : ∃ d : Int, dval 65536 xs = d := ⟨_, rfl⟩
      unfold cpl
      rw [hx.val]
      rw [hP] at h2 ⊢
      rw [hd] at h1 h2 ⊢
      cases nx <;> simp only [sgn] <;> split <;> (try simp) <;> omega
    rw [← hL]
    unfold blen
    split
    · omega
    · have := (Nat.log2_lt (by assumption)).2 h3
      omega
  have HL := Lib.hid hL
  have HLEN : Hid (∀ w', Below w.heap.size w w' → Calls Try.prog 27 #[.agg #[.bool nx, .slice ao n cap]] w' (RetV w' (.int .i64 (L : Int)))) := Lib.hid (fun w' hb => by
    have := rlength_any w' nx ao n cap xs x (hx.below hb) hn
    rwa [hL] at this)
  clear hx hL
  go_enter Try.func29, Try.ntmps29
  go_wp2_with fail
  go_region_held3 (fun w' => w'.cell? ⟨w.heap.size, 0, none⟩ = some (.bool nx) ∧ w'.cell? ⟨w.heap.size, 1, none⟩ = some (.slice ao n cap)) (((try dsimp only); (repeat' apply And.intro) <;> (first | (go_keep; done) | (go_split_ands; rw [hb1.cell (by go_size)]; assumption) | (go_split_ands; rw [hb3.cell (by first | (dsimp only; omega) | go_size)]; assumption))))
    (first | (go_at_call 27; refine (HLEN.out _ (by go_grown)).mono ?_; rintro e w1 ⟨rfl, hb1⟩; have hz1 : w.heap.size + 1 ≤ w1.heap.size := Nat.le_trans (by go_size) hb1.size; have hb2 : Below w.heap.size w w1 := Below.trans (by go_grown) (hb1.mono (by go_size))) | (go_at_call 81; refine (rbits_any _ nx ao n cap xs x (HX.out.below hb2) hn L hLk).mono ?_; rintro e w2 ⟨ab, cb, rfl, hrow, hb3⟩))
  have hh : w2.cell? ⟨w.heap.size, 0, none⟩ = some (.bool nx) ∧ w2.cell? ⟨w.heap.size, 1, none⟩ = some (.slice ao n cap) := by assumption
  obtain ⟨x0, -⟩ := hh
  have HW := Lib.hid (hb2.trans (hb3.mono hb2.size))
  have hcap := row_cap hrow
  have HR := Lib.hid hrow
  unfold maxLen at hcap
  obtain ⟨hc1, hc2⟩ := hcap
  clear hb1 hb2 hb3 hz1 hrow
  go_wp2_with fail
  go_loopw [4, 5] (fun c i wr => ∃ (j q : Nat), j ≤ L ∧ i = .int .i64 j ∧ c = .int .i64 q ∧ q = onesTo (cpl x).toNat j ∧ ∃ m, wr = w2.drewN m) (fun _ i _ => L - (intOf i).toNat)
  case atStart => exact ⟨0, 0, by omega, rfl, rfl, rfl, 0, rfl⟩
  case round =>
    obtain ⟨j, q, hj, rfl, rfl, hq, m, rfl⟩ := hrel
    have hqb : q ≤ j := by rw [hq]; exact onesTo_le _ _
    have HQ := Lib.hid hq
    clear hq
    by_cases hjk : j < L
    · obtain ⟨g, rfl, hc⟩ := row_cell HR.out hjk
      obtain ⟨b, hb⟩ : ∃ b, bitOf (cpl x).toNat nx j = b := ⟨_, rfl⟩
      have hbn := bit_ne (cpl x).toNat nx j
      rw [hb] at hc hbn
      have hji : (j : Int) < L := by omega
      have hj0 : (0 : Int) ≤ j := by omega
      by_cases hv : (cpl x).toNat / 2 ^ j % 2 = 1
      · have hbt : (b != nx) = true := by rw [hbn]; simpa using hv
        have hbt2 : (b == nx) = false := by revert hbt; cases b <;> cases nx <;> simp
        have HO : Hid (onesTo (cpl x).toNat (j + 1) = onesTo (cpl x).toNat j + 1) := Lib.hid (by simp only [onesTo]; omega)
        clear hbn hb hv
        go_wp2_with fail
        go_quiet (fail)
        go_wp2_with fail
        go_roundw
        case rel => exact ⟨j + 1, q + 1, by omega, by go_num, by go_num, by rw [HO.out, HQ.out], _, by first | rfl | rw [World.drewN_drewN]⟩
        case measure => simp [intOf]; omega
      · have hbt : (b != nx) = false := by rw [hbn]; simpa using hv
        have hbt2 : (b == nx) = true := by revert hbt; cases b <;> cases nx <;> simp
        have HO : Hid (onesTo (cpl x).toNat (j + 1) = onesTo (cpl x).toNat j) := Lib.hid (by simp only [onesTo]; omega)
        clear hbn hb hv
        go_wp2_with fail
        go_quiet (fail)
        go_wp2_with fail
        go_roundw
        case rel => exact ⟨j + 1, q, by omega, by go_num, by go_num, by rw [HO.out, HQ.out], _, by first | rfl | rw [World.drewN_drewN]⟩
        case measure => simp [intOf]; omega
    · obtain rfl : j = L := by omega
      have hji : ¬ (j : Int) < j := by omega
      have HF : Hid (q = pops (cpl x).toNat) := Lib.hid (by rw [HQ.out]; unfold pops; rw [HL.out])
      go_wp2_with fail
      go_ret
      exact ⟨congrArg (fun x => Ending.returned (.int .i64 ((x : Nat) : Int))) HF.out, below_drewN HW.out m⟩
end Go.Proofs.Ytpakfknacmcohaa
