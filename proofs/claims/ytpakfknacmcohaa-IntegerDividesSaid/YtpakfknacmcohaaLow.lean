/- lowBits and ones: the lowest bits of a number. -/
import Derived.Test.YtpakfknacmcohaaShift3
import Derived.Test.YtpakfknacmcohaaTexts
namespace Go.Proofs.Ytpakfknacmcohaa
open Go.RowKit
set_option autoImplicit false
set_option linter.unusedVariables false

set_option maxRecDepth 100000 in
theorem low_all (w : World) (ao : Option Addr) (m capa : Nat) (xs : List Int) (n : Int) (hx : Sl w ao m capa xs) (lx : Lim xs) (hm : m ≤ 4294967296) (hn : 32 * (m : Int) ≤ n) :
    Calls Try.prog 129 #[.slice ao m capa, .int .i64 n] w (RetNat w (val xs) m) := by
  have HX := Lib.hid hx
  have hle := hx.le
  have hmost := hx.most
  unfold maxLen at hmost
  clear hx
  go_enter Try.func129, Try.ntmps129
  go_wp2_with fail
  refine (clone_any _ ao m capa xs HX.out (by omega)).mono ?_
  rintro e w1 ⟨ao', cap', rfl, ho, hb⟩
  have HO := Lib.hid ho
  have HB := Lib.hid hb
  clear ho hb
  go_wp2_with fail
  refine (trim_own w w1 _ _ _ _ HO.out lx HB.out rfl).mono ?_
  rintro e w2 ⟨ao4, n4, cap4, zs4, rfl, hres⟩
  have HRES := Lib.hid hres
  clear hres
  go_wp2
  go_ret
  exact ⟨_, _, _, zs4, rfl, HRES.out⟩

theorem and_mask (x p : Nat) (hx : x < 4294967296) (hp : p < 32) : bits .and .u32 (x : Int) ((2 ^ p - 1 : Nat) : Int) = ((x % 2 ^ p : Nat) : Int) := by
  have h : 2 ^ p ≤ 2 ^ 31 := Nat.pow_le_pow_right (by omega) (by omega)
  rw [u32_and_nat _ _ hx (by omega), Nat.and_two_pow_sub_one_eq_mod]
theorem mask_val {xs : List Int} {q p : Nat} (lx : Lim xs) (hq : q < xs.length) (hp : p < 32) : val ((xs.take (q + 1)).set q (xs.getD q 0 % 2 ^ p)) = val xs % 2 ^ (32 * q + p) := by
  have hlim := Lim_getD lx q
  have hP : (0 : Int) < 2 ^ p := Int.pow_pos (by omega)
  have hB : (0 : Int) < 4294967296 ^ q := Int.pow_pos (by omega)
  have hd : (2 : Int) ^ p * 2 ^ (32 - p) = 4294967296 := by rw [← Int.pow_add, show p + (32 - p) = 32 by omega]; rfl
  have e1 : val ((xs.take (q + 1)).set q (xs.getD q 0 % 2 ^ p)) = val (xs.take q) + 4294967296 ^ q * (xs.getD q 0 % 2 ^ p) := by
    rw [val_set _ _ _ (by rw [List.length_take]; omega), val_take_succ]
    have : (xs.take (q + 1)).getD q 0 = xs.getD q 0 := by simp [List.getD, show q < q + 1 by omega]
    rw [this]
    grind
  have e2 : val xs = val (xs.take q) + 4294967296 ^ q * (xs.getD q 0 + 4294967296 * val (xs.drop (q + 1))) := by
    have h := val_split xs q
    rw [List.length_take, Nat.min_eq_left (by omega), drop_getD hq] at h
    simpa [val] using h
  have e3 : (2 : Int) ^ (32 * q + p) = 4294967296 ^ q * 2 ^ p := by rw [Int.pow_add, Int.pow_mul]; rfl
  have hl : val (xs.take q) < 4294967296 ^ q := by have := val_lt (Lim_take lx q); rwa [List.length_take, Nat.min_eq_left (by omega)] at this
  have h0 := val_nonneg (Lim_take lx q)
  obtain ⟨x, hx⟩ : ∃ x, xs.getD q 0 = x := ⟨_, rfl⟩
  obtain ⟨D, hD⟩ : ∃ D, val (xs.drop (q + 1)) = D := ⟨_, rfl⟩
  obtain ⟨L, hL⟩ : ∃ L, val (xs.take q) = L := ⟨_, rfl⟩
  obtain ⟨B, hBB⟩ : ∃ B : Int, 4294967296 ^ q = B := ⟨_, rfl⟩
  obtain ⟨P, hPP⟩ : ∃ P : Int, 2 ^ p = P := ⟨_, rfl⟩
  obtain ⟨C, hC⟩ : ∃ C : Int, 2 ^ (32 - p) = C := ⟨_, rfl⟩
  rw [e1, e2, e3, hx, hD]
  rw [hx] at hlim
  rw [hL] at hl h0
  rw [hL]
  rw [hBB] at hl hB ⊢
  rw [hPP] at hP hd ⊢
  rw [hC] at hd
  have hm := Int.emod_add_mul_ediv x P
  have hm0 := Int.emod_nonneg x (show P ≠ 0 by omega)
  have hm1 := Int.emod_lt_of_pos x hP
  obtain ⟨r, hr⟩ : ∃ r, x % P = r := ⟨_, rfl⟩
  obtain ⟨k, hk⟩ : ∃ k, x / P = k := ⟨_, rfl⟩
  rw [hr] at hm hm0 hm1 ⊢
  rw [hk] at hm
  have e4 : L + B * (x + 4294967296 * D) = (L + B * r) + B * P * (k + C * D) := by rw [← hm, ← hd]; grind
  rw [e4, Int.add_mul_emod_self_left]
  have h5 : B * (r + 1) ≤ B * P := Int.mul_le_mul_of_nonneg_left (by omega) (by omega)
  have h6 : 0 ≤ B * r := Int.mul_nonneg (by omega) hm0
  rw [Int.mul_add] at h5
  exact (Int.emod_eq_of_lt (by omega) (by omega)).symm

set_option maxRecDepth 100000 in
theorem low_part (w : World) (ao : Option Addr) (m capa : Nat) (xs : List Int) (q p : Nat) (hx : Sl w ao m capa xs) (lx : Lim xs) (hm : m ≤ 4294967296) (hq : q < m) (hp : p < 32) (hp0 : 0 < p) :
    Calls Try.prog 129 #[.slice ao m capa, .int .i64 ((32 * q + p : Nat) : Int)] w (RetNat w (val xs % 2 ^ (32 * q + p)) (q + 1)) := by
  have HX := Lib.hid hx
  have hle := hx.le
  have hmost := hx.most
  have hcs := hx.cells
  have HLX := Lib.hid hx.len
  unfold maxLen at hmost
  obtain ⟨ba, oa, rfl, hca⟩ := hcs.at (k := q) (by rw [HLX.out]; exact hq)
  clear hca hcs
  have e1 : (((32 * q + p : Nat) : Int) + 31) / 32 = ((q + 1 : Nat) : Int) := by omega
  have e2 : (((32 * q + p : Nat) : Int)) % 32 = (p : Int) := by omega
  have e0 : 0 ≤ (((32 * q + p : Nat) : Int)) := by omega
  have e3 : (((32 * q + p : Nat) : Int)) ≤ 137438953504 := by omega
  have e4 : ¬ 32 * (m : Int) ≤ ((32 * q + p : Nat) : Int) := by omega
  obtain ⟨s, hs⟩ : ∃ s : Int, ((32 * q + p : Nat) : Int) = s := ⟨_, rfl⟩
  obtain ⟨T, hT⟩ : ∃ T : Int, (2 : Int) ^ (32 * q + p) = T := ⟨_, rfl⟩
  rw [hT]
  rw [hs] at e0 e1 e2 e3 e4 ⊢
  have HT := Lib.hid hT
  clear hs hx hT
  go_enter Try.func129, Try.ntmps129
  go_wp2_with fail
  refine (clone_any _ _ (q + 1) capa (xs.take (q + 1)) ⟨(by rw [List.length_take, HLX.out]; omega), (by omega), (by unfold maxLen; omega), (by intro h; cases h), HX.out.cells.take _⟩ (by omega)).mono ?_
  rintro e w1 ⟨ao', cap', rfl, ho, hb⟩
  obtain ⟨g, rfl, hg, hcell, hfrz⟩ := ho.at (j := q) (by omega)
  have ht : (xs.take (q + 1)).getD q 0 = xs.getD q 0 := by simp [List.getD, show q < q + 1 by omega]
  have hlim := Lim_getD lx q
  obtain ⟨x, hx⟩ : ∃ x, xs.getD q 0 = x := ⟨_, rfl⟩
  rw [ht, hx] at hcell
  rw [hx] at hlim
  obtain ⟨hx0, hx1⟩ := hlim
  obtain ⟨y, rfl⟩ := Int.eq_ofNat_of_zero_le hx0
  obtain ⟨P, hP⟩ : ∃ P : Nat, 2 ^ p = P := ⟨_, rfl⟩
  have hP1 : 1 ≤ P := by rw [← hP]; exact Nat.one_le_two_pow
  have hP2 : P ≤ 2147483648 := by rw [← hP]; exact Nat.pow_le_pow_right (by omega) (by omega : p ≤ 31)
  have hPi : (2 : Int) ^ p = (P : Int) := by rw [← hP]; simp
  have hand : bits BinOp.and IntKind.u32 (y : Int) ((P : Int) - 1) = ((y % P : Nat) : Int) := by
    have := and_mask y p (by omega) hp
    rw [hP] at this
    rw [← this, show ((P - 1 : Nat) : Int) = (P : Int) - 1 by omega]
  have hmod : ((y % P : Nat) : Int) = xs.getD q 0 % 2 ^ p := by rw [hx, hPi]; simp
  have hmask := mask_val (p := p) lx (by rw [HLX.out]; exact hq) hp
  rw [← hmod, HT.out] at hmask
  have hm0 : 0 ≤ ((y % P : Nat) : Int) := by omega
  have hm1 : ((y % P : Nat) : Int) ≤ 4294967295 := by have := Nat.mod_lt y (show P > 0 by omega); omega
  obtain ⟨r, hr⟩ : ∃ r : Int, ((y % P : Nat) : Int) = r := ⟨_, rfl⟩
  rw [hr] at hand hmask hm0 hm1
  have HO := Lib.hid ho
  have HB := Lib.hid hb
  have HM := Lib.hid hmask
  have hp1 : (0 : Int) < p := by omega
  clear ho hb ht hx hP hmod hr hmask
  go_wp2_with fail
  have hw0 : IntKind.i64.wrap (q : Int) = q := by rw [IntKind.wrap_i64]; omega
  have hw1 : IntKind.u32.wrap (P : Int) = P := by rw [IntKind.wrap_u32]; omega
  have hw2 : IntKind.u32.wrap ((P : Int) - 1) = (P : Int) - 1 := by rw [IntKind.wrap_u32]; omega
  have hw3 : IntKind.u32.wrap (2 ^ p) = (P : Int) := by rw [hPi, hw1]
  have hq0 : (0 : Int) ≤ q := by omega
  have hq1 : (q : Int) < q + 1 := by omega
  have hq2 : (q : Int).toNat = q := by omega
  have hq3 : s.tmod 32 = (p : Int) := by rw [Int.tmod_eq_emod_of_nonneg e0]; exact e2
  have hq4 : (0 : Int) ≤ p := by omega
  have hq5 : (p : Int).toNat = p := by omega
  go_still_tail 11, (by kernel_rfl)
  repeat still_step
  change wpList _ _ _ _ _ w1.drew
  go_wp2_with fail
  refine (trim_own w _ _ _ _ _ ((show Own w.heap.size w1.drew (some ⟨g, 0, none⟩) (q + 1) cap' _ from HO.out).set q r) (Lim_set (Lim_take lx _) q hm0 hm1) ((HB.out.drew).setCell hg _) HM.out).mono ?_
  rintro e w2 ⟨ao4, n4, cap4, zs4, rfl, hres⟩
  have HRES := Lib.hid hres
  clear hres
  go_wp2
  go_ret
  exact ⟨_, _, _, zs4, rfl, HRES.out⟩

theorem two_le {a b : Nat} (h : a ≤ b) : (2 : Int) ^ a ≤ 2 ^ b := by
  have := Nat.pow_le_pow_right (show 2 > 0 by omega) h
  exact_mod_cast this
theorem take_val {xs : List Int} {q : Nat} (lx : Lim xs) (hq : q ≤ xs.length) : val (xs.take q) = val xs % 2 ^ (32 * q) := by
  have e3 : (2 : Int) ^ (32 * q) = 4294967296 ^ q := by rw [Int.pow_mul]; rfl
  have hl : val (xs.take q) < 4294967296 ^ q := by have := val_lt (Lim_take lx q); rwa [List.length_take, Nat.min_eq_left (by omega)] at this
  have h0 := val_nonneg (Lim_take lx q)
  have h := val_split xs q
  rw [List.length_take, Nat.min_eq_left (by omega)] at h
  rw [e3, h, Int.add_mul_emod_self_left, Int.emod_eq_of_lt h0 hl]

set_option maxRecDepth 100000 in
theorem low_whole (w : World) (ao : Option Addr) (m capa : Nat) (xs : List Int) (q : Nat) (hx : Sl w ao m capa xs) (lx : Lim xs) (hm : m ≤ 4294967296) (hq : q < m) :
    Calls Try.prog 129 #[.slice ao m capa, .int .i64 ((32 * q : Nat) : Int)] w (RetNat w (val xs % 2 ^ (32 * q)) q) := by
  have HX := Lib.hid hx
  have hle := hx.le
  have hmost := hx.most
  have hcs := hx.cells
  have HLX := Lib.hid hx.len
  unfold maxLen at hmost
  obtain ⟨ba, oa, rfl, hca⟩ := hcs.at (k := q) (by rw [HLX.out]; exact hq)
  clear hca hcs
  have e1 : (((32 * q : Nat) : Int) + 31) / 32 = (q : Int) := by omega
  have e2 : (((32 * q : Nat) : Int)) % 32 = 0 := by omega
  have e0 : 0 ≤ (((32 * q : Nat) : Int)) := by omega
  have e3 : (((32 * q : Nat) : Int)) ≤ 137438953504 := by omega
  have e4 : ¬ 32 * (m : Int) ≤ ((32 * q : Nat) : Int) := by omega
  have hv := take_val lx (q := q) (by rw [HLX.out]; omega)
  obtain ⟨s, hs⟩ : ∃ s : Int, ((32 * q : Nat) : Int) = s := ⟨_, rfl⟩
  obtain ⟨T, hT⟩ : ∃ T : Int, (2 : Int) ^ (32 * q) = T := ⟨_, rfl⟩
  rw [hT] at hv ⊢
  have HV := Lib.hid hv
  rw [hs] at e0 e1 e2 e3 e4 ⊢
  clear hs hx hT hv
  go_enter Try.func129, Try.ntmps129
  go_wp2_with fail
  refine (clone_any _ _ q capa (xs.take q) ⟨(by rw [List.length_take, HLX.out]; omega), (by omega), (by unfold maxLen; omega), (by intro h; cases h), HX.out.cells.take _⟩ (by omega)).mono ?_
  rintro e w1 ⟨ao', cap', rfl, ho, hb⟩
  have HO := Lib.hid ho
  have HB := Lib.hid hb
  clear ho hb
  go_wp2_with fail
  refine (trim_own w _ _ _ _ _ HO.out (Lim_take lx _) HB.out HV.out).mono ?_
  rintro e w2 ⟨ao4, n4, cap4, zs4, rfl, hres⟩
  have HRES := Lib.hid hres
  clear hres
  go_wp2
  go_ret
  exact ⟨_, _, _, zs4, rfl, HRES.out⟩

/-- lowBits, for every number of bits. -/
theorem low_any (w : World) (ao : Option Addr) (m capa : Nat) (xs : List Int) (k : Nat) (hx : Sl w ao m capa xs) (lx : Lim xs) (hm : m ≤ 4294967296) :
    Calls Try.prog 129 #[.slice ao m capa, .int .i64 (k : Int)] w (RetNat w (val xs % 2 ^ k) m) := by
  by_cases h : 32 * m ≤ k
  · have h1 := val_lt lx
    rw [hx.len, base_pow] at h1
    have h2 : (2 : Int) ^ (32 * m) ≤ 2 ^ k := two_le h
    rw [Int.emod_eq_of_lt (val_nonneg lx) (by omega)]
    exact low_all w ao m capa xs k hx lx hm (by omega)
  · obtain ⟨q, p, hp, rfl⟩ : ∃ q p, p < 32 ∧ k = 32 * q + p := ⟨k / 32, k % 32, Nat.mod_lt _ (by omega), by omega⟩
    by_cases hp0 : p = 0
    · subst hp0
      refine (low_whole w ao m capa xs q hx lx hm (by omega)).mono ?_
      rintro e w2 ⟨a2, m2, c2, z2, he, ho, h1, h2, h3, h4, h5⟩
      exact ⟨a2, m2, c2, z2, he, ho, h1, h2, h3, by omega, h5⟩
    · refine (low_part w ao m capa xs q p hx lx hm (by omega) hp (by omega)).mono ?_
      rintro e w2 ⟨a2, m2, c2, z2, he, ho, h1, h2, h3, h4, h5⟩
      exact ⟨a2, m2, c2, z2, he, ho, h1, h2, h3, by omega, h5⟩

/-- shiftDown, for every number of bits. -/
theorem down_any (w : World) (ao : Option Addr) (n capa : Nat) (xs : List Int) (k : Nat) (hx : Sl w ao n capa xs) (lx : Lim xs) (hn : n ≤ 4294967296) (hk : k ≤ 9223372036854775807) :
    Calls Try.prog 99 #[.slice ao n capa, .int .i64 (k : Int)] w (RetNat w (val xs / 2 ^ k) n) := by
  obtain ⟨q, p, hp, rfl⟩ : ∃ q p, p < 32 ∧ k = 32 * q + p := ⟨k / 32, k % 32, Nat.mod_lt _ (by omega), by omega⟩
  by_cases h : q < n
  · exact shiftDown_any w ao n capa xs q p hx lx hn h hp
  · have h1 := val_lt lx
    rw [hx.len, base_pow] at h1
    have h2 : (2 : Int) ^ (32 * n) ≤ 2 ^ (32 * q + p) := two_le (by omega)
    rw [Int.ediv_eq_zero_of_lt (val_nonneg lx) (by omega)]
    refine (shiftDown_far w ao n capa _ (by omega) (by omega) (by omega)).mono ?_
    rintro e w2 ⟨a2, m2, c2, z2, he, ho, h1, h2, h3, h4, h5⟩
    exact ⟨a2, m2, c2, z2, he, ho, h1, h2, h3, by omega, h5⟩
end Go.Proofs.Ytpakfknacmcohaa
