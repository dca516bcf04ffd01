/- Shift1, Shift3, Pows in one text. -/
import Derived.Test.YtdfepdhflnnjpaaGreatNumM
import Derived.Test.YtdfepdhflnnjpaaGreatSmallM
namespace Go.Proofs.YtdfepdhflnnjpaaGreat
open Go.RowKit
set_option autoImplicit false
set_option linter.unusedVariables false

set_option maxHeartbeats 1000000
set_option linter.unusedVariables false

/-- what a shifted limb leaves: the low part joins the part below, the high part goes up -/
theorem up_step {ys a : List Int} {q i : Nat} {P x l h o : Int} (hk : i + q + 1 < ys.length) (hx : a.getD i 0 = x) (ho : ys.getD (i + q) 0 = o) (h0 : ys.getD (i + q + 1) 0 = 0)
    (hv : val ys = val (a.take i) * P * 4294967296 ^ q) (hlh : l + 4294967296 * h = x * P) :
    val ((ys.set (i + q) (o + l)).set (i + q + 1) h) = val (a.take (i + 1)) * P * 4294967296 ^ q := by
  rw [val_set _ _ _ (by rw [List.length_set]; omega), val_set _ _ _ (by omega), getD_set_ne (by omega), h0, ho, hv, val_take_succ, hx, Int.pow_succ, Int.pow_add]
  have : x * P = l + 4294967296 * h := hlh.symm
  grind

theorem or_join (P o l : Nat) (k : Nat) (hP : P = 2 ^ k) (ho : o < P) (hl : l % P = 0) (hl1 : l < 4294967296) (ho1 : o < 4294967296) (hs : o + l < 4294967296) : bits BinOp.or IntKind.u32 (o : Int) (l : Int) = ((o + l : Nat) : Int) := by
  rw [u32_or_nat _ _ ho1 hl1]
  obtain ⟨c, rfl⟩ : ∃ c, l = P * c := ⟨l / P, by have := Nat.div_add_mod l P; omega⟩
  subst hP
  rw [Nat.or_comm, ← Nat.two_pow_add_eq_or_of_lt ho]
  congr 1
  omega

set_option maxRecDepth 100000 in
theorem shiftUp_any (w : World) (ao : Option Addr) (n capa : Nat) (xs : List Int) (q p : Nat) (hx : Sl w ao n capa xs) (lx : Lim xs) (hn : n ≤ 4294967296) (hq : q ≤ 4294967296) (hp : p < 32) (hn0 : 0 < n) :
    Calls Tryz.prog 171 #[.slice ao n capa, .int .i64 ((32 * q + p : Nat) : Int)] w (RetNat w (val xs * 2 ^ (32 * q + p)) (n + q + 1)) := by
  have HEX : Hid (xs.length = n) := hx.len
  have HCX := Lib.hid hx.cells
  have hcap := hx.le
  have hmx : capa ≤ 9223372036854775807 := by have := hx.most; unfold maxLen at this; omega
  obtain ⟨i0, hi, hz0, hz1, hz2⟩ := info_parts info_u32
  have e1 : (((32 * q + p : Nat) : Int)) / 32 = (q : Int) := by omega
  have e2 : (((32 * q + p : Nat) : Int)) % 32 = (p : Int) := by omega
  have e0 : 0 ≤ (((32 * q + p : Nat) : Int)) := by omega
  have e3 : (((32 * q + p : Nat) : Int)) ≤ 137438953504 := by omega
  obtain ⟨s, hs⟩ : ∃ s : Int, ((32 * q + p : Nat) : Int) = s := ⟨_, rfl⟩
  obtain ⟨T, hT⟩ : ∃ T : Nat, 32 * q + p = T := ⟨_, rfl⟩
  rw [hT] at hs
  rw [hT, hs] at e0 e1 e2 e3 ⊢
  have HT := Lib.hid hT
  have hnn : ((n : Int) == 0) = false := by simp; omega
  clear hx hs hT
  go_enter Tryz.func171, Tryz.ntmps171
  go_wp2_with (at_make; refine wpList_make_full _ rfl _ _ 22 rfl w.heap.size 138 i0 (.int .u32 0) 1 Tryz.underlying22 hi hz0 hz1 _ _ _ _ (n + q + 1) rfl rfl (by omega) (by omega) (by rw [hz2]; omega) (by unfold maxLen; omega) (Nat.le_refl _) ?_)
  intro w1 hown hgrow
  have hb1 : Below w.heap.size w w1 := (Below.refl _ _).grown hgrow (Nat.le_refl _) (by intro k hk; cases hk)
  have hm1 := made_mine (n := n + q + 1) (by simpa using hown)
  clear hown hgrow
  go_wp2_with fail
  go_loopw [26] (fun i wr => ∃ (k : Nat) (zs : List Int), k ≤ n ∧ i = .int .i64 k ∧ zs.length = n + q + 1 ∧ Lim zs ∧ (∀ j, k + q < j → zs.getD j 0 = 0) ∧ zs.getD (k + q) 0 < 2 ^ p ∧
      val zs = val (xs.take k) * 2 ^ p * 4294967296 ^ q ∧ Mine w.heap.size wr w.heap.size zs ∧ Below w.heap.size w wr)
    (fun i _ => n - (intOf i).toNat)
  case atStart => exact ⟨0, _, Nat.zero_le _, rfl, List.length_replicate, Lim_replicate _, fun j _ => by simp [List.getD, List.getElem?_replicate]; split <;> rfl, by simp [List.getD, List.getElem?_replicate]; split <;> simp <;> exact Int.pow_pos (by omega), by simp [val_replicate, val], hm1, hb1⟩
  case round =>
    obtain ⟨i, zs, hk, rfl, hzl, hlim, hzero, htop, hval, hmine, hbel⟩ := hrel
    have HZ := Lib.hid hzero
    have HV := Lib.hid hval
    have HL := Lib.hid hzl
    have HM := Lib.hid hmine
    have HTP := Lib.hid htop
    clear hzero hval hzl hmine hm1 hb1 htop
    by_cases hin : i < n
    · obtain ⟨x, hx⟩ : ∃ x, xs.getD i 0 = x := ⟨_, rfl⟩
      have hlx := Lim_getD lx i
      obtain ⟨ba, oa, rfl, hca⟩ := (HCX.out.below hbel).at (k := i) (by rw [HEX.out]; exact hin)
      rw [hx] at hlx hca
      obtain ⟨hx0, hx1⟩ := hlx
      have HX := Lib.hid hx
      clear hx
      obtain ⟨o, ho⟩ : ∃ o, zs.getD (i + q) 0 = o := ⟨_, rfl⟩
      have hlo := Lim_getD hlim (i + q)
      obtain ⟨hcell, hfrz⟩ := HM.out.cell (i + q) (by rw [HL.out]; omega)
      rw [ho] at hcell hlo
      obtain ⟨ho0, ho1⟩ := hlo
      have HO := Lib.hid ho
      clear ho
      obtain ⟨P, hP⟩ : ∃ P : Nat, 2 ^ p = P := ⟨_, rfl⟩
      have hPi : (2 : Int) ^ p = (P : Int) := by rw [← hP]; simp
      have hP1 : 1 ≤ P := by rw [← hP]; exact Nat.one_le_two_pow
      have hP2 : P ≤ 2147483648 := by rw [← hP]; exact Nat.pow_le_pow_right (by omega) (by omega : p ≤ 31)
      obtain ⟨d, hd⟩ : ∃ d, 4294967296 = P * d := ⟨2 ^ (32 - p), by rw [← hP, ← Nat.pow_add, show p + (32 - p) = 32 by omega]⟩
      obtain ⟨y, rfl⟩ := Int.eq_ofNat_of_zero_le hx0
      obtain ⟨b, rfl⟩ := Int.eq_ofNat_of_zero_le ho0
      have hbP : b < P := by have := HTP.out; rw [HO.out, hPi] at this; omega
      obtain ⟨t, ht⟩ : ∃ t : Nat, y * P = t := ⟨_, rfl⟩
      have ht1 : t ≤ 4294967295 * 2147483648 := by rw [← ht]; exact Nat.mul_le_mul (by omega) hP2
      have htw : IntKind.u64.wrap ((y : Int) * 2 ^ p) = (t : Int) := by rw [hPi, IntKind.wrap_u64, ← ht]; simp; omega
      have hlm : t % 4294967296 % P = 0 := by rw [hd, Nat.mod_mul_right_mod, ← ht, Nat.mul_mod_left]
      have hls : b + t % 4294967296 < 4294967296 := by
        obtain ⟨c, hc⟩ : ∃ c, t % 4294967296 = P * c := ⟨t % 4294967296 / P, by have := Nat.div_add_mod (t % 4294967296) P; omega⟩
        have h1 : t % 4294967296 < 4294967296 := Nat.mod_lt _ (by omega)
        rw [hc] at h1 ⊢
        rw [hd] at h1 ⊢
        have h2 : c < d := Nat.lt_of_mul_lt_mul_left h1
        have h3 : P * (c + 1) ≤ P * d := Nat.mul_le_mul_left _ h2
        rw [Nat.mul_add] at h3
        omega
      have hth : t / 4294967296 < P := by
        have : t / 4294967296 ≤ y * P / 4294967296 := by rw [ht]; exact Nat.le_refl _
        refine (Nat.div_lt_iff_lt_mul (by omega)).2 ?_
        rw [← ht]
        have : y * P < 4294967296 * P := Nat.mul_lt_mul_of_pos_right (by omega) (by omega)
        rw [Nat.mul_comm P]
        exact this
      obtain ⟨l, hl⟩ : ∃ l : Nat, t % 4294967296 = l := ⟨_, rfl⟩
      obtain ⟨h, hh⟩ : ∃ h : Nat, t / 4294967296 = h := ⟨_, rfl⟩
      have hlh : l + 4294967296 * h = t := by omega
      rw [hl] at hlm hls
      rw [hh] at hth
      have hor : bits BinOp.or IntKind.u32 (b : Int) (l : Int) = ((b + l : Nat) : Int) := or_join P b l p hP.symm hbP hlm (by omega) (by omega) hls
      have htl : (t : Int) % 4294967296 = (l : Int) := by omega
      have hth' : (t : Int) / 4294967296 = (h : Int) := by omega
      have ht0 : (t : Int) ≤ 9223372034707292160 := by omega
      have HP := Lib.hid hPi
      have HLH := Lib.hid hlh
      have HYT := Lib.hid ht
      have HTH := Lib.hid hth
      obtain ⟨hcell2, hfrz2⟩ := HM.out.cell (i + q + 1) (by rw [HL.out]; omega)
      rw [HZ.out _ (by omega)] at hcell2
      clear hPi hP hlh ht hlm hd hl hh hth
      go_wp2_with fail
      have hzl := HL.out
      have hb2 : (0 : Int) ≤ ((b + l : Nat) : Int) ∧ ((b + l : Nat) : Int) ≤ 4294967295 := by omega
      have hh2 : (0 : Int) ≤ (h : Int) ∧ (h : Int) ≤ 4294967295 := by have := HTH.out; omega
      have hv := up_step (ys := zs) (a := xs) (q := q) (i := i) (P := P) (x := y) (l := l) (h := h) (o := b) (by omega) HX.out HO.out (HZ.out _ (by omega)) (by rw [HV.out, HP.out]) (by rw [show ((l : Int) + 4294967296 * (h : Int)) = ((l + 4294967296 * h : Nat) : Int) by simp, HLH.out, ← HYT.out]; simp)
      have hm := (HM.out.set (i + q) ((b + l : Nat) : Int)).set (i + q + 1) (h : Int)
      have hlm2 := Lim_set (Lim_set hlim (i + q) hb2.1 hb2.2) (i + q + 1) hh2.1 hh2.2
      have hbl := (hbel.setCell (p := ⟨w.heap.size, i + q, none⟩) (Nat.le_refl _) (.int .u32 ((b + l : Nat) : Int))).setCell (p := ⟨w.heap.size, i + q + 1, none⟩) (Nat.le_refl _) (.int .u32 (h : Int))
      go_roundw
      case rel =>
        refine ⟨i + 1, _, by omega, by go_num, by rw [List.length_set, List.length_set]; exact hzl, hlm2, fun j hj => by rw [getD_set_ne (by omega), getD_set_ne (by omega)]; exact HZ.out j (by omega), ?_, ?_, hm, hbl⟩
        · rw [show i + 1 + q = i + q + 1 by omega, getD_set_eq (by rw [List.length_set]; omega), HP.out]
          have := HTH.out
          omega
        · rw [HP.out]
          exact hv
      case measure => simp [intOf]; omega
    · obtain rfl : i = n := by omega
      go_wp2_with fail
      have hzl := HL.out
      have hm3 := HM.out
      have hv3 : val zs = val xs * 2 ^ T := by
        have hv := HV.out
        have e1 := HEX.out
        rw [List.take_of_length_le (by omega)] at hv
        rw [hv, ← HT.out, Int.pow_add, Int.pow_mul, Int.mul_assoc, Int.mul_comm (2 ^ p)]
        rfl
      unfold Mine at hm3
      rw [hzl] at hm3
      have hfin := trim_own w _ _ _ _ _ hm3 hlim hbel hv3
      refine hfin.mono ?_
      rintro e w4 ⟨ao4, n4, cap4, zs4, rfl, hres⟩
      have HRES := Lib.hid hres
      clear hres
      go_wp2
      go_ret
      exact ⟨_, _, _, zs4, rfl, HRES.out⟩

set_option maxHeartbeats 1000000
set_option linter.unusedVariables false

theorem take_set_same' {zs : List Int} {k : Nat} {v : Int} : (zs.set k v).take k = zs.take k := by
  rw [List.take_set]
  exact List.set_eq_of_length_le (by rw [List.length_take]; omega)

theorem getD_drop (xs : List Int) (q i : Nat) : (xs.drop q).getD i 0 = xs.getD (q + i) 0 := by simp [List.getD, List.getElem?_drop]

theorem down_val {xs zs : List Int} {q : Nat} {P c : Int} (lx : Lim xs) (hq : q ≤ xs.length) (hP : 0 < P) (h0 : 0 ≤ c) (h1 : c < P) (h : P * val zs + c = val (xs.drop q)) : val zs = val xs / (4294967296 ^ q * P) := by
  have hB : (0 : Int) < 4294967296 ^ q := Int.pow_pos (by omega)
  have hl : (xs.take q).length = q := by rw [List.length_take]; omega
  have lt : Lim (xs.take q) := fun z hz => lx z (List.mem_of_mem_take hz)
  have e1 : val xs / 4294967296 ^ q = val (xs.drop q) := by
    have h2 := val_lt lt
    rw [hl] at h2
    rw [val_split xs q, hl, Int.add_mul_ediv_left _ _ (by omega), Int.ediv_eq_zero_of_lt (val_nonneg lt) h2, Int.zero_add]
  have e2 : val (xs.drop q) / P = val zs := by
    rw [← h, Int.add_comm, Int.add_mul_ediv_left _ _ (by omega), Int.ediv_eq_zero_of_lt h0 h1, Int.zero_add]
  rw [← e2, ← e1]
  first
    | rw [Int.ediv_ediv_of_nonneg (by omega)]
    | rw [Int.ediv_ediv (by omega)]
    | exact Int.ediv_ediv_eq_ediv_mul _ (by omega)
    | exact (Int.ediv_ediv_eq_ediv_mul _ (by omega)).symm

theorem down_limb {t x y P D : Int} (hP : 0 < P) (hB : 4294967296 = P * D) (hx0 : 0 ≤ x) (hx1 : x ≤ 4294967295) (ht : y * 4294967296 + x = t) :
    P * (t / P % 4294967296) + x % P = x + 4294967296 * (y % P) := by
  have h0 := Int.emod_add_mul_ediv y P
  have hd0 := Int.emod_nonneg y (show P ≠ 0 by omega)
  have hd1 := Int.emod_lt_of_pos y hP
  obtain ⟨d, hd⟩ : ∃ d, y % P = d := ⟨_, rfl⟩
  obtain ⟨c, hc⟩ : ∃ c, y / P = c := ⟨_, rfl⟩
  rw [hd] at hd0 hd1 h0 ⊢
  rw [hc] at h0
  have e1 : t = (d * 4294967296 + x) + P * (c * 4294967296) := by rw [← ht, ← h0]; grind
  have e2 : t / P = (d * 4294967296 + x) / P + c * 4294967296 := by rw [e1, Int.add_mul_ediv_left _ _ (by omega)]
  have e3 : 0 ≤ (d * 4294967296 + x) / P := Int.ediv_nonneg (by omega) (by omega)
  have e4 : (d * 4294967296 + x) / P < 4294967296 := Int.ediv_lt_of_lt_mul hP (by omega)
  have e5 : t / P % 4294967296 = (d * 4294967296 + x) / P := by rw [e2]; omega
  have e6 : (d * 4294967296 + x) % P = x % P := by
    rw [show d * 4294967296 + x = x + P * (D * d) by rw [hB]; grind]
    exact Int.add_mul_emod_self_left _ _ _
  have e7 := Int.emod_add_mul_ediv (d * 4294967296 + x) P
  rw [e5, ← e6]
  omega

theorem down_step {zs b : List Int} {i : Nat} {P x y r c0 : Int} (hk : i < zs.length) (hx : b.getD i 0 = x) (hr : P * r + x % P = x + 4294967296 * (y % P))
    (hv : P * val (zs.take i) + c0 = val (b.take i) + 4294967296 ^ i * (x % P)) :
    P * val ((zs.set i r).take (i + 1)) + c0 = val (b.take (i + 1)) + 4294967296 ^ (i + 1) * (y % P) := by
  rw [val_take_succ, take_set_same', getD_set_eq hk, val_take_succ, hx, Int.pow_succ]
  grind

set_option maxRecDepth 100000 in
set_option maxHeartbeats 1000000 in
theorem shiftDown_any (w : World) (ao : Option Addr) (n capa : Nat) (xs : List Int) (q p : Nat) (hx : Sl w ao n capa xs) (lx : Lim xs) (hn : n ≤ 4294967296) (hqn : q < n) (hp : p < 32) :
    Calls Tryz.prog 172 #[.slice ao n capa, .int .i64 ((32 * q + p : Nat) : Int)] w (RetNat w (val xs / 2 ^ (32 * q + p)) n) := by
  have HEX : Hid (xs.length = n) := hx.len
  have HCX := Lib.hid hx.cells
  have hcap := hx.le
  have hmx : capa ≤ 9223372036854775807 := by have := hx.most; unfold maxLen at this; omega
  obtain ⟨i0, hi, hz0, hz1, hz2⟩ := info_parts info_u32
  have e1 : (((32 * q + p : Nat) : Int)) / 32 = (q : Int) := by omega
  have e2 : (((32 * q + p : Nat) : Int)) % 32 = (p : Int) := by omega
  have e0 : 0 ≤ (((32 * q + p : Nat) : Int)) := by omega
  have e3 : (((32 * q + p : Nat) : Int)) ≤ 137438953504 := by omega
  obtain ⟨s, hs⟩ : ∃ s : Int, ((32 * q + p : Nat) : Int) = s := ⟨_, rfl⟩
  obtain ⟨T, hT⟩ : ∃ T : Nat, 32 * q + p = T := ⟨_, rfl⟩
  rw [hT] at hs
  rw [hT, hs] at e0 e1 e2 e3 ⊢
  have HT := Lib.hid hT
  obtain ⟨m, rfl⟩ : ∃ m, n = q + m := ⟨n - q, by omega⟩
  have hqi : ¬ ((q + m : Nat) : Int) ≤ q := by omega
  clear hx hs hT
  go_enter Tryz.func172, Tryz.ntmps172
  go_wp2_with (at_make; refine wpList_make_full _ rfl _ _ 22 rfl w.heap.size 138 i0 (.int .u32 0) 1 Tryz.underlying22 hi hz0 hz1 _ _ _ _ m rfl rfl (by omega) (by omega) (by rw [hz2]; omega) (by unfold maxLen; omega) (Nat.le_refl _) ?_)
  intro w1 hown hgrow
  have hb1 : Below w.heap.size w w1 := (Below.refl _ _).grown hgrow (Nat.le_refl _) (by intro k hk; cases hk)
  have hm1 := made_mine (n := m) (by simpa using hown)
  clear hown hgrow
  go_wp2_with fail
  obtain ⟨P, hP⟩ : ∃ P : Nat, 2 ^ p = P := ⟨_, rfl⟩
  have hPi : (2 : Int) ^ p = (P : Int) := by rw [← hP]; simp
  have hP1 : 1 ≤ P := by rw [← hP]; exact Nat.one_le_two_pow
  have hP2 : P ≤ 2147483648 := by rw [← hP]; exact Nat.pow_le_pow_right (by omega) (by omega : p ≤ 31)
  have HPI := Lib.hid hPi
  obtain ⟨D, hD⟩ : ∃ D : Int, (4294967296 : Int) = P * D := ⟨((2 ^ (32 - p) : Nat) : Int), by
    have h : 4294967296 = P * 2 ^ (32 - p) := by rw [← hP, ← Nat.pow_add, show p + (32 - p) = 32 by omega]
    rw [← Int.natCast_mul, ← h]; rfl⟩
  have HD := Lib.hid hD
  clear hP hPi hD
  go_loopw [25] (fun i wr => ∃ (k : Nat) (zs : List Int), k ≤ m ∧ i = .int .i64 k ∧ zs.length = m ∧ Lim zs ∧ P * val (zs.take k) + xs.getD q 0 % P = val ((xs.drop q).take k) + 4294967296 ^ k * (xs.getD (q + k) 0 % P) ∧ Mine w.heap.size wr w.heap.size zs ∧ Below w.heap.size w wr)
    (fun i _ => m - (intOf i).toNat)
  case atStart => exact ⟨0, _, Nat.zero_le _, rfl, List.length_replicate, Lim_replicate _, by simp [val], hm1, hb1⟩
  case round =>
    obtain ⟨i, zs, hk, rfl, hzl, hlim, hval, hmine, hbel⟩ := hrel
    have HV := Lib.hid hval
    have HL := Lib.hid hzl
    have HM := Lib.hid hmine
    have HB := Lib.hid hbel
    clear hval hzl hmine hm1 hb1 hbel
    by_cases him : i < m
    · have hii : (i : Int) < m := by omega
      obtain ⟨x, hx⟩ : ∃ x, xs.getD (q + i) 0 = x := ⟨_, rfl⟩
      have hlx := Lim_getD lx (q + i)
      obtain ⟨ba, oa, rfl, hca⟩ := (HCX.out.below HB.out).at (k := q + i) (by rw [HEX.out]; omega)
      rw [hx] at hlx hca
      obtain ⟨hx0, hx1⟩ := hlx
      have HX := Lib.hid hx
      obtain ⟨y, hy⟩ : ∃ y, xs.getD (q + i + 1) 0 = y := ⟨_, rfl⟩
      have hly := Lim_getD lx (q + i + 1)
      rw [hy] at hly
      obtain ⟨hy0, hy1⟩ := hly
      have HY := Lib.hid hy
      obtain ⟨t, ht⟩ : ∃ t, y * 4294967296 + x = t := ⟨_, rfl⟩
      have hor : bits BinOp.or IntKind.u64 (y * 4294967296) x = t := by rw [or_low y x hy0 hy1 hx0 hx1, ht]
      have ht0 : 0 ≤ t := by omega
      have ht1 : t ≤ 18446744073709551615 := by omega
      have hbig : (i : Int) + q < ((q + m : Nat) : Int) := by omega
      have hidx : ((i : Int) + q).toNat = q + i := by omega
      have HLM : Hid (∀ nq, Calls Tryz.prog 159 #[.slice (some ⟨ba, oa, none⟩) (q + m) capa, .int .i64 ((i : Int) + q + 1)] (wr.drewN nq) fun e w' => e = .returned (.int .u32 y) ∧ w' = wr.drewN nq) := Lib.hid (fun nq => by
        have h := limb_any (wr.drewN nq) (some ⟨ba, oa, none⟩) (q + m) capa xs ((i : Int) + q + 1) HEX.out (HCX.out.below (below_drewN HB.out nq)) (by omega)
        rw [show ((i : Int) + q + 1).toNat = q + i + 1 by omega, hy] at h
        exact h.mono fun _ _ h => ⟨h.1, h.2.symm⟩)
      obtain ⟨hcell, hfrz⟩ := HM.out.cell i (by rw [HL.out]; omega)
      have HTT := Lib.hid ht
      rw [← hidx] at hca
      have hi0 : (0 : Int) ≤ (i : Int) + q := by omega
      have hi1 : (i : Int) + q < (q : Int) + m := by omega
      have hw1 : IntKind.i64.wrap ((i : Int) + q) = (i : Int) + q := by rw [IntKind.wrap_i64]; omega
      have hw2 : IntKind.i64.wrap ((i : Int) + q + 1) = (i : Int) + q + 1 := by rw [IntKind.wrap_i64]; omega
      clear hx hy ht hidx
      go_wp2_with fail
      go_region_held3 (fun w' => w'.cell? ⟨ba, oa + ((i : Int) + q).toNat, none⟩ = some (.int .u32 x)) ((first | exact hca | assumption))
        ((go_at_call 159; refine (HLM.out _).mono ?_; rintro e v1 ⟨rfl, rfl⟩))
      go_wp2_with fail
      all_goals
        have hmq : Mine w.heap.size (wr.drewN 1) w.heap.size zs := HM.out
        have hzl := HL.out
        have hlimb := down_limb (t := t) (x := x) (y := y) (P := P) (by omega) HD.out hx0 hx1 HTT.out
        rw [← HPI.out] at hlimb
        refine ⟨⟨i + 1, zs.set i (t / 2 ^ p % 4294967296), by omega, by go_num, by rw [List.length_set]; exact hzl, Lim_set hlim i (by omega) (by omega), ?_, hmq.set i _, (below_drewN HB.out 1).setCell (Nat.le_refl _) _⟩, by simp [intOf]; omega⟩
        rw [show q + (i + 1) = q + i + 1 by omega, HY.out, ← HPI.out]
        exact down_step (by omega) (by rw [getD_drop]; exact HX.out) hlimb (by have h := HV.out; rw [HX.out, ← HPI.out] at h; exact h)
    · obtain rfl : i = m := by omega
      have hii : ¬ (i : Int) < i := by omega
      go_wp2_with fail
      have hzl := HL.out
      have hm3 := HM.out
      have hv3 : val zs = val xs / 2 ^ T := by
        have hv := HV.out
        have e1 := HEX.out
        rw [List.take_of_length_le (by omega), List.take_of_length_le (by rw [List.length_drop]; omega), getD_ge (show xs.length ≤ q + i by omega), Int.zero_emod, Int.mul_zero, Int.add_zero] at hv
        rw [down_val (q := q) lx (by omega) (by omega) (Int.emod_nonneg _ (by omega)) (Int.emod_lt_of_pos _ (by omega)) hv, ← HPI.out, ← HT.out, Int.pow_add, Int.pow_mul]
        rfl
      unfold Mine at hm3
      rw [hzl] at hm3
      have hfin := trim_own w _ _ _ _ _ hm3 hlim HB.out hv3
      refine hfin.mono ?_
      rintro e w4 ⟨ao4, n4, cap4, zs4, rfl, hres⟩
      have HRES := Lib.hid hres
      clear hres
      go_wp2
      go_ret
      obtain ⟨h1, h2, h3, h4, h5, h6⟩ := HRES.out
      exact ⟨_, _, _, zs4, rfl, h1, h2, h3, h4, by omega, h6⟩

theorem shiftDown_far (w : World) (ao : Option Addr) (n capa : Nat) (s : Int) (h0 : 0 ≤ s) (hn : (n : Int) ≤ s / 32) (hn2 : s ≤ 9223372036854775807) :
    Calls Tryz.prog 172 #[.slice ao n capa, .int .i64 s] w (RetNat w 0 0) := by
  have ho := Own.nil w.heap.size w
  go_enter Tryz.func172, Tryz.ntmps172
  go_wp2_with fail
  go_ret
  exact ⟨none, 0, 0, [], rfl, ho, Lim_nil, .inl rfl, rfl, Nat.le_refl _, .refl _ _⟩

set_option maxHeartbeats 1000000
set_option linter.unusedVariables false

theorem blen_le_iff {v k : Nat} : blen v ≤ k ↔ v < 2 ^ k := by
  constructor
  · intro h
    exact Nat.lt_of_lt_of_le (blen_lt v) (Nat.pow_le_pow_right (by omega) h)
  · intro h
    unfold blen
    split
    · omega
    · have := (Nat.log2_lt (n := v) (k := k) (by assumption)).2 h
      omega

theorem IntAt.abs {w : World} {neg : Bool} {ao : Option Addr} {n cap : Nat} {zs : List Int} {x : Int} (h : IntAt w neg ao n cap zs x) : x.natAbs = (Go.Proofs.YtdfepdhflnnjpaaGreat.val zs).toNat := by
  have h0 := val_nonneg h.lim
  rw [h.val]
  cases neg <;> simp [sgn] <;> omega

theorem blen_ge {v : Nat} (h : v ≠ 0) : 2 ^ (blen v - 1) ≤ v := by
  rw [← Nat.not_lt, ← blen_le_iff]
  have : 0 < blen v := by unfold blen; rw [if_neg h]; omega
  omega
end Go.Proofs.YtdfepdhflnnjpaaGreat
