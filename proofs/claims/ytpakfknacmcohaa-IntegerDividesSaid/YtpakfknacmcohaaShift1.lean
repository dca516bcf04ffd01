/- shiftUp: a number times a power of two. -/
import Derived.Test.YtpakfknacmcohaaNumC
namespace Go.Proofs.Ytpakfknacmcohaa
open Go.RowKit
set_option autoImplicit false
set_option linter.unusedVariables false

/-- what a shifted limb leaves: the low part joins the part below, the high part goes up -/
theorem up_step {ys a : List Int} {q i : Nat} {P x l h o : Int} (hk : i + q + 1 < ys.length) (hx : a.getD i 0 = x) (ho : ys.getD (i + q) 0 = o) (h0 : ys.getD (i + q + 1) 0 = 0)
    (hv : val ys = val (a.take i) * P * 4294967296 ^ q) (hlh : l + 4294967296 * h = x * P) :
    val ((ys.set (i + q) (o + l)).set (i + q + 1) h) = val (a.take (i + 1)) * P * 4294967296 ^ q := by
  rw [val_set _ _ _ (by rw [List.length_set]; omega), val_set _ _ _ (by omega), getD_set_ne (by omega), h0, ho, hv, val_take_succ, hx, Int.pow_succ, Int.pow_add]
  have : x * P = l + 4294967296 * h := hlh.symm
  grind

theorem or_join (P o l : Nat) (k : Nat) (hP : P = 2 ^ k) (ho : o < P) (hl : l % P = 0) (hl1 : l < 4294967296) (ho1 : o < 4294967296) (hs : o + l < 4294967296) : bits BinOp.or IntKind.u32 (o : Int) (l : Int) = ((o + l : Nat) : Int) := by
  rw [u32_or_nat _ _ ho1 hl1]
  obtain ⟨c, rfl⟩ : ∃ c, l = P * c := ⟨l / P, by have := Nat.div_add_mod l P; omega⟩
  subst hP
  rw [Nat.or_comm, ← Nat.two_pow_add_eq_or_of_lt ho]
  congr 1
  omega

set_option maxRecDepth 100000 in
theorem shiftUp_any (w : World) (ao : Option Addr) (n capa : Nat) (xs : List Int) (q p : Nat) (hx : Sl w ao n capa xs) (lx : Lim xs) (hn : n ≤ 4294967296) (hq : q ≤ 4294967296) (hp : p < 32) (hn0 : 0 < n) :
    Calls Try.prog 98 #[.slice ao n capa, .int .i64 ((32 * q + p : Nat) : Int)] w (RetNat w (val xs * 2 ^ (32 * q + p)) (n + q + 1)) := by
  have HEX : Hid (xs.length = n) := hx.len
  have HCX := Lib.hid hx.cells
  have hcap := hx.le
  have hmx : capa ≤ 9223372036854775807 := by have := hx.most; unfold maxLen at this; omega
  obtain ⟨i0, hi, hz0, hz1, hz2⟩ := info_parts info_u32
  have e1 : (((32 * q + p : Nat) : Int)) / 32 = (q : Int) := by omega
  have e2 : (((32 * q + p : Nat) : Int)) % 32 = (p : Int) := by omega
  have e0 : 0 ≤ (((32 * q + p : Nat) : Int)) := by omega
  have e3 : (((32 * q + p : Nat) : Int)) ≤ 137438953504 := by omega
  obtain ⟨s, hs⟩ : ∃ s : Int, ((32 * q + p : Nat) : Int) = s := ⟨_, rfl⟩
  obtain ⟨T, hT⟩ : ∃ T : Nat, 32 * q + p = T := ⟨_, rfl⟩
  rw [hT] at hs
  rw [hT, hs] at e0 e1 e2 e3 ⊢
  have HT := Lib.hid hT
  have hnn : ((n : Int) == 0) = false := by simp; omega
  clear hx hs hT
  go_enter Try.func98, Try.ntmps98
  go_wp2_with (at_make; refine wpList_make_full _ rfl _ _ 22 rfl w.heap.size 99 i0 (.int .u32 0) 1 Try.underlying22 hi hz0 hz1 _ _ _ _ (n + q + 1) rfl rfl (by omega) (by omega) (by rw [hz2]; omega) (by unfold maxLen; omega) (Nat.le_refl _) ?_)
  intro w1 hown hgrow
  have hb1 : Below w.heap.size w w1 := (Below.refl _ _).grown hgrow (Nat.le_refl _) (by intro k hk; cases hk)
  have hm1 := made_mine (n := n + q + 1) (by simpa using hown)
  clear hown hgrow
  go_wp2_with fail
  go_loopw [26] (fun i wr => ∃ (k : Nat) (zs : List Int), k ≤ n ∧ i = .int .i64 k ∧ zs.length = n + q + 1 ∧ Lim zs ∧ (∀ j, k + q < j → zs.getD j 0 = 0) ∧ zs.getD (k + q) 0 < 2 ^ p ∧
      val zs = val (xs.take k) * 2 ^ p * 4294967296 ^ q ∧ Mine w.heap.size wr w.heap.size zs ∧ Below w.heap.size w wr)
    (fun i _ => n - (intOf i).toNat)
  case atStart => exact ⟨0, _, Nat.zero_le _, rfl, List.length_replicate, Lim_replicate _, fun j _ => by simp [List.getD, List.getElem?_replicate]; split <;> rfl, by simp [List.getD, List.getElem?_replicate]; split <;> simp <;> exact Int.pow_pos (by omega), by simp [val_replicate, val], hm1, hb1⟩
  case round =>
    obtain ⟨i, zs, hk, rfl, hzl, hlim, hzero, htop, hval, hmine, hbel⟩ := hrel
    have HZ := Lib.hid hzero
    have HV := Lib.hid hval
    have HL := Lib.hid hzl
    have HM := Lib.hid hmine
    have HTP := Lib.hid htop
    clear hzero hval hzl hmine hm1 hb1 htop
    by_cases hin : i < n
    · obtain ⟨x, hx⟩ : ∃ x, xs.getD i 0 = x := ⟨_, rfl⟩
      have hlx := Lim_getD lx i
      obtain ⟨ba, oa, rfl, hca⟩ := (HCX.out.below hbel).at (k := i) (by rw [HEX.out]; exact hin)
      rw [hx] at hlx hca
      obtain ⟨hx0, hx1⟩ := hlx
      have HX := Lib.hid hx
      clear hx
      obtain ⟨o, ho⟩ : ∃ o, zs.getD (i + q) 0 = o := ⟨_, rfl⟩
      have hlo := Lim_getD hlim (i + q)
      obtain ⟨hcell, hfrz⟩ := HM.out.cell (i + q) (by rw [HL.out]; omega)
      rw [ho] at hcell hlo
      obtain ⟨ho0, ho1⟩ := hlo
      have HO := Lib.hid ho
      clear ho
      obtain ⟨P, hP⟩ : ∃ P : Nat, 2 ^ p = P := ⟨_, rfl⟩
      have hPi : (2 : Int) ^ p = (P : Int) := by rw [← hP]; simp
      have hP1 : 1 ≤ P := by rw [← hP]; exact Nat.one_le_two_pow
      have hP2 : P ≤ 2147483648 := by rw [← hP]; exact Nat.pow_le_pow_right (by omega) (by omega : p ≤ 31)
      obtain ⟨d, hd⟩ : ∃ d, 4294967296 = P * d := ⟨2 ^ (32 - p), by rw [← hP, ← Nat.pow_add, show p + (32 - p) = 32 by omega]⟩
      obtain ⟨y, rfl⟩ := Int.eq_ofNat_of_zero_le hx0
      obtain ⟨b, rfl⟩ := Int.eq_ofNat_of_zero_le ho0
      have hbP : b < P := by have := HTP.out; rw [HO.out, hPi] at this; omega
      obtain ⟨t, ht⟩ : ∃ t : Nat, y * P = t := ⟨_, rfl⟩
      have ht1 : t ≤ 4294967295 * 2147483648 := by rw [← ht]; exact Nat.mul_le_mul (by omega) hP2
      have htw : IntKind.u64.wrap ((y : Int) * 2 ^ p) = (t : Int) := by rw [hPi, IntKind.wrap_u64, ← ht]; simp; omega
      have hlm : t % 4294967296 % P = 0 := by rw [hd, Nat.mod_mul_right_mod, ← ht, Nat.mul_mod_left]
      have hls : b + t % 4294967296 < 4294967296 := by
        obtain ⟨c, hc⟩ : ∃ c, t % 4294967296 = P * c := ⟨t % 4294967296 / P, by have := Nat.div_add_mod (t % 4294967296) P; omega⟩
        have h1 : t % 4294967296 < 4294967296 := Nat.mod_lt _ (by omega)
        rw [hc] at h1 ⊢
        rw [hd] at h1 ⊢
        have h2 : c < d := Nat.lt_of_mul_lt_mul_left h1
        have h3 : P * (c + 1) ≤ P * d := Nat.mul_le_mul_left _ h2
        rw [Nat.mul_add] at h3
        omega
      have hth : t / 4294967296 < P := by
        have : t / 4294967296 ≤ y * P / 4294967296 := by rw [ht]; exact Nat.le_refl _
        refine (Nat.div_lt_iff_lt_mul (by omega)).2 ?_
        rw [← ht]
        have : y * P < 4294967296 * P := Nat.mul_lt_mul_of_pos_right (by omega) (by omega)
        rw [Nat.mul_comm P]
        exact this
      obtain ⟨l, hl⟩ : ∃ l : Nat, t % 4294967296 = l := ⟨_, rfl⟩
      obtain ⟨h, hh⟩ : ∃ h : Nat, t / 4294967296 = h := ⟨_, rfl⟩
      have hlh : l + 4294967296 * h = t := by omega
      rw [hl] at hlm hls
      rw [hh] at hth
      have hor : bits BinOp.or IntKind.u32 (b : Int) (l : Int) = ((b + l : Nat) : Int) := or_join P b l p hP.symm hbP hlm (by omega) (by omega) hls
      have htl : (t : Int) % 4294967296 = (l : Int) := by omega
      have hth' : (t : Int) / 4294967296 = (h : Int) := by omega
      have ht0 : (t : Int) ≤ 9223372034707292160 := by omega
      have HP := Lib.hid hPi
      have HLH := Lib.hid hlh
      have HYT := Lib.hid ht
      have HTH := Lib.hid hth
      obtain ⟨hcell2, hfrz2⟩ := HM.out.cell (i + q + 1) (by rw [HL.out]; omega)
      rw [HZ.out _ (by omega)] at hcell2
      clear hPi hP hlh ht hlm hd hl hh hth
      go_wp2_with fail
      have hzl := HL.out
      have hb2 : (0 : Int) ≤ ((b + l : Nat) : Int) ∧ ((b + l : Nat) : Int) ≤ 4294967295 := by omega
      have hh2 : (0 : Int) ≤ (h : Int) ∧ (h : Int) ≤ 4294967295 := by have := HTH.out; omega
      have hv := up_step (ys := zs) (a := xs) (q := q) (i := i) (P := P) (x := y) (l := l) (h := h) (o := b) (by omega) HX.out HO.out (HZ.out _ (by omega)) (by rw [HV.out, HP.out]) (by rw [show ((l : Int) + 4294967296 * (h : Int)) = ((l + 4294967296 * h : Nat) : Int) by simp, HLH.out, ← HYT.out]; simp)
      have hm := (HM.out.set (i + q) ((b + l : Nat) : Int)).set (i + q + 1) (h : Int)
      have hlm2 := Lim_set (Lim_set hlim (i + q) hb2.1 hb2.2) (i + q + 1) hh2.1 hh2.2
      have hbl := (hbel.setCell (p := ⟨w.heap.size, i + q, none⟩) (Nat.le_refl _) (.int .u32 ((b + l : Nat) : Int))).setCell (p := ⟨w.heap.size, i + q + 1, none⟩) (Nat.le_refl _) (.int .u32 (h : Int))
      go_roundw
      case rel =>
        refine ⟨i + 1, _, by omega, by go_num, by rw [List.length_set, List.length_set]; exact hzl, hlm2, fun j hj => by rw [getD_set_ne (by omega), getD_set_ne (by omega)]; exact HZ.out j (by omega), ?_, ?_, hm, hbl⟩
        · rw [show i + 1 + q = i + q + 1 by omega, getD_set_eq (by rw [List.length_set]; omega), HP.out]
          have := HTH.out
          omega
        · rw [HP.out]
          exact hv
      case measure => simp [intOf]; omega
    · obtain rfl : i = n := by omega
      go_wp2_with fail
      have hzl := HL.out
      have hm3 := HM.out
      have hv3 : val zs = val xs * 2 ^ T := by
        have hv := HV.out
        have e1 := HEX.out
        rw [List.take_of_length_le (by omega)] at hv
        rw [hv, ← HT.out, Int.pow_add, Int.pow_mul, Int.mul_assoc, Int.mul_comm (2 ^ p)]
        rfl
      unfold Mine at hm3
      rw [hzl] at hm3
      have hfin := trim_own w _ _ _ _ _ hm3 hlim hbel hv3
      refine hfin.mono ?_
      rintro e w4 ⟨ao4, n4, cap4, zs4, rfl, hres⟩
      have HRES := Lib.hid hres
      clear hres
      go_wp2
      go_ret
      exact ⟨_, _, _, zs4, rfl, HRES.out⟩

theorem shiftUp_nil (w : World) (ao : Option Addr) (capa : Nat) (s : Int) :
    Calls Try.prog 98 #[.slice ao 0 capa, .int .i64 s] w (RetNat w 0 0) := by
  have ho := Own.nil w.heap.size w
  go_enter Try.func98, Try.ntmps98
  go_wp2_with fail
  go_ret
  exact ⟨none, 0, 0, [], rfl, ho, Lim_nil, .inl rfl, rfl, Nat.le_refl _, .refl _ _⟩
end Go.Proofs.Ytpakfknacmcohaa
