/- number: the number with these digits. -/
import Derived.Test.YtkifebmlojdjnaaParse1
namespace Go.Proofs.Ytkifebmlojdjnaa
open Go.RowKit
set_option autoImplicit false
set_option linter.unusedVariables false

/-- The number that digits make. -/
def pval (r : Int) : List UInt8 → Int
  | cs => cs.foldl (fun v c => v * r + dv c.toNat) 0

theorem pval_take (r : Int) (cs : List UInt8) {k : Nat} (h : k < cs.length) : pval r (cs.take (k + 1)) = pval r (cs.take k) * r + dv (cs[k].toNat) := by
  unfold pval
  rw [List.take_succ_eq_append_getElem h, List.foldl_append]
  rfl

/-- The limbs and whether there were digits. -/
def RetNum (w : World) (v : Int) (b : Bool) (L : Nat) (e : Ending) (w' : World) : Prop :=
  ∃ ao n cap zs, e = .returned (.tuple #[.slice ao n cap, .bool b]) ∧ Own w.heap.size w' ao n cap zs ∧ Lim zs ∧ val zs = v ∧ n ≤ L ∧ Below w.heap.size w w'

theorem flush_step {v P q V d r : Int} (h : V = v * P + q) : V * r + d = v * (P * r) + (q * r + d) := by rw [h]; grind

set_option maxRecDepth 100000 in
theorem number_ok (w : World) (s : ByteArray) (r : Int) (h2 : 2 ≤ r) (h36 : r ≤ 36) (hs : s.size ≤ 1000000) (hv : ∀ j, j < s.size → dv ((s.data.toList.getD j 0).toNat) < r) :
    Calls Try.prog 115 #[.string s, .int .i64 r] w (RetNum w (pval r s.data.toList) (decide (s.size ≠ 0)) (s.size + 1)) := by
  have HS : Hid (s.data.toList.length = s.size) := Lib.hid (by rw [Array.length_toList]; rfl)
  have HV := Lib.hid hv
  clear hv
  go_enter Try.func115, Try.ntmps115
  go_wp2_with fail
  refine (group_any _ r h2 h36).mono ?_
  rintro e w0 ⟨c, hc1, hc2, hp, rfl, rfl⟩
  have hrr : ∀ j, j ≤ c → r ^ j ≤ 4294967295 := fun j hj => by have := rpow_le h2 hj; omega
  have HRR := Lib.hid hrr
  have hc64 : c ≤ 32 := by
    have h1 := two_le_rpow h2 c
    have h3 : (2 : Int) ^ c < 2 ^ 32 := by have : (2 : Int) ^ 32 = 4294967296 := by rfl
                                           omega
    have := lt_of_two_pow h3
    omega
  have hr0 : 0 ≤ r ^ c := by have := rpow_pos h2 c; omega
  obtain ⟨pw, hpw⟩ : ∃ pw, r ^ c = pw := ⟨_, rfl⟩
  rw [hpw] at hp hr0 ⊢
  clear hrr hpw
  go_wp2_with fail
  go_loopw [8, 9, 10, 20] (fun l p q i wr => ∃ (k j : Nat) (ao : Option Addr) (n cap : Nat) (zs : List Int) (Q P : Int), k ≤ s.size ∧ i = .int .i64 k ∧ l = .slice ao n cap ∧ p = .int .u32 P ∧ q = .int .u32 Q ∧ P = r ^ j ∧ k % c = j ∧ 0 ≤ Q ∧ Q < P ∧
      Own w.heap.size wr ao n cap zs ∧ Lim zs ∧ pval r (s.data.toList.take k) = val zs * P + Q ∧ n ≤ k ∧ Below w.heap.size w wr) (fun _ _ _ i _ => s.size - (intOf i).toNat)
  case atStart => exact ⟨0, 0, none, 0, 0, [], 0, 1, Nat.zero_le _, rfl, rfl, rfl, rfl, by simp, Nat.zero_mod _, by omega, by omega, World.ownsRow_nil _ _ _ _, Lim_nil, by simp [pval, Go.Proofs.Ytkifebmlojdjnaa.val], Nat.le_refl _, .refl _ _⟩
  case round =>
    obtain ⟨k, j, ao, n, cap, zs, Q, P, hk, rfl, rfl, rfl, rfl, hPj, hkj, hQ0, hQ1, hown, hlim, hval, hnk, hbel⟩ := hrel
    have HO := Lib.hid hown
    have HVA := Lib.hid hval
    have HPJ := Lib.hid hPj
    have HKJ := Lib.hid hkj
    have hsz := hbel.size
    have hjc : j < c := by rw [← hkj]; exact Nat.mod_lt _ (by omega)
    have hP1 : 1 ≤ P := by rw [hPj]; have := rpow_pos h2 j; omega
    have hPr : P * r ≤ 4294967295 := by rw [hPj, ← Int.pow_succ]; exact HRR.out (j + 1) (by omega)
    have hPP : P ≤ 4294967295 := by rw [hPj]; exact HRR.out j (by omega)
    have hQr : Q * r + r ≤ P * r := by
      have : (Q + 1) * r ≤ P * r := Int.mul_le_mul_of_nonneg_right (by omega) (by omega)
      rw [Int.add_mul] at this
      omega
    have hQr0 : 0 ≤ Q * r := Int.mul_nonneg hQ0 (by omega)
    have hPr0 : 0 ≤ P * r := by omega
    have hki : (k : Int) % (c : Int) = (j : Int) := by rw [← hkj]; simp
    clear hown hval hPj hkj
    by_cases hkM : k < s.size
    · have hks : k < s.size := by omega
      obtain ⟨y, hy⟩ : ∃ y : Nat, (s.data.toList[k]'(by rw [HS.out]; exact hks)).toNat = y := ⟨_, rfl⟩
      have hstep := pval_take r s.data.toList (k := k) (by rw [HS.out]; exact hks)
      rw [hy] at hstep
      have hd := HV.out k hkM
      rw [List.getD_eq_getElem?_getD, List.getElem?_eq_getElem (by rw [HS.out]; exact hks), Option.getD_some, hy] at hd
      have hy255 : y ≤ 255 := by rw [← hy]; have := (s.data.toList[k]'(by rw [HS.out]; exact hks)).toNat_lt; omega
      have hidx : (s[k]'hks).toNat = y := by rw [← hy]; rfl
      have hdr := dv_range (c := (y : Int)) (by omega)
      have HDV := Lib.hid (fun w' => digitValue_any w' (y : Int) (by omega) (by omega))
      obtain ⟨d, hdd⟩ : ∃ d, dv (y : Int) = d := ⟨_, rfl⟩
      rw [hdd] at HDV hd hdr hstep
      have HST := Lib.hid hstep
      have hd0 : 0 ≤ d := hdr.1
      have hndr : ¬ r ≤ d := by omega
      clear hdd hdr hstep hy
      go_wp2_with fail
      refine (HDV.out _).mono ?_
      rintro e w1 ⟨rfl, rfl⟩
      clear hidx
      by_cases hjl : j + 1 = c
      · have hjb : ((j : Int) == (c : Int) - 1) = true := by simp; omega
        have HADD := Lib.hid (addTo_any w.heap.size wr ao n cap zs (P * r) (Q * r + d) HO.out hlim hsz hPr0 hPr (by omega) (by omega) (by omega))
        go_wp2_with fail
        refine HADD.out.mono ?_
        rintro e w2 ⟨a2, n2, c2, z2, rfl, hown2, hl2, hv2, hn2, hb2⟩
        have HO2 := Lib.hid hown2
        have HV2 := Lib.hid hv2
        clear hown2 hv2
        go_wp2_with fail
        go_roundw
        case rel =>
          refine ⟨k + 1, 0, a2, n2, c2, z2, 0, 1, by omega, by go_num, rfl, rfl, rfl, by simp, ?_, by omega, by omega, HO2.out, hl2, ?_, by omega, hbel.trans hb2⟩
          · rw [Nat.add_mod, HKJ.out]
            by_cases hc1' : c = 1
            · subst hc1'; exact Nat.mod_one _
            · rw [Nat.mod_eq_of_lt (show 1 < c by omega), hjl, Nat.mod_self]
          · rw [HST.out, HV2.out, flush_step HVA.out]; omega
        case measure => simp [intOf]; omega
      · have hjb : ((j : Int) == (c : Int) - 1) = false := by simp; omega
        go_wp2_with fail
        go_roundw
        case rel =>
          refine ⟨k + 1, j + 1, ao, n, cap, zs, Q * r + d, P * r, by omega, by go_num, rfl, rfl, rfl, by rw [HPJ.out, Int.pow_succ], ?_, by omega, by omega, HO.out, hlim, by rw [HST.out, flush_step HVA.out], by omega, hbel⟩
          rw [Nat.add_mod, HKJ.out, Nat.mod_eq_of_lt (show 1 < c by omega), Nat.mod_eq_of_lt (by omega)]
        case measure => simp [intOf]; omega
    · obtain rfl : k = s.size := by omega
      have hval2 : pval r s.data.toList = val zs * P + Q := by have := HVA.out; rwa [List.take_of_length_le (by rw [HS.out]; exact Nat.le_refl _)] at this
      have HVAL := Lib.hid hval2
      have HADD := Lib.hid (addTo_any w.heap.size wr ao n cap zs P Q HO.out hlim hsz (by omega) hPP hQ0 (by omega) (by omega))
      have hji : ¬ (s.size : Int) < s.size := by omega
      clear hval2
      go_wp2_with fail
      refine HADD.out.mono ?_
      rintro e w2 ⟨a2, n2, c2, z2, rfl, hown2, hl2, hv2, hn2, hb2⟩
      have HO2 := Lib.hid hown2
      have HV2 := Lib.hid hv2
      have HBB := Lib.hid (hbel.trans hb2)
      clear hown2 hv2 hb2
      by_cases hem : s.size = 0
      · have hem0 : s.data.toList = [] := List.eq_nil_of_length_eq_zero (by rw [HS.out]; exact hem)
        go_wp2_with fail
        go_ret2
        first
          | exact ⟨a2, n2, c2, z2, by simp [ByteArray.toList_eq, hem0, hem], HO2.out, hl2, by rw [HV2.out, HVAL.out], by omega, HBB.out⟩
      · have hem0 : ¬ s.data.toList = [] := fun h0 => hem (by rw [← HS.out, h0]; rfl)
        have hem1 : s.data.isEmpty = false := decide_eq_false hem
        go_wp2_with fail
        go_ret2
        first
          | exact ⟨a2, n2, c2, z2, by simp [ByteArray.toList_eq, hem1, hem], HO2.out, hl2, by rw [HV2.out, HVAL.out], by omega, HBB.out⟩

set_option maxRecDepth 100000 in
theorem number_bad (w : World) (s : ByteArray) (r : Int) (M : Nat) (h2 : 2 ≤ r) (h36 : r ≤ 36) (hs : s.size ≤ 1000000) (hM : M < s.size) (hv : ∀ j, j < M → dv ((s.data.toList.getD j 0).toNat) < r) (hbad : r ≤ dv ((s.data.toList.getD M 0).toNat)) :
    Calls Try.prog 115 #[.string s, .int .i64 r] w (RetV w (.tuple #[.slice none 0 0, .bool false])) := by
  have HS : Hid (s.data.toList.length = s.size) := Lib.hid (by rw [Array.length_toList]; rfl)
  have HV := Lib.hid hv
  clear hv
  have hMs : M < s.size := hM
  have HBAD := Lib.hid hbad
  clear hbad
  go_enter Try.func115, Try.ntmps115
  go_wp2_with fail
  refine (group_any _ r h2 h36).mono ?_
  rintro e w0 ⟨c, hc1, hc2, hp, rfl, rfl⟩
  have hrr : ∀ j, j ≤ c → r ^ j ≤ 4294967295 := fun j hj => by have := rpow_le h2 hj; omega
  have HRR := Lib.hid hrr
  have hc64 : c ≤ 32 := by
    have h1 := two_le_rpow h2 c
    have h3 : (2 : Int) ^ c < 2 ^ 32 := by have : (2 : Int) ^ 32 = 4294967296 := by rfl
                                           omega
    have := lt_of_two_pow h3
    omega
  have hr0 : 0 ≤ r ^ c := by have := rpow_pos h2 c; omega
  obtain ⟨pw, hpw⟩ : ∃ pw, r ^ c = pw := ⟨_, rfl⟩
  rw [hpw] at hp hr0 ⊢
  clear hrr hpw
  go_wp2_with fail
  go_loopw [8, 9, 10, 20] (fun l p q i wr => ∃ (k j : Nat) (ao : Option Addr) (n cap : Nat) (zs : List Int) (Q P : Int), k ≤ M ∧ i = .int .i64 k ∧ l = .slice ao n cap ∧ p = .int .u32 P ∧ q = .int .u32 Q ∧ P = r ^ j ∧ k % c = j ∧ 0 ≤ Q ∧ Q < P ∧
      Own w.heap.size wr ao n cap zs ∧ Lim zs ∧ pval r (s.data.toList.take k) = val zs * P + Q ∧ n ≤ k ∧ Below w.heap.size w wr) (fun _ _ _ i _ => M - (intOf i).toNat)
  case atStart => exact ⟨0, 0, none, 0, 0, [], 0, 1, Nat.zero_le _, rfl, rfl, rfl, rfl, by simp, Nat.zero_mod _, by omega, by omega, World.ownsRow_nil _ _ _ _, Lim_nil, by simp [pval, Go.Proofs.Ytkifebmlojdjnaa.val], Nat.le_refl _, .refl _ _⟩
  case round =>
    obtain ⟨k, j, ao, n, cap, zs, Q, P, hk, rfl, rfl, rfl, rfl, hPj, hkj, hQ0, hQ1, hown, hlim, hval, hnk, hbel⟩ := hrel
    have HO := Lib.hid hown
    have HVA := Lib.hid hval
    have HPJ := Lib.hid hPj
    have HKJ := Lib.hid hkj
    have hsz := hbel.size
    have hjc : j < c := by rw [← hkj]; exact Nat.mod_lt _ (by omega)
    have hP1 : 1 ≤ P := by rw [hPj]; have := rpow_pos h2 j; omega
    have hPr : P * r ≤ 4294967295 := by rw [hPj, ← Int.pow_succ]; exact HRR.out (j + 1) (by omega)
    have hPP : P ≤ 4294967295 := by rw [hPj]; exact HRR.out j (by omega)
    have hQr : Q * r + r ≤ P * r := by
      have : (Q + 1) * r ≤ P * r := Int.mul_le_mul_of_nonneg_right (by omega) (by omega)
      rw [Int.add_mul] at this
      omega
    have hQr0 : 0 ≤ Q * r := Int.mul_nonneg hQ0 (by omega)
    have hPr0 : 0 ≤ P * r := by omega
    have hki : (k : Int) % (c : Int) = (j : Int) := by rw [← hkj]; simp
    clear hown hval hPj hkj
    by_cases hkM : k < M
    · have hks : k < s.size := by omega
      obtain ⟨y, hy⟩ : ∃ y : Nat, (s.data.toList[k]'(by rw [HS.out]; exact hks)).toNat = y := ⟨_, rfl⟩
      have hstep := pval_take r s.data.toList (k := k) (by rw [HS.out]; exact hks)
      rw [hy] at hstep
      have hd := HV.out k hkM
      rw [List.getD_eq_getElem?_getD, List.getElem?_eq_getElem (by rw [HS.out]; exact hks), Option.getD_some, hy] at hd
      have hy255 : y ≤ 255 := by rw [← hy]; have := (s.data.toList[k]'(by rw [HS.out]; exact hks)).toNat_lt; omega
      have hidx : (s[k]'hks).toNat = y := by rw [← hy]; rfl
      have hdr := dv_range (c := (y : Int)) (by omega)
      have HDV := Lib.hid (fun w' => digitValue_any w' (y : Int) (by omega) (by omega))
      obtain ⟨d, hdd⟩ : ∃ d, dv (y : Int) = d := ⟨_, rfl⟩
      rw [hdd] at HDV hd hdr hstep
      have HST := Lib.hid hstep
      have hd0 : 0 ≤ d := hdr.1
      have hndr : ¬ r ≤ d := by omega
      clear hdd hdr hstep hy
      go_wp2_with fail
      refine (HDV.out _).mono ?_
      rintro e w1 ⟨rfl, rfl⟩
      clear hidx
      by_cases hjl : j + 1 = c
      · have hjb : ((j : Int) == (c : Int) - 1) = true := by simp; omega
        have HADD := Lib.hid (addTo_any w.heap.size wr ao n cap zs (P * r) (Q * r + d) HO.out hlim hsz hPr0 hPr (by omega) (by omega) (by omega))
        go_wp2_with fail
        refine HADD.out.mono ?_
        rintro e w2 ⟨a2, n2, c2, z2, rfl, hown2, hl2, hv2, hn2, hb2⟩
        have HO2 := Lib.hid hown2
        have HV2 := Lib.hid hv2
        clear hown2 hv2
        go_wp2_with fail
        go_roundw
        case rel =>
          refine ⟨k + 1, 0, a2, n2, c2, z2, 0, 1, by omega, by go_num, rfl, rfl, rfl, by simp, ?_, by omega, by omega, HO2.out, hl2, ?_, by omega, hbel.trans hb2⟩
          · rw [Nat.add_mod, HKJ.out]
            by_cases hc1' : c = 1
            · subst hc1'; exact Nat.mod_one _
            · rw [Nat.mod_eq_of_lt (show 1 < c by omega), hjl, Nat.mod_self]
          · rw [HST.out, HV2.out, flush_step HVA.out]; omega
        case measure => simp [intOf]; omega
      · have hjb : ((j : Int) == (c : Int) - 1) = false := by simp; omega
        go_wp2_with fail
        go_roundw
        case rel =>
          refine ⟨k + 1, j + 1, ao, n, cap, zs, Q * r + d, P * r, by omega, by go_num, rfl, rfl, rfl, by rw [HPJ.out, Int.pow_succ], ?_, by omega, by omega, HO.out, hlim, by rw [HST.out, flush_step HVA.out], by omega, hbel⟩
          rw [Nat.add_mod, HKJ.out, Nat.mod_eq_of_lt (show 1 < c by omega), Nat.mod_eq_of_lt (by omega)]
        case measure => simp [intOf]; omega
    · obtain rfl : k = M := by omega
      have hks : k < s.size := hMs
      obtain ⟨y, hy⟩ : ∃ y : Nat, (s.data.toList[k]'(by rw [HS.out]; exact hks)).toNat = y := ⟨_, rfl⟩
      have hd := HBAD.out
      rw [List.getD_eq_getElem?_getD, List.getElem?_eq_getElem (by rw [HS.out]; exact hks), Option.getD_some, hy] at hd
      have hy255 : y ≤ 255 := by rw [← hy]; have := (s.data.toList[k]'(by rw [HS.out]; exact hks)).toNat_lt; omega
      have hidx : (s[k]'hks).toNat = y := by rw [← hy]; rfl
      have HDV := Lib.hid (fun w' => digitValue_any w' (y : Int) (by omega) (by omega))
      obtain ⟨d, hdd⟩ : ∃ d, dv (y : Int) = d := ⟨_, rfl⟩
      rw [hdd] at HDV hd
      clear hdd hy
      go_wp2_with fail
      refine (HDV.out _).mono ?_
      rintro e w1 ⟨rfl, rfl⟩
      clear hidx
      go_wp2_with fail
      go_ret2
      exact ⟨rfl, hbel⟩
end Go.Proofs.Ytkifebmlojdjnaa
