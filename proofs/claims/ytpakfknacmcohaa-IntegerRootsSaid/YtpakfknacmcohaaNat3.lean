/- Contracts of compare and product. -/
import Derived.Test.YtpakfknacmcohaaNat2
namespace Go.Proofs.Ytpakfknacmcohaa
open Go.RowKit
set_option autoImplicit false

/-- The sign of x - y. -/
def cmpI (x y : Int) : Int := if x < y then -1 else if y < x then 1 else 0
theorem cmpI_lt {x y : Int} (h : x < y) : cmpI x y = -1 := by simp [cmpI, h]
theorem cmpI_gt {x y : Int} (h : y < x) : cmpI x y = 1 := by unfold cmpI; rw [if_neg (by omega), if_pos h]
theorem cmpI_eq {x y : Int} (h : x = y) : cmpI x y = 0 := by unfold cmpI; rw [if_neg (by omega), if_neg (by omega)]

/-- A number was returned, and nothing was written. -/
def RetQ (w : World) (v : Value) (e : Ending) (w' : World) : Prop := e = .returned v ∧ ∃ q, w' = w.drewN q

theorem Cells.at {w : World} {ao : Option Addr} {zs : List Int} (h : Cells w ao zs) {k : Nat} (hk : k < zs.length) : ∃ b o, ao = some ⟨b, o, none⟩ ∧ w.cell? ⟨b, o + k, none⟩ = some (.int .u32 (zs.getD k 0)) := by
  rcases h with h | ⟨b, o, h1, h2⟩
  · rw [h] at hk; simp at hk
  · exact ⟨b, o, h1, h2 k hk⟩

set_option maxRecDepth 100000 in
theorem compare_any (w : World) (ao bo : Option Addr) (n m capa capb : Nat) (xs ys : List Int) (hx : Sl w ao n capa xs) (hy : Sl w bo m capb ys) (lx : Lim xs) (ly : Lim ys) (tx : Top xs) (ty : Top ys) :
    Calls Try.prog 84 #[.slice ao n capa, .slice bo m capb] w (RetQ w (.int .i64 (cmpI (val xs) (val ys)))) := by
  have HEX : Hid (xs.length = n) := hx.len
  have HEY : Hid (ys.length = m) := hy.len
  have HCX := Lib.hid hx.cells
  have HCY := Lib.hid hy.cells
  have hmost := hx.most
  have hle := hx.le
  have HB' : Hid (capb ≤ 9223372036854775807 ∧ m ≤ capb) := ⟨by have := hy.most; unfold maxLen at this; omega, hy.le⟩
  unfold maxLen at hmost
  clear hx hy
  by_cases hnm : n = m
  · subst hnm
    go_enter Try.func84, Try.ntmps84
    go_wp2
    go_loopw [5] (fun i wr => ∃ p : Int, -1 ≤ p ∧ p < n ∧ i = .int .i64 p ∧ val (xs.drop (p + 1).toNat) = val (ys.drop (p + 1).toNat) ∧ ∃ q, wr = w.drewN q) (fun i _ => (intOf i + 1).toNat)
    case atStart => exact ⟨(n : Int) - 1, by omega, by omega, rfl, by rw [List.drop_of_length_le (by have := HEX.out; omega), List.drop_of_length_le (by have := HEY.out; omega)], 0, rfl⟩
    case round =>
      obtain ⟨p, hp0, hp1, rfl, hd, q, rfl⟩ := hrel
      have HD := Lib.hid hd
      clear hd
      by_cases hp : p < 0
      · obtain rfl : p = -1 := by omega
        go_wp2
        go_ret
        refine ⟨?_, q, rfl⟩
        have := HD.out
        simp at this
        rw [cmpI_eq this]
        rfl
      · obtain ⟨j, rfl⟩ := Int.eq_ofNat_of_zero_le (show 0 ≤ p by omega)
        obtain ⟨ba, oa, rfl, hca⟩ := HCX.out.at (k := j) (by rw [HEX.out]; omega)
        obtain ⟨bb, ob, rfl, hcb⟩ := HCY.out.at (k := j) (by rw [HEY.out]; omega)
        obtain ⟨a, ha⟩ : ∃ a, xs.getD j 0 = a := ⟨_, rfl⟩
        obtain ⟨b, hb⟩ : ∃ b, ys.getD j 0 = b := ⟨_, rfl⟩
        rw [ha] at hca
        rw [hb] at hcb
        have HA := Lib.hid ha
        have HB := Lib.hid hb
        clear ha hb
        have hj0 : (0 : Int) ≤ j := by omega
        have hjx : j < xs.length := by rw [HEX.out]; omega
        have hjy : j < ys.length := by rw [HEY.out]; omega
        have HJX := Lib.hid hjx
        have HJY := Lib.hid hjy
        clear hjx hjy
        have hd : val (xs.drop (j + 1)) = val (ys.drop (j + 1)) := by have := HD.out; rwa [show ((j : Int) + 1).toNat = j + 1 by omega] at this
        have HD' := Lib.hid hd
        clear hd
        by_cases hab : a = b
        · subst hab
          have heq : (a != a) = false := by simp
          go_wp2
          go_quiet (fail)
          go_wp2
          go_roundw
          case rel =>
            refine ⟨(j : Int) - 1, by omega, by omega, rfl, ?_, _, rfl⟩
            rw [show ((j : Int) - 1 + 1).toNat = j by omega, drop_getD HJX.out, drop_getD HJY.out, HA.out, HB.out]
            simp only [val, HD'.out]
          case measure => simp [intOf]
        · have hne : (a != b) = true := by simpa using hab
          by_cases hlt : a < b
          · have hlt' : decide (a < b) = true := by simpa using hlt
            go_wp2
            go_quiet (fail)
            go_wp2
            go_quiet (fail)
            go_wp2
            go_ret
            have hc := cmpI_lt (val_cmp lx ly (by rw [HEX.out, HEY.out]) HJX.out HD'.out (by rw [HA.out, HB.out]; exact hlt))
            exact ⟨by rw [hc]; rfl, _, by rw [World.drewN_drewN, World.drewN_drewN]⟩
          · have hlt' : decide (a < b) = false := by simpa using hlt
            go_wp2
            go_quiet (fail)
            go_wp2
            go_quiet (fail)
            go_wp2
            go_ret
            have hc := cmpI_gt (val_cmp ly lx (by rw [HEX.out, HEY.out]) HJY.out HD'.out.symm (by rw [HA.out, HB.out]; omega))
            exact ⟨by rw [hc]; rfl, _, by rw [World.drewN_drewN, World.drewN_drewN]⟩
  · have hmost' : capb ≤ 9223372036854775807 ∧ m ≤ capb := HB'.out
    have hne : ((n : Int) != (m : Int)) = true := by simp; omega
    by_cases hlt : n < m
    · have hc := cmpI_lt (val_lt_of_len lx ly ty (by rw [HEX.out, HEY.out]; exact hlt))
      have HC := Lib.hid hc
      clear hc
      go_enter Try.func84, Try.ntmps84
      go_wp2
      go_ret
      exact ⟨by rw [HC.out]; rfl, 0, rfl⟩
    · have hc := cmpI_gt (val_lt_of_len ly lx tx (by rw [HEX.out, HEY.out]; omega))
      have HC := Lib.hid hc
      clear hc
      go_enter Try.func84, Try.ntmps84
      go_wp2
      go_ret
      exact ⟨by rw [HC.out]; rfl, 0, rfl⟩

set_option maxRecDepth 100000 in
theorem product_any (w : World) (ao bo : Option Addr) (n m capa capb : Nat) (xs ys : List Int) (hx : Sl w ao n capa xs) (hy : Sl w bo m capb ys) (lx : Lim xs) (ly : Lim ys) (hn : n ≤ 34359738368) (hm : m ≤ 34359738368) :
    Calls Try.prog 91 #[.slice ao n capa, .slice bo m capb] w (RetNat w (val xs * val ys) (n + m)) := by
  have HEX : Hid (xs.length = n) := hx.len
  have HEY : Hid (ys.length = m) := hy.len
  have HCX := Lib.hid hx.cells
  have HCY := Lib.hid hy.cells
  obtain ⟨i0, hi, hz0, hz1, hz2⟩ := info_parts info_u32
  clear hx hy
  go_enter Try.func91, Try.ntmps91
  go_wp2_with (at_make; refine wpList_make_full _ rfl _ _ 22 rfl w.heap.size 99 i0 (.int .u32 0) 1 Try.underlying22 hi hz0 hz1 _ _ _ _ (n + m) rfl rfl (by omega) (by omega) (by rw [hz2]; omega) (by unfold maxLen; omega) (Nat.le_refl _) ?_)
  intro w1 hown hgrow
  have hb1 : Below w.heap.size w w1 := (Below.refl _ _).grown hgrow (Nat.le_refl _) (by intro k hk; cases hk)
  have hm1 := made_mine (n := n + m) (by simpa using hown)
  clear hown hgrow
  go_wp2_with fail
  go_loopw [20] (fun i wr => ∃ (k : Nat) (zs : List Int), k ≤ n ∧ i = .int .i64 k ∧ zs.length = n + m ∧ Lim zs ∧ (∀ j, k + m ≤ j → zs.getD j 0 = 0) ∧
      val zs = val (xs.take k) * val ys ∧ Mine w.heap.size wr w.heap.size zs ∧ Below w.heap.size w wr)
    (fun i _ => n - (intOf i).toNat)
  case atStart => exact ⟨0, _, Nat.zero_le _, rfl, List.length_replicate, Lim_replicate _, fun j _ => by simp [List.getD, List.getElem?_replicate]; split <;> rfl, by simp [val_replicate, val], hm1, hb1⟩
  case round =>
    obtain ⟨i, zs, hk, rfl, hzl, hlim, hzero, hval, hmine, hbel⟩ := hrel
    have HZ := Lib.hid hzero
    have HV := Lib.hid hval
    have HL := Lib.hid hzl
    have HM := Lib.hid hmine
    clear hzero hval hzl hmine hm1 hb1
    by_cases hin : i < n
    · obtain ⟨x, hx⟩ : ∃ x, xs.getD i 0 = x := ⟨_, rfl⟩
      have hlx := Lim_getD lx i
      obtain ⟨ba, oa, rfl, hca⟩ := (HCX.out.below hbel).at (k := i) (by rw [HEX.out]; exact hin)
      rw [hx] at hlx hca
      obtain ⟨hx0, hx1⟩ := hlx
      have HX := Lib.hid hx
      clear hx
      by_cases hxz : x = 0
      · subst hxz
        go_wp2_with fail
        go_roundw
        case rel =>
          exact ⟨i + 1, zs, by omega, by go_num, HL.out, hlim, fun j hj => HZ.out j (by omega), by rw [HV.out, val_take_succ, HX.out]; simp, HM.out, hbel⟩
        case measure => simp [intOf]; omega
      · have hxb : (x == 0) = false := by simpa using hxz
        go_wp2_with fail
        obtain ⟨wo, rfl⟩ : ∃ wo : World, wo = wr := ⟨_, rfl⟩
        go_loopw [8, 29] (fun c kk wi => ∃ (k : Nat) (cy : Int) (rs : List Int), k ≤ m ∧ kk = .int .i64 k ∧ c = .int .u64 cy ∧ 0 ≤ cy ∧ cy ≤ 4294967295 ∧ rs.length = n + m ∧ Lim rs ∧ (∀ j, i + m ≤ j → rs.getD j 0 = 0) ∧
            val rs + 4294967296 ^ (i + k) * cy = val (xs.take i) * val ys + 4294967296 ^ i * (x * val (ys.take k)) ∧ Mine w.heap.size wi w.heap.size rs ∧ Below w.heap.size w wi)
          (fun _ kk _ => m - (intOf kk).toNat)
        case atStart => exact ⟨0, 0, zs, Nat.zero_le _, rfl, rfl, by omega, by omega, HL.out, hlim, HZ.out, by rw [HV.out]; simp [val], HM.out, hbel⟩
        case round =>
          obtain ⟨k, cy, rs, hkm, rfl, rfl, hc0, hc1, hrl, hrlim, hrzero, hrval, hrmine, hrbel⟩ := hrel
          have HRZ := Lib.hid hrzero
          have HRV := Lib.hid hrval
          have HRL := Lib.hid hrl
          have HRM := Lib.hid hrmine
          clear hrzero hrval hrl hrmine
          by_cases hkm' : k < m
          · obtain ⟨y, hy⟩ : ∃ y, ys.getD k 0 = y := ⟨_, rfl⟩
            obtain ⟨r, hr⟩ : ∃ r, rs.getD (i + k) 0 = r := ⟨_, rfl⟩
            have hly := Lim_getD ly k
            have hlr := Lim_getD hrlim (i + k)
            obtain ⟨bb, ob, rfl, hcb⟩ := (HCY.out.below hrbel).at (k := k) (by rw [HEY.out]; exact hkm')
            obtain ⟨hcell, hfrz⟩ := HRM.out.cell (i + k) (by rw [HRL.out]; omega)
            rw [hy] at hly hcb
            rw [hr] at hlr hcell
            obtain ⟨hy0, hy1⟩ := hly
            obtain ⟨hr0, hr1⟩ := hlr
            obtain ⟨p0, p1, p2, p3, p4, p5⟩ := prod_bound hx0 hx1 hy0 hy1 hr0 hr1 hc0 hc1
            have HY := Lib.hid hy
            have HR := Lib.hid hr
            clear hy hr
            go_wp2_with fail
            go_roundw
            case rel =>
              have hrl := HRL.out
              have hstep := prod_step (r := rs) (i := i) (k := k) (S := val (xs.take i) * val ys) (x := x) (c := cy) (b := ys) (by omega) HRV.out
              rw [HY.out, HR.out] at hstep
              exact ⟨k + 1, _, _, by omega, by go_num, rfl, p4, p5, by rw [List.length_set]; exact hrl, Lim_set hrlim _ (by omega) (by omega),
                fun j hj => by rw [getD_set_ne (by omega)]; exact HRZ.out j hj, hstep, HRM.out.set _ _, hrbel.setCell (Nat.le_refl _) _⟩
            case measure => simp [intOf]; omega
          · obtain rfl : k = m := by omega
            obtain ⟨hcell, hfrz⟩ := HRM.out.cell (i + k) (by rw [HRL.out]; omega)
            go_wp2_with fail
            go_roundw
            case rel =>
              have hrl := HRL.out
              have hend := prod_end (r := rs) (i := i) (m := k) (c := cy) (x := x) (a := xs) (b := ys) HEY.out (by omega) (HRZ.out _ (Nat.le_refl _)) HRV.out HX.out.symm
              exact ⟨i + 1, _, by omega, by go_num, by rw [List.length_set]; exact hrl, Lim_set hrlim _ hc0 hc1,
                fun j hj => by rw [getD_set_ne (by omega)]; exact HRZ.out j (by omega), hend, HRM.out.set _ _, hrbel.setCell (Nat.le_refl _) _⟩
            case measure => simp [intOf]; omega
    · obtain rfl : i = n := by omega
      go_wp2_with fail
      have hzl := HL.out
      have hm3 := HM.out
      have hv3 : val zs = val xs * val ys := by
        have hv := HV.out
        have e1 := HEX.out
        rwa [List.take_of_length_le (by omega)] at hv
      unfold Mine at hm3
      rw [hzl] at hm3
      have hfin := trim_own w _ _ _ _ _ hm3 hlim hbel hv3
      refine hfin.mono ?_
      rintro e w4 ⟨ao4, n4, cap4, zs4, rfl, hres⟩
      have HRES := Lib.hid hres
      clear hres
      go_wp2
      go_ret
      exact ⟨_, _, _, zs4, rfl, HRES.out⟩
end Go.Proofs.Ytpakfknacmcohaa
