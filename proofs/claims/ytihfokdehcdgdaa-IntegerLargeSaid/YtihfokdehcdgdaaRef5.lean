/- The reference's compare. -/
import Derived.Test.YtihfokdehcdgdaaRef4
namespace Go.Proofs.Ytihfokdehcdgdaa
open Go.RowKit
set_option autoImplicit false
set_option linter.unusedVariables false

theorem dval_split (r : Int) (a : List Int) (i : Nat) : dval r a = dval r (a.take i) + r ^ (a.take i).length * dval r (a.drop i) := by
  rw [← dval_append, List.take_append_drop]

theorem dval_lt {r : Int} (hr : 2 ≤ r) {ds : List Int} (h : Dig r ds) : dval r ds < r ^ ds.length := by
  induction ds with
  | nil => simp [dval]
  | cons z zs ih =>
    have h1 := h z (by simp)
    have h2 := ih (fun d hd => h d (by simp [hd]))
    simp only [dval, List.length_cons, Int.pow_succ]
    have h3 : r * (dval r zs + 1) ≤ r * r ^ zs.length := Int.mul_le_mul_of_nonneg_left (by omega) (by omega)
    rw [Int.mul_add] at h3
    rw [Int.mul_comm (r ^ zs.length) r]
    omega

theorem Dig_drop {r : Int} {a : List Int} (h : Dig r a) (n : Nat) : Dig r (a.drop n) := fun z hz => h z (List.mem_of_mem_drop hz)

theorem dval_cmp {r : Int} (hr : 2 ≤ r) {a b : List Int} (la : Dig r a) (lb : Dig r b) (hl : a.length = b.length) {i : Nat} (hi : i < a.length) (hd : dval r (a.drop (i + 1)) = dval r (b.drop (i + 1))) (h : a.getD i 0 < b.getD i 0) : dval r a < dval r b := by
  rw [dval_split r a i, dval_split r b i, drop_getD hi, drop_getD (by omega : i < b.length)]
  simp only [dval, hd, List.length_take, Nat.min_eq_left (by omega : i ≤ a.length), Nat.min_eq_left (by omega : i ≤ b.length)]
  have h1 := dval_lt hr (Dig_take la i)
  have h2 := dval_nonneg (by omega) (Dig_take lb i)
  rw [List.length_take, Nat.min_eq_left (by omega)] at h1
  have h3 : r ^ i * (a.getD i 0 + r * dval r (b.drop (i + 1)) + 1) ≤ r ^ i * (b.getD i 0 + r * dval r (b.drop (i + 1))) :=
    Int.mul_le_mul_of_nonneg_left (by omega) (by have := rpow_pos hr i; omega)
  rw [Int.mul_add _ _ 1] at h3
  omega

theorem dval_pos_of_top {r : Int} (hr : 2 ≤ r) {ds : List Int} (h : Dig r ds) (ht : Top ds) (hne : ds ≠ []) : r ^ (ds.length - 1) ≤ dval r ds := by
  have hl : 0 < ds.length := by
    rcases ds with _ | ⟨d, ds⟩
    · exact absurd rfl hne
    · simp
  rcases ht with h0 | h0
  · exact absurd h0 hne
  · rw [dval_split r ds (ds.length - 1), drop_getD (by omega)]
    have h1 := Dig_getD (by omega : 0 < r) h (ds.length - 1)
    have h2 := dval_nonneg (by omega) (Dig_take h (ds.length - 1))
    rw [show ds.length - 1 + 1 = ds.length by omega, List.drop_of_length_le (Nat.le_refl _), List.length_take, Nat.min_eq_left (by omega)]
    simp only [dval]
    have h3 : r ^ (ds.length - 1) * 1 ≤ r ^ (ds.length - 1) * (ds.getD (ds.length - 1) 0 + r * 0) := Int.mul_le_mul_of_nonneg_left (by omega) (by have := rpow_pos hr (ds.length - 1); omega)
    omega

theorem rpow_le {r : Int} (hr : 2 ≤ r) {a b : Nat} (h : a ≤ b) : r ^ a ≤ r ^ b := by
  obtain ⟨k, rfl⟩ : ∃ k, b = a + k := ⟨b - a, by omega⟩
  rw [Int.pow_add]
  have h1 := rpow_pos hr a
  have h2 := rpow_pos hr k
  have h3 : r ^ a * 1 ≤ r ^ a * r ^ k := Int.mul_le_mul_of_nonneg_left (by omega) (by omega)
  omega

theorem dval_lt_of_len {r : Int} (hr : 2 ≤ r) {a b : List Int} (la : Dig r a) (lb : Dig r b) (tb : Top b) (h : a.length < b.length) : dval r a < dval r b := by
  have h1 := dval_lt hr la
  have h2 := dval_pos_of_top hr lb tb (by intro hb; subst hb; simp at h)
  have h3 := rpow_le hr (show a.length ≤ b.length - 1 by omega)
  omega

set_option maxRecDepth 100000 in
theorem rcompare_any (w : World) (ao bo : Option Addr) (n m capa capb : Nat) (xs ys : List Int) (hx : SlI w ao n capa xs) (hy : SlI w bo m capb ys) (lx : Dig 65536 xs) (ly : Dig 65536 ys) (tx : Top xs) (ty : Top ys) :
    Calls Try.prog 89 #[.slice ao n capa, .slice bo m capb] w (RetQ w (.int .i64 (cmpI (dval 65536 xs) (dval 65536 ys)))) := by
  have HEX : Hid (xs.length = n) := hx.len
  have HEY : Hid (ys.length = m) := hy.len
  have HCX := Lib.hid hx.cells
  have HCY := Lib.hid hy.cells
  have hmost := hx.most
  have hle := hx.le
  have HB' : Hid (capb ≤ 9223372036854775807 ∧ m ≤ capb) := ⟨by have := hy.most; unfold maxLen at this; omega, hy.le⟩
  unfold maxLen at hmost
  clear hx hy
  by_cases hnm : n = m
  · subst hnm
    go_enter Try.func89, Try.ntmps89
    go_wp2
    go_loopw [5] (fun i wr => ∃ p : Int, -1 ≤ p ∧ p < n ∧ i = .int .i64 p ∧ dval 65536 (xs.drop (p + 1).toNat) = dval 65536 (ys.drop (p + 1).toNat) ∧ ∃ q, wr = w.drewN q) (fun i _ => (intOf i + 1).toNat)
    case atStart => exact ⟨(n : Int) - 1, by omega, by omega, rfl, by rw [List.drop_of_length_le (by have := HEX.out; omega), List.drop_of_length_le (by have := HEY.out; omega)], 0, rfl⟩
    case round =>
      obtain ⟨p, hp0, hp1, rfl, hd, q, rfl⟩ := hrel
      have HD := Lib.hid hd
      clear hd
      by_cases hp : p < 0
      · obtain rfl : p = -1 := by omega
        go_wp2
        go_ret
        refine ⟨?_, q, rfl⟩
        have := HD.out
        simp at this
        rw [cmpI_eq this]
        rfl
      · obtain ⟨j, rfl⟩ := Int.eq_ofNat_of_zero_le (show 0 ≤ p by omega)
        obtain ⟨ba, oa, rfl, hca⟩ := HCX.out.at (k := j) (by rw [HEX.out]; omega)
        obtain ⟨bb, ob, rfl, hcb⟩ := HCY.out.at (k := j) (by rw [HEY.out]; omega)
        obtain ⟨a, ha⟩ : ∃ a, xs.getD j 0 = a := ⟨_, rfl⟩
        obtain ⟨b, hb⟩ : ∃ b, ys.getD j 0 = b := ⟨_, rfl⟩
        rw [ha] at hca
        rw [hb] at hcb
        have HA := Lib.hid ha
        have HB := Lib.hid hb
        clear ha hb
        have hj0 : (0 : Int) ≤ j := by omega
        have hjx : j < xs.length := by rw [HEX.out]; omega
        have hjy : j < ys.length := by rw [HEY.out]; omega
        have HJX := Lib.hid hjx
        have HJY := Lib.hid hjy
        clear hjx hjy
        have hd : dval 65536 (xs.drop (j + 1)) = dval 65536 (ys.drop (j + 1)) := by have := HD.out; rwa [show ((j : Int) + 1).toNat = j + 1 by omega] at this
        have HD' := Lib.hid hd
        clear hd
        by_cases hlt : a < b
        · have hlt' : decide (a < b) = true := by simpa using hlt
          go_wp2
          go_quiet (fail)
          go_wp2
          go_ret
          have hc := cmpI_lt (dval_cmp (by omega) lx ly (by rw [HEX.out, HEY.out]) HJX.out HD'.out (by rw [HA.out, HB.out]; exact hlt))
          exact ⟨by rw [hc]; rfl, _, by first | rfl | rw [World.drewN_drewN]⟩
        · have hlt' : decide (a < b) = false := by simpa using hlt
          by_cases hgt : b < a
          · have hgt' : decide (b < a) = true := by simpa using hgt
            go_wp2
            go_quiet (fail)
            go_wp2
            go_quiet (fail)
            go_wp2
            go_ret
            have hc := cmpI_gt (dval_cmp (by omega) ly lx (by rw [HEX.out, HEY.out]) HJY.out HD'.out.symm (by rw [HA.out, HB.out]; omega))
            exact ⟨by rw [hc]; rfl, _, by first | rfl | rw [World.drewN_drewN, World.drewN_drewN]⟩
          · have hgt' : decide (b < a) = false := by simpa using hgt
            obtain rfl : a = b := by omega
            go_wp2
            go_quiet (fail)
            go_wp2
            go_quiet (fail)
            go_wp2
            go_roundw
            case rel =>
              refine ⟨(j : Int) - 1, by omega, by omega, rfl, ?_, _, by first | rfl | rw [World.drewN_drewN, World.drewN_drewN]⟩
              rw [show ((j : Int) - 1 + 1).toNat = j by omega, drop_getD HJX.out, drop_getD HJY.out, HA.out, HB.out]
              simp only [dval, HD'.out]
            case measure => simp [intOf]
  · have hmost' : capb ≤ 9223372036854775807 ∧ m ≤ capb := HB'.out
    have hne : ((n : Int) != (m : Int)) = true := by simp; omega
    by_cases hlt : n < m
    · have hc := cmpI_lt (dval_lt_of_len (r := 65536) (by omega) lx ly ty (by rw [HEX.out, HEY.out]; exact hlt))
      have HC := Lib.hid hc
      clear hc
      go_enter Try.func89, Try.ntmps89
      go_wp2
      go_ret
      exact ⟨by rw [HC.out]; rfl, 0, rfl⟩
    · have hc := cmpI_gt (dval_lt_of_len (r := 65536) (by omega) ly lx tx (by rw [HEX.out, HEY.out]; omega))
      have HC := Lib.hid hc
      clear hc
      go_enter Try.func89, Try.ntmps89
      go_wp2
      go_ret
      exact ⟨by rw [HC.out]; rfl, 0, rfl⟩
end Go.Proofs.Ytihfokdehcdgdaa
