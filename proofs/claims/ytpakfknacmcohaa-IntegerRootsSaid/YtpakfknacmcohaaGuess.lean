/- Long division: the guess of a digit. -/
import Derived.Test.YtpakfknacmcohaaLong1
namespace Go.Proofs.Ytpakfknacmcohaa
open Go.RowKit
set_option autoImplicit false
set_option linter.unusedVariables false

theorem lt_of_mul {P a b : Int} (hP : 0 < P) (h : P * a < P * b) : a < b := Int.lt_of_mul_lt_mul_left h (Int.le_of_lt hP)
theorem q_top {q V U P W T : Int} (hq : q * V ≤ U) (hq0 : 0 ≤ q) (hP : 0 < P) (hV : P * W ≤ V) (hU : U < P * (T + 1)) : q * W ≤ T := by
  have h1 : q * (P * W) ≤ q * V := Int.mul_le_mul_of_nonneg_left hV hq0
  have h2 : P * (q * W) < P * (T + 1) := by
    have : P * (q * W) = q * (P * W) := by grind
    omega
  have := lt_of_mul hP h2
  omega
theorem q_lt {q d W T : Int} (h : q * W ≤ T) (hd : T < d * W) (hW : 0 < W) : q < d := by
  have : W * q < W * d := by rw [Int.mul_comm W q, Int.mul_comm W d]; omega
  exact lt_of_mul hW this
theorem d_low {d V U P W T : Int} (hd : d * W ≤ T) (h1 : 1 ≤ d) (hdW : d ≤ W) (hP : 0 < P) (hV : V ≤ P * (W + 1)) (hU : P * T ≤ U) : (d - 1) * V ≤ U := by
  have e1 : (d - 1) * V ≤ (d - 1) * (P * (W + 1)) := Int.mul_le_mul_of_nonneg_left hV (by omega)
  have e2 : (d - 1) * (P * (W + 1)) = P * ((d - 1) * (W + 1)) := by grind
  have e3 : (d - 1) * (W + 1) ≤ T := by
    have : (d - 1) * (W + 1) = d * W + d - W - 1 := by grind
    omega
  have e4 : P * ((d - 1) * (W + 1)) ≤ P * T := Int.mul_le_mul_of_nonneg_left e3 (Int.le_of_lt hP)
  omega
/-- A digit that the two top limbs of the divisor allow is the right one, or 1 more. -/
theorem d_ok {d V U P W T : Int} (hV0 : 0 < V) (hd : d * W ≤ T) (h0 : 0 ≤ d) (hdW : d ≤ W) (hP : 0 < P) (hV : V ≤ P * (W + 1)) (hU : P * T ≤ U) (hU0 : 0 ≤ U) : d ≤ U / V + 1 := by
  by_cases h1 : 1 ≤ d
  · have h := d_low hd h1 hdW hP hV hU
    have := (Int.le_ediv_iff_mul_le hV0).2 h
    omega
  · have := Int.ediv_nonneg hU0 (Int.le_of_lt hV0)
    omega

/-- two limbs at the top of a number -/
theorem two_top {ds : List Int} {k : Nat} (hl : ds.length = k + 2) : val ds = val (ds.take k) + 4294967296 ^ k * (ds.getD (k + 1) 0 * 4294967296 + ds.getD k 0) := by
  have h1 := val_take_succ ds (k + 1)
  have h2 := val_take_succ ds k
  rw [List.take_of_length_le (by omega)] at h1
  rw [h1, h2, Int.pow_succ]
  grind
theorem three_top {ps : List Int} {k : Nat} (hl : ps.length = k + 3) : val ps = val (ps.take k) + 4294967296 ^ k * ((ps.getD (k + 2) 0 * 4294967296 + ps.getD (k + 1) 0) * 4294967296 + ps.getD k 0) := by
  have h1 := val_take_succ ps (k + 2)
  have h2 := val_take_succ ps (k + 1)
  have h3 := val_take_succ ps k
  rw [List.take_of_length_le (by omega)] at h1
  rw [h1, h2, h3, Int.pow_succ, Int.pow_succ]
  grind

/-- A digit that is at least q, and that two limbs allow. -/
def RetGuess (w : World) (q W T : Int) (e : Ending) (w' : World) : Prop := ∃ d m, e = .returned (.int .u32 d) ∧ w' = w.drewN m ∧ 0 ≤ d ∧ d ≤ 4294967295 ∧ q ≤ d ∧ d * W ≤ T

set_option maxRecDepth 100000 in
set_option maxHeartbeats 1000000 in
theorem guess_walk (w : World) (ga ia k pc : Nat) (gb ib dc : Nat) (ps ds : List Int) (f s p2 p1 p0 q : Int)
    (hp : Sl w (some ⟨ga, ia, none⟩) (k + 3) pc ps) (hd : Sl w (some ⟨gb, ib, none⟩) (k + 2) dc ds) (hk : k ≤ 4294967296)
    (hf : ds.getD (k + 1) 0 = f) (hs : ds.getD k 0 = s) (h2 : ps.getD (k + 2) 0 = p2) (h1 : ps.getD (k + 1) 0 = p1) (h0 : ps.getD k 0 = p0)
    (bf : 2147483648 ≤ f ∧ f ≤ 4294967295) (bs : 0 ≤ s ∧ s ≤ 4294967295) (b2 : 0 ≤ p2 ∧ p2 ≤ f) (b1 : 0 ≤ p1 ∧ p1 ≤ 4294967295) (b0 : 0 ≤ p0 ∧ p0 ≤ 4294967295)
    (hq0 : 0 ≤ q) (hq1 : q ≤ 4294967295) (hqT : q * (f * 4294967296 + s) ≤ (p2 * 4294967296 + p1) * 4294967296 + p0) (hqt : q * f ≤ p2 * 4294967296 + p1) :
    Calls Try.prog 134 #[.slice (some ⟨ga, ia, none⟩) (k + 3) pc, .slice (some ⟨gb, ib, none⟩) (k + 2) dc] w (RetGuess w q (f * 4294967296 + s) ((p2 * 4294967296 + p1) * 4294967296 + p0)) := by
  obtain ⟨b0', o0', hb0', c0⟩ := hp.cells.at (k := k) (by rw [hp.len]; omega)
  obtain ⟨b1', o1', hb1', c1⟩ := hp.cells.at (k := k + 1) (by rw [hp.len]; omega)
  obtain ⟨b2', o2', hb2', c2⟩ := hp.cells.at (k := k + 2) (by rw [hp.len]; omega)
  obtain ⟨b3', o3', hb3', e0⟩ := hd.cells.at (k := k) (by rw [hd.len]; omega)
  obtain ⟨b4', o4', hb4', e1⟩ := hd.cells.at (k := k + 1) (by rw [hd.len]; omega)
  simp at hb0' hb1' hb2' hb3' hb4'
  obtain ⟨rfl, rfl⟩ := hb0'
  obtain ⟨rfl, rfl⟩ := hb1'
  obtain ⟨rfl, rfl⟩ := hb2'
  obtain ⟨rfl, rfl⟩ := hb3'
  obtain ⟨rfl, rfl⟩ := hb4'
  rw [h0] at c0
  rw [h1] at c1
  rw [h2] at c2
  rw [hs] at e0
  rw [hf] at e1
  have hpl := hp.le
  have hdl := hd.le
  have hpm : pc ≤ 9223372036854775807 := by have := hp.most; unfold maxLen at this; omega
  have hdm : dc ≤ 9223372036854775807 := by have := hd.most; unfold maxLen at this; omega
  clear hp hd h0 h1 h2 hs hf
  obtain ⟨f0, f1⟩ := bf
  obtain ⟨s0, s1⟩ := bs
  obtain ⟨g20, g21⟩ := b2
  obtain ⟨g10, g11⟩ := b1
  obtain ⟨g00, g01⟩ := b0
  have HQT := Lib.hid hqT
  have HQt := Lib.hid hqt
  have i1 : ((k + 2 : Nat) : Int) - 1 = ((k + 1 : Nat) : Int) := by omega
  have i2 : ((k + 2 : Nat) : Int) - 2 = (k : Int) := by omega
  have w1 : IntKind.i64.wrap (((k + 2 : Nat) : Int) - 1) = ((k + 1 : Nat) : Int) := by rw [IntKind.wrap_i64]; omega
  have w2 : IntKind.i64.wrap (((k + 2 : Nat) : Int) - 2) = (k : Int) := by rw [IntKind.wrap_i64]; omega
  clear hqT hqt
  go_enter Try.func134, Try.ntmps134
  go_wp2_with fail
  go_quiet (fail)
  go_wp2_with fail
  obtain ⟨top, htop⟩ : ∃ top, p2 * 4294967296 + p1 = top := ⟨_, rfl⟩
  have hor : bits BinOp.or IntKind.u64 (p2 * 4294967296) p1 = top := by rw [or_low p2 p1 g20 (by omega) g10 g11, htop]
  have ht0 : 0 ≤ top := by omega
  have ht1 : top ≤ 18446744073709551615 := by omega
  have htf : top ≤ f * 4294967296 + 4294967295 := by
    have : p2 * 4294967296 ≤ f * 4294967296 := Int.mul_le_mul_of_nonneg_right g21 (by omega)
    omega
  have HTOP := Lib.hid htop
  have hw3 : IntKind.u64.wrap (p2 * 4294967296) = p2 * 4294967296 := by rw [IntKind.wrap_u64]; omega
  clear htop
  go_quiet (fail)
  go_wp2_with fail
  have hfn : ¬ f = 0 := by omega
  obtain ⟨D, hD⟩ : ∃ D, top / f = D := ⟨_, rfl⟩
  obtain ⟨R, hR⟩ : ∃ R, top % f = R := ⟨_, rfl⟩
  have hD2 : top.tdiv f = D := by rw [Int.tdiv_eq_ediv_of_nonneg ht0, hD]
  have hR2 : top.tmod f = R := by rw [Int.tmod_eq_emod_of_nonneg ht0, hR]
  have hm := Int.emod_add_mul_ediv top f
  rw [hD, hR] at hm
  have hR0 : 0 ≤ R := by rw [← hR]; exact Int.emod_nonneg _ hfn
  have hR1 : R < f := by rw [← hR]; exact Int.emod_lt_of_pos _ (by omega)
  have hD0 : 0 ≤ D := by rw [← hD]; exact Int.ediv_nonneg ht0 (by omega)
  have hqD : q ≤ D := by rw [← hD]; exact (Int.le_ediv_iff_mul_le (by omega)).2 (by rw [← HTOP.out]; exact HQt.out)
  have hD1 : D ≤ 4294967297 := by
    have h1 : f * D ≤ f * 4294967298 - 1 := by omega
    have h2 : f * D < f * 4294967298 := by omega
    have := lt_of_mul (show 0 < f by omega) h2
    omega
  have HDR : Hid (D * f + R = top) := Lib.hid (by rw [Int.mul_comm]; omega)
  clear hm hD hR
  go_quiet (fail)
  go_wp2_with fail
  go_loopw [9, 10] (fun dd rr wr => ∃ d r : Int, dd = .int .u64 d ∧ rr = .int .u64 r ∧ d * f + r = top ∧ 0 ≤ r ∧ r ≤ 4294967295 ∧ 0 ≤ d ∧ d ≤ 4294967297 ∧ q ≤ d ∧ ∃ m, wr = w.drewN m) (fun dd _ _ => (intOf dd).toNat)
  case atStart => exact ⟨D, R, rfl, rfl, HDR.out, hR0, by omega, hD0, hD1, hqD, _, by first | rfl | rw [World.drewN_drewN, World.drewN_drewN] | rw [World.drewN_drewN]⟩
  case round =>
    obtain ⟨d, r, rfl, rfl, heq, r0, r1, d0, d1, hqd, m, rfl⟩ := hrel
    have HEQ := Lib.hid heq
    clear heq hD2 hR2 hR0 hR1 hD0 hqD hD1 HDR
    have hdf : f * d = top - r := by have := HEQ.out; rw [Int.mul_comm]; omega
    have HDF := Lib.hid hdf
    clear hdf
    -- what a step down asks and leaves
    have HDOWN : Hid (q ≤ d - 1 → 1 ≤ d ∧ (d - 1) * f + (r + f) = top ∧ (4294967296 ≤ r + f → d - 1 ≤ 4294967295 ∧ (d - 1) * (f * 4294967296 + s) ≤ (p2 * 4294967296 + p1) * 4294967296 + p0)) := Lib.hid (by
      intro hq
      have h1 : 1 ≤ d := by omega
      refine ⟨h1, by have := HEQ.out; rw [Int.sub_mul]; omega, fun hb => ?_⟩
      have hdl : d < 4294967297 := by
        have h2 : f * d < f * 4294967297 := by have := HDF.out; omega
        exact lt_of_mul (show 0 < f by omega) h2
      refine ⟨by omega, ?_⟩
      have h3 : (d - 1) * s ≤ 4294967296 * 4294967295 := Int.mul_le_mul (by omega) s1 s0 (by omega)
      have h4 : (d - 1) * (f * 4294967296 + s) = (top - (r + f)) * 4294967296 + (d - 1) * s := by
        have := HDF.out
        have e : (d - 1) * f = top - (r + f) := by rw [Int.sub_mul, Int.mul_comm d f]; omega
        rw [Int.mul_add, ← Int.mul_assoc, e]
      rw [HTOP.out, h4]
      omega)
    have hcast : ∀ v : Int, 0 ≤ v → v ≤ 4294967295 → v % 4294967296 = v := fun v h1 h2 => Int.emod_eq_of_lt h1 (by omega)
    have HCAST := Lib.hid hcast
    clear hcast
    by_cases hbig : 4294967296 ≤ d
    · obtain ⟨k1, k2, k3⟩ := HDOWN.out (by omega)
      have HK2 := Lib.hid k2
      have HK3 := Lib.hid k3
      clear k2 k3 HDOWN
      by_cases hbr : 4294967296 ≤ r + f
      · go_wp2_with fail
        go_ret
        obtain ⟨h1, h2⟩ := HK3.out hbr
        exact ⟨d - 1, m, by first | rfl | exact ret_int (HCAST.out _ (by omega) h1), rfl, by omega, h1, by omega, h2⟩
      · go_wp2_with fail
        go_roundw
        case rel => exact ⟨d - 1, r + f, rfl, rfl, HK2.out, by omega, by omega, by omega, by omega, by omega, m, rfl⟩
        case measure => simp [intOf]; omega
    · obtain ⟨P, hP⟩ : ∃ P, d * s = P := ⟨_, rfl⟩
      have hP0 : 0 ≤ P := by rw [← hP]; exact Int.mul_nonneg d0 s0
      have hP1 : P ≤ 4294967295 * 4294967295 := by rw [← hP]; exact Int.mul_le_mul (by omega) s1 s0 (by omega)
      obtain ⟨E, hE⟩ : ∃ E, r * 4294967296 + p0 = E := ⟨_, rfl⟩
      have hor2 : bits BinOp.or IntKind.u64 (r * 4294967296) p0 = E := by rw [or_low r p0 r0 r1 g00 g01, hE]
      have hw4 : IntKind.u64.wrap (r * 4294967296) = r * 4294967296 := by rw [IntKind.wrap_u64]; omega
      have hw5 : IntKind.u64.wrap P = P := by rw [IntKind.wrap_u64]; omega
      have HW : Hid (d * (f * 4294967296 + s) - ((p2 * 4294967296 + p1) * 4294967296 + p0) = P - E) := Lib.hid (by
        rw [HTOP.out, Int.mul_add, ← Int.mul_assoc, hP, ← hE]
        have := HEQ.out
        have e : d * f = top - r := by omega
        rw [e]; omega)
      have HE := Lib.hid hE
      have hPb : P ≤ 18446744065119617025 := hP1
      clear hE hP1
      by_cases hgt : E < P
      · have hq1' : q ≤ d - 1 := by
          have := q_lt (d := d) HQT.out (by have := HW.out; omega) (by omega)
          omega
        obtain ⟨k1, k2, k3⟩ := HDOWN.out hq1'
        have HK2 := Lib.hid k2
        have HK3 := Lib.hid k3
        clear k2 k3 HDOWN
        by_cases hbr : 4294967296 ≤ r + f
        · go_wp2_with fail
          go_ret
          obtain ⟨h1, h2⟩ := HK3.out hbr
          exact ⟨d - 1, m, by first | rfl | exact ret_int (HCAST.out _ (by omega) h1), rfl, by omega, h1, by omega, h2⟩
        · go_wp2_with fail
          go_roundw
          case rel => exact ⟨d - 1, r + f, rfl, rfl, HK2.out, by omega, by omega, by omega, by omega, by omega, m, rfl⟩
          case measure => simp [intOf]; omega
      · go_wp2_with fail
        go_ret
        exact ⟨d, m, by first | rfl | exact ret_int (HCAST.out _ (by omega) (by omega)), rfl, d0, by omega, hqd, by have := HW.out; omega⟩
end Go.Proofs.Ytpakfknacmcohaa
