/- The value of a digit; addTo. -/
import Derived.Test.YtkifebmlojdjnaaBooA
namespace Go.Proofs.Ytkifebmlojdjnaa
open Go.RowKit
set_option autoImplicit false
set_option linter.unusedVariables false

/-- The value of a digit in the greatest radix; 36 for a byte that is none. -/
def dv (c : Int) : Int := if 48 ≤ c ∧ c ≤ 57 then c - 48 else if 65 ≤ c ∧ c ≤ 90 then c - 55 else if 97 ≤ c ∧ c ≤ 122 then c - 87 else 36

theorem dv_range {c : Int} (h0 : 0 ≤ c) : 0 ≤ dv c ∧ dv c ≤ 36 := by unfold dv; split <;> (try split) <;> (try split) <;> omega

set_option maxRecDepth 100000 in
theorem digitValue_any (w : World) (c : Int) (h0 : 0 ≤ c) (h1 : c ≤ 255) : Calls Try.prog 131 #[.int .u8 c] w fun e w' => e = .returned (.int .i64 (dv c)) ∧ w = w' := by
  rcases (show c < 48 ∨ (48 ≤ c ∧ c ≤ 57) ∨ (57 < c ∧ c < 65) ∨ (65 ≤ c ∧ c ≤ 90) ∨ (90 < c ∧ c < 97) ∨ (97 ≤ c ∧ c ≤ 122) ∨ 122 < c by omega) with h | h | h | h | h | h | h
  · have e : dv c = 36 := by unfold dv; rw [if_neg (by omega), if_neg (by omega), if_neg (by omega)]
    rw [e]
    have a1 : ¬ 48 ≤ c := by omega
    have a2 : ¬ 65 ≤ c := by omega
    have a3 : ¬ 97 ≤ c := by omega
    clear e
    go_enter Try.func131, Try.ntmps131
    go_wp2_with fail
    go_ret
    exact ⟨rfl, rfl⟩
  · obtain ⟨b0, b1⟩ := h
    have e : c - 48 = dv c := by unfold dv; rw [if_pos ⟨b0, b1⟩]
    have HE := Lib.hid e
    clear e
    go_enter Try.func131, Try.ntmps131
    go_wp2_with fail
    go_ret
    exact ⟨by rw [← HE.out]; rfl, rfl⟩
  · obtain ⟨b0, b1⟩ := h
    have e : dv c = 36 := by unfold dv; rw [if_neg (by omega), if_neg (by omega), if_neg (by omega)]
    rw [e]
    have a0 : 48 ≤ c := by omega
    have a1 : ¬ c ≤ 57 := by omega
    have a2 : ¬ 65 ≤ c := by omega
    have a3 : ¬ 97 ≤ c := by omega
    clear e
    go_enter Try.func131, Try.ntmps131
    go_wp2_with fail
    go_ret
    exact ⟨rfl, rfl⟩
  · obtain ⟨b0, b1⟩ := h
    have e : c - 65 + 10 = dv c := by unfold dv; rw [if_neg (by omega), if_pos ⟨b0, b1⟩]; omega
    have HE := Lib.hid e
    have a0 : 48 ≤ c := by omega
    have a1 : ¬ c ≤ 57 := by omega
    clear e
    go_enter Try.func131, Try.ntmps131
    go_wp2_with fail
    go_ret
    exact ⟨by rw [← HE.out]; rfl, rfl⟩
  · obtain ⟨b0, b1⟩ := h
    have e : dv c = 36 := by unfold dv; rw [if_neg (by omega), if_neg (by omega), if_neg (by omega)]
    rw [e]
    have a0 : 48 ≤ c := by omega
    have a1 : ¬ c ≤ 57 := by omega
    have a2 : 65 ≤ c := by omega
    have a4 : ¬ c ≤ 90 := by omega
    have a3 : ¬ 97 ≤ c := by omega
    clear e
    go_enter Try.func131, Try.ntmps131
    go_wp2_with fail
    go_ret
    exact ⟨rfl, rfl⟩
  · obtain ⟨b0, b1⟩ := h
    have e : c - 97 + 10 = dv c := by unfold dv; rw [if_neg (by omega), if_neg (by omega), if_pos ⟨b0, b1⟩]; omega
    have HE := Lib.hid e
    have a0 : 48 ≤ c := by omega
    have a1 : ¬ c ≤ 57 := by omega
    have a2 : 65 ≤ c := by omega
    have a4 : ¬ c ≤ 90 := by omega
    clear e
    go_enter Try.func131, Try.ntmps131
    go_wp2_with fail
    go_ret
    exact ⟨by rw [← HE.out]; rfl, rfl⟩
  · have e : dv c = 36 := by unfold dv; rw [if_neg (by omega), if_neg (by omega), if_neg (by omega)]
    rw [e]
    have a0 : 48 ≤ c := by omega
    have a1 : ¬ c ≤ 57 := by omega
    have a2 : 65 ≤ c := by omega
    have a4 : ¬ c ≤ 90 := by omega
    have a3 : 97 ≤ c := by omega
    have a5 : ¬ c ≤ 122 := by omega
    clear e
    go_enter Try.func131, Try.ntmps131
    go_wp2_with fail
    go_ret
    exact ⟨rfl, rfl⟩

/-- The limbs were returned, in memory of the call's own from block B on. -/
def RetAdd (B : Nat) (w : World) (v : Int) (L : Nat) (e : Ending) (w' : World) : Prop :=
  ∃ ao n cap zs, e = .returned (.slice ao n cap) ∧ Own B w' ao n cap zs ∧ Lim zs ∧ val zs = v ∧ n ≤ L ∧ Below B w w'

theorem take_set_same {zs : List Int} {k : Nat} {v : Int} : (zs.set k v).take k = zs.take k := by
  rw [List.take_set]
  exact List.set_eq_of_length_le (by rw [List.length_take]; omega)

theorem add_step {zs xs : List Int} {k : Nat} {x f cy c0 : Int} (hk : k < zs.length) (hx : xs.getD k 0 = x) (h : val (zs.take k) + 4294967296 ^ k * cy = val (xs.take k) * f + c0) :
    val ((zs.set k ((x * f + cy) % 4294967296)).take (k + 1)) + 4294967296 ^ (k + 1) * ((x * f + cy) / 4294967296) = val (xs.take (k + 1)) * f + c0 := by
  rw [val_take_succ, take_set_same, getD_set_eq hk, val_take_succ, hx, Int.pow_succ]
  have := Int.emod_add_mul_ediv (x * f + cy) 4294967296
  grind

set_option maxRecDepth 100000 in
theorem addTo_any (B : Nat) (w : World) (ao : Option Addr) (n cap : Nat) (xs : List Int) (f c0 : Int) (hx : Own B w ao n cap xs) (lx : Lim xs) (hB : B ≤ w.heap.size) (hf0 : 0 ≤ f) (hf1 : f ≤ 4294967295) (hc0 : 0 ≤ c0) (hc1 : c0 ≤ 4294967295) (hn : n ≤ 34359738368) :
    Calls Try.prog 132 #[.slice ao n cap, .int .u32 f, .int .u32 c0] w (RetAdd B w (val xs * f + c0) (n + 1)) := by
  have HL : Hid (xs.length = n) := hx.sl.len
  have hmost := hx.sl.most
  have hle := hx.sl.le
  unfold maxLen at hmost
  have HX := Lib.hid hx
  obtain ⟨i0, hi, hz0, hz1, hz2⟩ := info_parts info_u32
  clear hx
  go_enter Try.func132, Try.ntmps132
  go_wp2_with fail
  go_loopw [7, 15] (fun c i wr => ∃ (k : Nat) (cy : Int) (zs : List Int), k ≤ n ∧ i = .int .i64 k ∧ c = .int .u64 cy ∧ 0 ≤ cy ∧ cy ≤ 4294967295 ∧ zs.length = n ∧ Lim zs ∧ (∀ j, k ≤ j → zs.getD j 0 = xs.getD j 0) ∧
      val (zs.take k) + 4294967296 ^ k * cy = val (xs.take k) * f + c0 ∧ Own B wr ao n cap zs ∧ Below B w wr) (fun _ i _ => n - (intOf i).toNat)
  case atStart => exact ⟨0, c0, xs, Nat.zero_le _, rfl, rfl, hc0, hc1, HL.out, lx, fun _ _ => rfl, by simp [val], HX.out, .refl _ _⟩
  case round =>
    obtain ⟨k, cy, zs, hk, rfl, rfl, hcy0, hcy1, hzl, hlim, hsame, hval, hown, hbel⟩ := hrel
    have HO := Lib.hid hown
    have HS := Lib.hid hsame
    have HV := Lib.hid hval
    have HZ := Lib.hid hzl
    have hsz := hbel.size
    clear hown hsame hval hzl
    by_cases hkn : k < n
    · obtain ⟨g, rfl, hBg, hc, hfz⟩ := HO.out.at (j := k) hkn
      obtain ⟨x, hx⟩ : ∃ x, xs.getD k 0 = x := ⟨_, rfl⟩
      rw [HS.out k (Nat.le_refl _), hx] at hc
      have hlx := Lim_getD lx k
      rw [hx] at hlx
      obtain ⟨hx0, hx1⟩ := hlx
      obtain ⟨p0, p1, p2, p3, p4, p5⟩ := prod_bound hx0 hx1 hf0 hf1 (show (0 : Int) ≤ 0 by omega) (show (0 : Int) ≤ 4294967295 by omega) hcy0 hcy1
      have HXX := Lib.hid hx
      have q3 : x * f + cy ≤ 18446744073709551615 := by omega
      have q2 : 0 ≤ x * f + cy := by omega
      have q4 : 0 ≤ (x * f + cy) / 4294967296 := by omega
      have q5 : (x * f + cy) / 4294967296 ≤ 4294967295 := by omega
      clear hx p2 p3 p4 p5
      go_wp2_with fail
      go_roundw
      case rel =>
        have hzl := HZ.out
        have hstep := add_step (zs := zs) (xs := xs) (k := k) (x := x) (f := f) (cy := cy) (c0 := c0) (by omega) HXX.out HV.out
        exact ⟨k + 1, (x * f + cy) / 4294967296, zs.set k ((x * f + cy) % 4294967296), by omega, by go_num, rfl, q4, q5, by rw [List.length_set]; exact hzl, Lim_set hlim k (by omega) (by omega),
          fun j hj => by rw [getD_set_ne (by omega)]; exact HS.out j (by omega), hstep, HO.out.set k _, hbel.setCell hBg _⟩
      case measure => simp [intOf]; omega
    · obtain rfl : k = n := by omega
      have hv : val zs + 4294967296 ^ k * cy = val xs * f + c0 := by
        have h1 := HV.out
        have e1 := HL.out
        have e2 := HZ.out
        rwa [List.take_of_length_le (by omega), List.take_of_length_le (by omega)] at h1
      have HVV := Lib.hid hv
      have hji : ¬ (k : Int) < k := by omega
      clear hv
      by_cases hcz : 0 < cy
      · have hBw : B ≤ wr.heap.size := by omega
        go_wp2_with (at_builtin; refine wpList_app1 rfl _ _ 22 rfl B 99 i0 (.int .u32 0) 4 Try.underlying22 hi hz0 hz1 hz2 rfl (.slice ao k cap) k (zs.map (Value.int .u32)) (.int .u32 cy) rfl HO.out rfl rfl (by omega) (by omega) hBw ?_)
        intro ao2 cap2 w2 hown2 hgrow
        have hrow2 : Own B w2 ao2 (k + 1) cap2 (zs ++ [cy]) := by
          unfold Own
          rw [List.map_append]
          exact hown2
        have hb2 : Below B w w2 := Below.grown (hbel.alloc hBw _) hgrow (by simp; omega) (by intro g hg; exact (World.ownsRow.lt HO.out g hg).1)
        have HR2 := Lib.hid hrow2
        clear hown2 hgrow hrow2
        go_wp2_with fail
        go_ret
        exact ⟨ao2, k + 1, cap2, zs ++ [cy], rfl, HR2.out, Lim_snoc hlim hcy0 hcy1, by rw [val_snoc, HZ.out]; exact HVV.out, Nat.le_refl _, hb2⟩
      · obtain rfl : cy = 0 := by omega
        go_wp2_with fail
        go_ret
        exact ⟨ao, k, cap, zs, rfl, HO.out, hlim, by have := HVV.out; simpa using this, by omega, hbel⟩
end Go.Proofs.Ytkifebmlojdjnaa
