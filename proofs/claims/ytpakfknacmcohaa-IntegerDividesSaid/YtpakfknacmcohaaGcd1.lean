/- Gcd: divisorOfWords, window, look. -/
import Derived.Test.YtpakfknacmcohaaLongs
import Derived.Test.YtpakfknacmcohaaGcdMath
import Derived.Laws.BitsAllLaws
import Derived.IntWalk
import Derived.WalkSmall
import Derived.Deep.QuietTactic
import Derived.BigQuiet
namespace Go.Proofs.Ytpakfknacmcohaa
open Go.RowKit
set_option autoImplicit false
set_option linter.unusedVariables false

theorem val_three (l : List Int) (h : l.length ≤ 3) : val l = l.getD 0 0 + 4294967296 * (l.getD 1 0 + 4294967296 * l.getD 2 0) := by
  match l, h with
  | [], _ => simp [val]
  | [a], _ => simp [val]
  | [a, b], _ => simp [val]
  | [a, b, c], _ => simp [val]
  | a :: b :: c :: d :: r, h => simp at h
theorem getD_drop' (zs : List Int) (n i : Nat) : (zs.drop n).getD i 0 = zs.getD (n + i) 0 := by simp [List.getD, List.getElem?_drop]

theorem val_top3 {zs : List Int} (lz : Lim zs) (n : Nat) (h : zs.length ≤ n + 3) :
    ∃ r, 0 ≤ r ∧ r < 4294967296 ^ n ∧ val zs = r + 4294967296 ^ n * (zs.getD n 0 + 4294967296 * (zs.getD (n + 1) 0 + 4294967296 * zs.getD (n + 2) 0)) := by
  refine ⟨val (zs.take n), val_nonneg (Lim_take lz n), ?_, ?_⟩
  · have h1 := val_lt (Lim_take lz n)
    have h2 := pow_le (show (zs.take n).length ≤ n by simp; omega)
    omega
  · rw [val_split zs n]
    by_cases hn : n ≤ zs.length
    · have e : (zs.take n).length = n := by simp; omega
      have h3 := val_three (zs.drop n) (by simp; omega)
      rw [getD_drop', getD_drop', getD_drop', Nat.add_zero] at h3
      rw [e, h3]
    · rw [getD_ge (by omega), getD_ge (by omega), getD_ge (by omega), List.drop_eq_nil_of_le (by omega)]
      simp [val]

/-- The top 64 bits of a number that is moved up by s. -/
theorem window_val {zs : List Int} (lz : Lim zs) (n s : Nat) (hs : s ≤ 31) (h : zs.length ≤ n + 3) (hv : val zs < 4294967296 ^ n * 2 ^ (96 - s)) :
    (zs.getD (n + 2) 0 * 4294967296 + zs.getD (n + 1) 0) * 2 ^ s + zs.getD n 0 / 2 ^ (32 - s) = val zs / (4294967296 ^ n * 2 ^ (32 - s)) ∧
      (zs.getD (n + 2) 0 * 4294967296 + zs.getD (n + 1) 0) * 2 ^ s < 18446744073709551616 := by
  obtain ⟨r, r0, r1, e⟩ := val_top3 lz n h
  have g0 := Lim_getD lz n
  have g1 := Lim_getD lz (n + 1)
  have g2 := Lim_getD lz (n + 2)
  obtain ⟨a, ha⟩ : ∃ a, zs.getD n 0 = a := ⟨_, rfl⟩
  obtain ⟨b, hb⟩ : ∃ b, zs.getD (n + 1) 0 = b := ⟨_, rfl⟩
  obtain ⟨c, hc⟩ : ∃ c, zs.getD (n + 2) 0 = c := ⟨_, rfl⟩
  obtain ⟨P, hP⟩ : ∃ P : Int, (4294967296 : Int) ^ n = P := ⟨_, rfl⟩
  have hP0 : 0 < P := by rw [← hP]; exact pow_pos n
  rw [ha, hb, hc, hP] at e
  rw [ha] at g0
  rw [hb] at g1
  rw [hc] at g2
  rw [hP] at r1 hv
  rw [ha, hb, hc, hP]
  obtain ⟨S, hS⟩ : ∃ S : Int, (2 : Int) ^ s = S := ⟨_, rfl⟩
  obtain ⟨D, hD⟩ : ∃ D : Int, (2 : Int) ^ (32 - s) = D := ⟨_, rfl⟩
  have hSD : S * D = 4294967296 := by rw [← hS, ← hD, ← Int.pow_add, show s + (32 - s) = 32 by omega]; rfl
  have hD0 : 0 < D := by rw [← hD]; exact Int.pow_pos (by omega)
  have hS0 : 0 < S := by rw [← hS]; exact Int.pow_pos (by omega)
  have h96 : (2 : Int) ^ (96 - s) = 18446744073709551616 * D := by
    rw [← hD, show 96 - s = 64 + (32 - s) by omega, Int.pow_add]; rfl
  rw [hS, hD]
  have q : val zs / (P * D) = (a + 4294967296 * (b + 4294967296 * c)) / D := by
    rw [← Int.ediv_ediv_of_nonneg (Int.le_of_lt hP0), e, Int.add_mul_ediv_left _ _ (by omega), Int.ediv_eq_zero_of_lt r0 r1, Int.zero_add]
  constructor
  · rw [q]
    have e2 : a + 4294967296 * (b + 4294967296 * c) = a + D * ((c * 4294967296 + b) * S) := by
      rw [← hSD]; grind
    rw [e2, Int.add_mul_ediv_left _ _ (by omega), Int.add_comm]
  · rw [h96] at hv
    have h1 : P * (a + 4294967296 * (b + 4294967296 * c)) < P * (18446744073709551616 * D) := by omega
    have h2 := Int.lt_of_mul_lt_mul_left h1 (Int.le_of_lt hP0)
    have e2 : a + 4294967296 * (b + 4294967296 * c) = a + D * ((c * 4294967296 + b) * S) := by
      rw [← hSD]; grind
    rw [e2] at h2
    have h3 : D * ((c * 4294967296 + b) * S) < D * 18446744073709551616 := by
      rw [Int.mul_comm D 18446744073709551616]; omega
    exact Int.lt_of_mul_lt_mul_left h3 (Int.le_of_lt hD0)

theorem words_gcd (w : World) (a b : Nat) (ha : a < 18446744073709551616) (hb : b < 18446744073709551616) :
    Calls Try.prog 124 #[.int .u64 (a : Int), .int .u64 (b : Int)] w (RetQ w (.int .u64 (Nat.gcd a b : Int))) := by
  obtain ⟨G, hG⟩ : ∃ G, Nat.gcd a b = G := ⟨_, rfl⟩
  have HG := Lib.hid hG
  rw [hG]
  clear hG
  go_enter Try.func124, Try.ntmps124
  go_wp2_with fail
  go_loopw [0, 1] (fun p q wr => ∃ x y : Nat, p = .int .u64 (x : Int) ∧ q = .int .u64 (y : Int) ∧ x < 18446744073709551616 ∧ y < 18446744073709551616 ∧ Nat.gcd x y = G ∧ ∃ k, wr = w.drewN k) (fun _ q _ => (intOf q).toNat)
  case atStart => exact ⟨a, b, rfl, rfl, ha, hb, HG.out, 0, rfl⟩
  case round =>
    obtain ⟨x, y, rfl, rfl, hx, hy, hg, k, rfl⟩ := hrel
    have HG2 := Lib.hid hg
    clear hg
    rcases Nat.eq_zero_or_pos y with h0 | h0
    · subst h0
      have hx0 : x = G := by have := HG2.out; rwa [Nat.gcd_zero_right] at this
      subst hx0
      go_wp2_with fail
      go_ret
      exact ⟨rfl, _, rfl⟩
    · have hy0 : (0 : Int) < (y : Int) := by omega
      have hy1 : ((y : Int) == 0) = false := by simp; omega
      obtain ⟨r, hr⟩ : ∃ r, x % y = r := ⟨_, rfl⟩
      have hrl : r < y := by rw [← hr]; exact Nat.mod_lt _ h0
      have hm : (x : Int).tmod (y : Int) = (r : Int) := by rw [Int.tmod_eq_emod_of_nonneg (by omega), ← hr]; rfl
      have hm2 : (x : Int) % (y : Int) = (r : Int) := by rw [← hr]; rfl
      have HR := Lib.hid hr
      clear hr
      go_wp2_with fail
      go_quiet (fail)
      go_wp2_with fail
      go_roundw
      case rel => exact ⟨y, r, rfl, rfl, hy, by omega, by rw [← HR.out, Nat.gcd_comm, ← Nat.gcd_rec, Nat.gcd_comm]; exact HG2.out, _, by first | rfl | (rw [World.drewN_drewN])⟩
      case measure => simp [intOf]; omega

theorem window_or {T a : Int} {s : Nat} (hs : s ≤ 31) (a0 : 0 ≤ a) (a1 : a ≤ 4294967295) (t0 : 0 ≤ T) (h : T * 2 ^ s < 18446744073709551616) :
    bits .or .u64 (IntKind.u64.wrap (T * 2 ^ s)) (a / 2 ^ (32 - s)) = T * 2 ^ s + a / 2 ^ (32 - s) := by
  obtain ⟨t, rfl⟩ := Int.eq_ofNat_of_zero_le t0
  obtain ⟨d, rfl⟩ := Int.eq_ofNat_of_zero_le a0
  have e1 : (t : Int) * 2 ^ s = ((t * 2 ^ s : Nat) : Int) := by push_cast; rfl
  have e2 : (d : Int) / 2 ^ (32 - s) = ((d / 2 ^ (32 - s) : Nat) : Int) := by push_cast; rfl
  have hd : d / 2 ^ (32 - s) < 2 ^ s := by
    rw [Nat.div_lt_iff_lt_mul (Nat.two_pow_pos _), ← Nat.pow_add, show s + (32 - s) = 32 by omega]
    omega
  have hp : 2 ^ s ≤ 2 ^ 31 := Nat.pow_le_pow_right (by omega) hs
  have hw : IntKind.u64.wrap ((t * 2 ^ s : Nat) : Int) = ((t * 2 ^ s : Nat) : Int) := by
    simp only [IntKind.wrap, IntKind.bits, IntKind.signed]
    rw [e1] at h
    simp
    push_cast at h ⊢
    rw [Int.emod_eq_of_lt (Int.mul_nonneg (by omega) (Int.le_of_lt (Int.pow_pos (by omega)))) (by omega)]
  rw [e1] at h
  rw [e1, e2, hw, u64_or_nat _ _ (by omega) (by omega), nat_join s (t * 2 ^ s) _ (Nat.mul_mod_left _ _) hd]
  omega

theorem window_any (w : World) (ao : Option Addr) (n cap : Nat) (zs : List Int) (N s M : Nat) (hM : M = N + 3) (h : Sl w ao n cap zs) (lz : Lim zs) (hs : s ≤ 31) (hn : n ≤ N + 3) (hN : N ≤ 1073741824) (hv : val zs < 4294967296 ^ N * 2 ^ (96 - s)) :
    Calls Try.prog 137 #[.slice ao n cap, .int .i64 (M : Int), .int .i64 (s : Int)] w (RetQ w (.int .u64 (val zs / (4294967296 ^ N * 2 ^ (32 - s))))) := by
  obtain ⟨hv1, hv2⟩ := window_val lz N s hs (by rw [h.len]; exact hn) hv
  have g0 := Lim_getD lz N
  have g1 := Lim_getD lz (N + 1)
  have g2 := Lim_getD lz (N + 2)
  have HLI : Hid (∀ w' (i : Nat) (x : Int), Cells w' ao zs → zs.getD i 0 = x → Calls Try.prog 111 #[.slice ao n cap, .int .i64 (i : Int)] w' fun e w'' => e = .returned (.int .u32 x) ∧ w' = w'') := Lib.hid (fun w' i x hc hx => by
    have := limb_any w' ao n cap zs (i : Int) h.len hc (by omega)
    rw [show ((i : Int)).toNat = i by omega, hx] at this
    exact this)
  have HC := Lib.hid h.cells
  obtain ⟨a, ha⟩ : ∃ a, zs.getD N 0 = a := ⟨_, rfl⟩
  obtain ⟨b, hb⟩ : ∃ b, zs.getD (N + 1) 0 = b := ⟨_, rfl⟩
  obtain ⟨c, hc⟩ : ∃ c, zs.getD (N + 2) 0 = c := ⟨_, rfl⟩
  rw [ha, hb, hc] at hv1
  rw [hb, hc] at hv2
  rw [ha] at g0
  rw [hb] at g1
  rw [hc] at g2
  obtain ⟨R, hR⟩ : ∃ R, val zs / (4294967296 ^ N * 2 ^ (32 - s)) = R := ⟨_, rfl⟩
  rw [hR] at hv1 ⊢
  have L0 : Hid (∀ w', Cells w' ao zs → Calls Try.prog 111 #[.slice ao n cap, .int .i64 ((M : Int) - 3)] w' fun e w'' => e = .returned (.int .u32 a) ∧ w' = w'') := Lib.hid (fun w' hc' => by have := HLI.out w' N a hc' ha; rwa [show (N : Int) = (M : Int) - 3 by omega] at this)
  have L1 : Hid (∀ w', Cells w' ao zs → Calls Try.prog 111 #[.slice ao n cap, .int .i64 ((M : Int) - 2)] w' fun e w'' => e = .returned (.int .u32 b) ∧ w' = w'') := Lib.hid (fun w' hc' => by have := HLI.out w' (N + 1) b hc' hb; rwa [show ((N + 1 : Nat) : Int) = (M : Int) - 2 by omega] at this)
  have L2 : Hid (∀ w', Cells w' ao zs → Calls Try.prog 111 #[.slice ao n cap, .int .i64 ((M : Int) - 1)] w' fun e w'' => e = .returned (.int .u32 c) ∧ w' = w'') := Lib.hid (fun w' hc' => by have := HLI.out w' (N + 2) c hc' hc; rwa [show ((N + 2 : Nat) : Int) = (M : Int) - 1 by omega] at this)
  have hM3 : 3 ≤ M := by omega
  have hM4 : M ≤ 1073741827 := by omega
  have hj : bits .or .u64 (c * 4294967296) b = c * 4294967296 + b := by
    obtain ⟨c', rfl⟩ := Int.eq_ofNat_of_zero_le g2.1
    obtain ⟨b', rfl⟩ := Int.eq_ofNat_of_zero_le g1.1
    have e : (c' : Int) * 4294967296 = ((c' * 4294967296 : Nat) : Int) := by omega
    rw [e, u64_or_nat _ _ (by omega) (by omega), nat_join 32 (c' * 4294967296) b' (by omega) (by omega)]
    omega
  have HV1 := Lib.hid hv1
  have HV2 := Lib.hid hv2
  clear ha hb hc hR h HLI hv1 hv2 hM
  go_enter Try.func137, Try.ntmps137
  go_wp2_with fail
  refine (L2.out _ HC.out).mono ?_
  rintro e w' ⟨rfl, rfl⟩
  go_wp2_with fail
  refine (L1.out _ HC.out).mono ?_
  rintro e w' ⟨rfl, rfl⟩
  go_wp2_with fail
  have hq : ∀ nq, Calls Try.prog 111 #[.slice ao n cap, .int .i64 ((M : Int) - 3)] (w.drewN nq) fun e w' => e = .returned (.int .u32 a) ∧ w' = w.drewN nq := fun nq => (L0.out _ (HC.out.below (below_drewN (Below.refl _ _) nq))).mono fun _ _ h => ⟨h.1, h.2.symm⟩
  have hMs : IntKind.i64.wrap ((M : Int) - 3) = (M : Int) - 3 := IntWalk.i64_in _ (by omega)
  have hss : IntKind.i64.wrap (32 - (s : Int)) = 32 - (s : Int) := IntWalk.i64_in _ (by omega)
  have hs0 : (0 : Int) ≤ 32 - (s : Int) := by omega
  go_quiet ((go_at_call 111; exact Calls.quiet_of_same (hq _)))
  go_wp2_with fail
  go_ret
  refine ⟨?_, _, rfl⟩
  show Ending.returned (.int .u64 (bits .or .u64 (IntKind.u64.wrap ((c * 4294967296 + b) * 2 ^ s)) (a / 2 ^ (32 - s)))) = _
  rw [window_or hs g0.1 g0.2 (by omega) HV2.out, HV1.out]
end Go.Proofs.Ytpakfknacmcohaa
