/- Gcd: the mixer. -/
import Derived.Test.YtpakfknacmcohaaGcd2
import Derived.Test.YtpakfknacmcohaaFrame
import Derived.Deep.RegionLaw
namespace Go.Proofs.Ytpakfknacmcohaa
open Go.RowKit
set_option autoImplicit false
set_option linter.unusedVariables false

/-- A mixer at block M. -/
def MixAt (w : World) (M plus minus up down borrow : Nat) : Prop :=
  w.heap[M]? = some (.cells #[.int .u64 (plus : Int), .int .u64 (minus : Int), .int .u64 (up : Int), .int .u64 (down : Int), .int .u64 (borrow : Int)] 153 (0, 0))

def MixPost (w : World) (M plus minus up down borrow high low : Nat) (e : Ending) (w' : World) : Prop :=
  ∃ c up' down' b' : Nat, e = .returned (.int .u32 (c : Int)) ∧ c < 4294967296 ∧ up' < 4294967296 ∧ down' < 4294967296 ∧ b' ≤ 1 ∧
    ((high : Int) + up) - (low + down) - borrow = c + 4294967296 * ((up' : Int) - down' - b') ∧ MixAt w' M plus minus up' down' b' ∧ Frame [some M] w w'

theorem u64_in {x : Int} (h0 : 0 ≤ x) (h1 : x < 18446744073709551616) : IntKind.u64.wrap x = x := by
  simp only [IntKind.wrap, IntKind.bits, IntKind.signed]; simp; omega
theorem u32_mod (x : Int) : IntKind.u32.wrap x = x % 4294967296 := by
  simp only [IntKind.wrap, IntKind.bits, IntKind.signed]; simp

set_option maxRecDepth 100000 in
theorem mlimb_any (w : World) (M plus minus up down borrow high low : Nat) (h : MixAt w M plus minus up down borrow) (h1 : high + up < 18446744073709551616) (h2 : low + down < 18446744073709551616) (hb : borrow ≤ 1) :
    Calls Try.prog 141 #[.pointer (some ⟨M, 0, none⟩), .int .u64 (high : Int), .int .u64 (low : Int)] w (MixPost w M plus minus up down borrow high low) := by
  obtain ⟨c0, c1, c2, c3, c4, cf⟩ := cells5 h
  have f2 := cf 2
  have f3 := cf 3
  have f4 := cf 4
  obtain ⟨H, hH⟩ : ∃ H, high + up = H := ⟨_, rfl⟩
  obtain ⟨L, hL⟩ : ∃ L, low + down = L := ⟨_, rfl⟩
  rw [hH] at h1
  rw [hL] at h2
  have hHI : (high : Int) + (up : Int) = (H : Int) := by omega
  have hLI : (low : Int) + (down : Int) = (L : Int) := by omega
  have hHw : IntKind.u64.wrap ((high : Int) + (up : Int)) = (H : Int) := by rw [hHI]; exact u64_in (by omega) (by omega)
  have hLw : IntKind.u64.wrap ((low : Int) + (down : Int)) = (L : Int) := by rw [hLI]; exact u64_in (by omega) (by omega)
  obtain ⟨t, ht⟩ : ∃ t : Nat, (t : Int) = IntKind.u64.wrap (IntKind.u64.wrap ((H : Int) % 4294967296 - (L : Int) % 4294967296) - (borrow : Int)) := ⟨(IntKind.u64.wrap (IntKind.u64.wrap ((H : Int) % 4294967296 - (L : Int) % 4294967296) - (borrow : Int))).toNat, by
    simp only [IntKind.wrap, IntKind.bits, IntKind.signed]; simp; omega⟩
  have HM := Lib.hid h
  have HH := Lib.hid hH
  have HL := Lib.hid hL
  have HT := Lib.hid ht
  clear h cf hH hL ht
  go_enter Try.func141, Try.ntmps141
  go_wp2_with fail
  go_ret
  have hT := HT.out
  have hH := HH.out
  have hL := HL.out
  have hT2 : (t : Int) = (((H : Int) % 4294967296 - (L : Int) % 4294967296) % 18446744073709551616 - (borrow : Int)) % 18446744073709551616 := by
    rw [hT]
    simp only [IntKind.wrap, IntKind.bits, IntKind.signed]
    simp
  refine ⟨t % 4294967296, H / 4294967296, L / 4294967296, t / 9223372036854775808, ?_, by omega, by omega, by omega, by omega, by omega, ?_, ?_⟩
  · show Ending.returned (.int .u32 (IntKind.u64.wrap (IntKind.u64.wrap ((H : Int) % 4294967296 - (L : Int) % 4294967296) - (borrow : Int)) % 4294967296)) = _
    rw [← hT]
    rfl
  · rw [← hT]
    exact heap_setCell_same _ M 4 _ _ _ (heap_setCell_same _ M 3 _ _ _ (heap_setCell_same w M 2 _ _ _ HM.out))
  · exact (((Frame.refl _ _).setCell (p := ⟨M, 2, none⟩) (by simp) _).setCell (p := ⟨M, 3, none⟩) (by simp) _).setCell (p := ⟨M, 4, none⟩) (by simp) _

set_option maxRecDepth 100000 in
theorem mnext_any (w : World) (M plus minus up down borrow x y : Nat) (h : MixAt w M plus minus up down borrow) (hp : plus < 4294967296) (hm : minus < 4294967296) (hu : up < 4294967296) (hd : down < 4294967296) (hx : x < 4294967296) (hy : y < 4294967296) (hb : borrow ≤ 1) :
    Calls Try.prog 139 #[.pointer (some ⟨M, 0, none⟩), .int .u32 (x : Int), .int .u32 (y : Int)] w (MixPost w M plus minus up down borrow (plus * x) (minus * y)) := by
  obtain ⟨c0, c1, c2, c3, c4, cf⟩ := cells5 h
  have b1 : plus * x ≤ 4294967295 * 4294967295 := Nat.mul_le_mul (by omega) (by omega)
  have b2 : minus * y ≤ 4294967295 * 4294967295 := Nat.mul_le_mul (by omega) (by omega)
  obtain ⟨P, hP⟩ : ∃ P, plus * x = P := ⟨_, rfl⟩
  obtain ⟨Q, hQ⟩ : ∃ Q, minus * y = Q := ⟨_, rfl⟩
  rw [hP] at b1
  rw [hQ] at b2
  have e1 : IntKind.u64.wrap ((plus : Int) * (x : Int)) = (P : Int) := by
    rw [show (plus : Int) * (x : Int) = (P : Int) by rw [← hP]; push_cast; rfl]; exact u64_in (by omega) (by omega)
  have e2 : IntKind.u64.wrap ((minus : Int) * (y : Int)) = (Q : Int) := by
    rw [show (minus : Int) * (y : Int) = (Q : Int) by rw [← hQ]; push_cast; rfl]; exact u64_in (by omega) (by omega)
  have e3 : IntKind.u64.wrap (x : Int) = (x : Int) := u64_in (by omega) (by omega)
  have e4 : IntKind.u64.wrap (y : Int) = (y : Int) := u64_in (by omega) (by omega)
  have HL : Hid (∀ w', (∀ k : Nat, w'.heap[k]? = w.heap[k]?) → Calls Try.prog 141 #[.pointer (some ⟨M, 0, none⟩), .int .u64 (P : Int), .int .u64 (Q : Int)] w' (MixPost w' M plus minus up down borrow P Q)) := Lib.hid fun w' hw => mlimb_any w' M plus minus up down borrow P Q (by unfold MixAt; rw [hw M]; exact h) (by omega) (by omega) hb
  have HLd := Lib.hid (HL.out w.drew (fun _ => rfl))
  rw [hP, hQ]
  clear h cf hP hQ HL
  go_enter Try.func139, Try.ntmps139
  go_wp2_with fail
  go_region_law (go_simp; (with_reducible refine HLd.out.mono ?_); rintro e w2 ⟨c, up', down', b', rfl, k1, k2, k3, k4, k5, k6, k7⟩; dsimp only; have HK := Lib.hid (And.intro k5 (And.intro k6 k7)); clear k5 k6 k7)
  all_goals (go_wp2_with fail; go_ret; exact ⟨c, up', down', b', rfl, k1, k2, k3, k4, HK.out.1, HK.out.2.1, ((Frame.refl _ _).drew).trans HK.out.2.2 (fun _ _ h => h)⟩)

set_option maxRecDepth 100000 in
theorem mturned_any (w : World) (M plus minus up down borrow x y : Nat) (h : MixAt w M plus minus up down borrow) (hp : plus < 4294967296) (hm : minus < 4294967296) (hu : up < 4294967296) (hd : down < 4294967296) (hx : x < 4294967296) (hy : y < 4294967296) (hb : borrow ≤ 1) :
    Calls Try.prog 138 #[.pointer (some ⟨M, 0, none⟩), .int .u32 (x : Int), .int .u32 (y : Int)] w (MixPost w M plus minus up down borrow (minus * y) (plus * x)) := by
  obtain ⟨c0, c1, c2, c3, c4, cf⟩ := cells5 h
  have b1 : plus * x ≤ 4294967295 * 4294967295 := Nat.mul_le_mul (by omega) (by omega)
  have b2 : minus * y ≤ 4294967295 * 4294967295 := Nat.mul_le_mul (by omega) (by omega)
  obtain ⟨P, hP⟩ : ∃ P, plus * x = P := ⟨_, rfl⟩
  obtain ⟨Q, hQ⟩ : ∃ Q, minus * y = Q := ⟨_, rfl⟩
  rw [hP] at b1
  rw [hQ] at b2
  have e1 : IntKind.u64.wrap ((plus : Int) * (x : Int)) = (P : Int) := by
    rw [show (plus : Int) * (x : Int) = (P : Int) by rw [← hP]; push_cast; rfl]; exact u64_in (by omega) (by omega)
  have e2 : IntKind.u64.wrap ((minus : Int) * (y : Int)) = (Q : Int) := by
    rw [show (minus : Int) * (y : Int) = (Q : Int) by rw [← hQ]; push_cast; rfl]; exact u64_in (by omega) (by omega)
  have e3 : IntKind.u64.wrap (x : Int) = (x : Int) := u64_in (by omega) (by omega)
  have e4 : IntKind.u64.wrap (y : Int) = (y : Int) := u64_in (by omega) (by omega)
  have HL : Hid (∀ w', (∀ k : Nat, w'.heap[k]? = w.heap[k]?) → Calls Try.prog 141 #[.pointer (some ⟨M, 0, none⟩), .int .u64 (Q : Int), .int .u64 (P : Int)] w' (MixPost w' M plus minus up down borrow Q P)) := Lib.hid fun w' hw => mlimb_any w' M plus minus up down borrow Q P (by unfold MixAt; rw [hw M]; exact h) (by omega) (by omega) hb
  have HLd := Lib.hid (HL.out w.drew (fun _ => rfl))
  rw [hP, hQ]
  clear h cf hP hQ HL
  go_enter Try.func138, Try.ntmps138
  go_wp2_with fail
  go_region_law (go_simp; (with_reducible refine HLd.out.mono ?_); rintro e w2 ⟨c, up', down', b', rfl, k1, k2, k3, k4, k5, k6, k7⟩; dsimp only; have HK := Lib.hid (And.intro k5 (And.intro k6 k7)); clear k5 k6 k7)
  all_goals (go_wp2_with fail; go_ret; exact ⟨c, up', down', b', rfl, k1, k2, k3, k4, HK.out.1, HK.out.2.1, ((Frame.refl _ _).drew).trans HK.out.2.2 (fun _ _ h => h)⟩)
end Go.Proofs.Ytpakfknacmcohaa
