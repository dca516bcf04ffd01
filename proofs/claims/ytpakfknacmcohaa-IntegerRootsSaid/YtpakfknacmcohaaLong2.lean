/- Long division: the divisor moved up, leading zeros. -/
import Derived.Test.YtpakfknacmcohaaLongM
import Derived.Test.YtpakfknacmcohaaShift1
import Derived.Test.YtpakfknacmcohaaNumB
import Derived.Test.YtpakfknacmcohaaPow3
namespace Go.Proofs.Ytpakfknacmcohaa
open Go.RowKit
set_option autoImplicit false
set_option linter.unusedVariables false

theorem lz32_any (w : World) (d p : Nat) (h : d < 4294967296) (hp : p + blen d = 32) : Calls Try.prog 133 #[.int .u32 (d : Int)] w fun e w' => e = .returned (.int .i64 (p : Int)) ∧ w = w' := by
  have HL := Lib.hid (len32_any w d h)
  obtain ⟨b, hb⟩ : ∃ b, blen d = b := ⟨_, rfl⟩
  rw [hb] at HL hp
  go_enter Try.func133, Try.ntmps133
  go_wp2_with fail
  refine HL.out.mono ?_
  rintro e w' ⟨rfl, rfl⟩
  go_wp2_with fail
  go_ret
  exact ⟨by go_num, rfl⟩

theorem blen_mul {v s : Nat} (h : 0 < v) : blen (v * 2 ^ s) = blen v + s := by
  have h1 : 2 ^ s ≤ v * 2 ^ s := by
    have := Nat.mul_le_mul_right (2 ^ s) h
    omega
  rw [blen_div (v * 2 ^ s) s h1, Nat.mul_div_cancel _ (Nat.two_pow_pos s)]

/-- Moved up by its leading zeros a number has as many limbs as before, and the top one has its top bit. -/
theorem norm_top {ys ds : List Int} {k s : Nat} (ly : Lim ys) (ty : Top ys) (hl : ys.length = k + 1) (ld : Lim ds) (td : Top ds) (hs : s + blen (ys.getD k 0).toNat = 32) (hv : val ds = val ys * 2 ^ s) :
    ds.length = k + 1 ∧ 2147483648 ≤ ds.getD k 0 ∧ val ds < 4294967296 ^ (k + 1) := by
  have hne : ys ≠ [] := by intro h; rw [h] at hl; simp at hl
  have hb := blen_val ly ty hne
  rw [hl, Nat.add_sub_cancel] at hb
  have hvp := val_pos_of_top ly ty hne
  have hp := pow_pos (ys.length - 1)
  have hv0 : 0 < val ys := by omega
  obtain ⟨v, hvn⟩ : ∃ v : Nat, val ys = v := ⟨(val ys).toNat, by omega⟩
  have hd0 : val ds = ((v * 2 ^ s : Nat) : Int) := by rw [hv, hvn]; simp
  have hbd : blen (val ds).toNat = blen (val ys).toNat + s := by
    rw [hd0, hvn, Int.toNat_natCast, Int.toNat_natCast]
    exact blen_mul (by omega)
  have hdn : ds ≠ [] := by
    intro h
    rw [h] at hv
    simp [val] at hv
    have : 0 < val ys * 2 ^ s := Int.mul_pos hv0 (Int.pow_pos (by omega))
    omega
  have hb2 := blen_val ld td hdn
  have ht0 : ds.getD (ds.length - 1) 0 ≠ 0 := by rcases td with h | h; exact absurd h hdn; exact h
  have hlim := Lim_getD ld (ds.length - 1)
  obtain ⟨t, ht⟩ : ∃ t : Nat, ds.getD (ds.length - 1) 0 = t := ⟨(ds.getD (ds.length - 1) 0).toNat, by omega⟩
  rw [ht, Int.toNat_natCast] at hb2
  rw [ht] at ht0 hlim
  have h1 : blen t ≤ 32 := blen_le_iff.2 (by omega)
  have h2 : ¬ blen t ≤ 0 := by rw [blen_le_iff]; omega
  have hlen : ds.length = k + 1 := by omega
  have h3 : blen t = 32 := by omega
  have h4 := blen_ge (v := t) (by omega)
  rw [h3] at h4
  refine ⟨hlen, ?_, ?_⟩
  · rw [hlen, Nat.add_sub_cancel] at ht
    omega
  · have := val_lt ld
    rwa [hlen] at this
end Go.Proofs.Ytpakfknacmcohaa
