/- Power of the program's integers. -/
import Derived.Test.YtpakfknacmcohaaPow2
namespace Go.Proofs.Ytpakfknacmcohaa
open Go.RowKit
set_option autoImplicit false
set_option linter.unusedVariables false

theorem IntAt.abs {w : World} {neg : Bool} {ao : Option Addr} {n cap : Nat} {zs : List Int} {x : Int} (h : IntAt w neg ao n cap zs x) : x.natAbs = (Go.Proofs.Ytpakfknacmcohaa.val zs).toNat := by
  have h0 := val_nonneg h.lim
  rw [h.val]
  cases neg <;> simp [sgn] <;> omega

theorem blen_one {v M : Nat} (hv : v ≤ 1) (hM : 1 ≤ M) : blen v ≤ M := by
  rw [blen_le_iff]
  have : (2 : Nat) ^ 1 ≤ 2 ^ M := Nat.pow_le_pow_right (by omega) hM
  omega

theorem blen_ge {v : Nat} (h : v ≠ 0) : 2 ^ (blen v - 1) ≤ v := by
  rw [← Nat.not_lt, ← blen_le_iff]
  have : 0 < blen v := by unfold blen; rw [if_neg h]; omega
  omega

theorem blen_lt2 {v : Nat} : blen v < 2 ↔ v ≤ 1 := by
  have := @blen_le_iff v 1
  constructor
  · intro h; have := this.1 (by omega); omega
  · intro h; have := this.2 (by omega); omega

theorem len_of_blen {zs : List Int} (lz : Lim zs) (tz : Top zs) : blen (val zs).toNat ≤ 32 * zs.length := by
  rw [blen_le_iff]
  have h1 := val_lt lz
  have h0 := val_nonneg lz
  rw [base_pow] at h1
  have h2 : ((2 : Int) ^ (32 * zs.length)) = ((2 ^ (32 * zs.length) : Nat) : Int) := by simp
  rw [h2] at h1
  omega

/-- An error code was returned, with the zero number. -/
def RetZero (w : World) (c : Int) (e : Ending) (w' : World) : Prop :=
  e = .returned (.tuple #[.agg #[.bool false, .slice none 0 0], .int .i64 c]) ∧ Below w.heap.size w w'

theorem power_neg (w : World) (nx : Bool) (ao : Option Addr) (n cap : Nat) (k : Int) (hk : k < 0) :
    Calls Try.prog 46 #[.agg #[.bool nx, .slice ao n cap], .int .i64 k] w (RetZero w 1) := by
  go_enter Try.func46, Try.ntmps46
  go_wp2_with fail
  have hr2 := (heap_alloc2 w (.cells #[.bool nx, .slice ao n cap] 28) (.cells #[.bool false, .slice none 0 0] 28)).1
  obtain ⟨c0, c1, f0, f1⟩ := blk2 hr2
  refine bodyPost_ret (v := .tuple #[.agg #[.bool false, .slice none 0 0], .int .i64 1]) (by simp [results, Try.results46, go_sem, c0, c1]) rfl ?_
  exact ⟨rfl, by go_grown⟩

theorem power_small (w : World) (nx : Bool) (ao : Option Addr) (n cap : Nat) (xs : List Int) (x : Int) (k : Nat) (hx : IntAt w nx ao n cap xs x) (hn : n ≤ 34359738368) (hv : val xs ≤ 1) (hk : k ≤ 9223372036854775807) :
    Calls Try.prog 46 #[.agg #[.bool nx, .slice ao n cap], .int .i64 (k : Int)] w (RetIE w (x ^ k) (n + 2)) := by
  have h0 := val_nonneg hx.lim
  obtain ⟨s, hs⟩ : ∃ s, blen (val xs).toNat = s := ⟨_, rfl⟩
  have hs2 : s < 2 := by rw [← hs, blen_lt2]; omega
  have HB : Hid (∀ w', Below w.heap.size w w' → Calls Try.prog 77 #[.slice ao n cap] w' (RetQ w' (.int .i64 (s : Int)))) := Lib.hid (fun w' hb => by
    have := bitlen_any w' ao n cap xs (hx.sl.below hb) hx.lim hx.top hn
    rwa [hs] at this)
  have HP : Hid (∀ w1, Below w.heap.size w w1 → _) := fun w1 hb => smallPower_any w1 nx ao n cap xs x k (hx.below hb) hn hv hk
  clear hx hs h0
  go_enter Try.func46, Try.ntmps46
  go_wp2_with fail
  refine (HB.out _ (by go_grown)).mono ?_
  rintro e w1 ⟨rfl, q, rfl⟩
  go_wp2_with fail
  refine (HP.out _ (below_drewN (by go_grown) q)).mono ?_
  rintro e w2 ⟨neg', ao', n', cap', zs', rfl, hint, hn', hb1⟩
  have hr2 : w2.heap[w.heap.size + 1]? = some (.cells #[.bool false, .slice none 0 0] 28 (0, 0)) := (hb1.block _ (by go_size)).trans (heap_alloc2 _ _ _).1
  obtain ⟨c0, c1, f0, f1⟩ := blk2 hr2
  have HI := Lib.hid (hint.stored hr2 (.bool neg') (.slice ao' n' cap'))
  have hb4 : Below w.heap.size w w2 := Below.trans (below_drewN (by go_grown) q) (hb1.mono (by go_size))
  clear hint hr2
  go_wp2
  refine bodyPost_ret (v := .tuple #[.agg #[.bool neg', .slice ao' n' cap'], .int .i64 0]) (by simp [results, Try.results46, go_sem, c0, c1]) rfl ?_
  exact ⟨_, _, _, _, _, rfl, HI.out, hn', (hb4.setCell (p := ⟨w.heap.size + 1, 0, none⟩) (by dsimp only; omega) _).setCell (p := ⟨w.heap.size + 1, 1, none⟩) (by dsimp only; omega) _⟩

set_option maxRecDepth 100000 in
theorem power_far (w : World) (nx : Bool) (ao : Option Addr) (n cap : Nat) (xs : List Int) (x : Int) (k : Nat) (s : Nat) (hx : IntAt w nx ao n cap xs x) (hn : n ≤ 1048576) (hs : blen (val xs).toNat = s) (hs2 : 2 ≤ s) (hk : k ≤ 9223372036854775807) (hfar : 65536 < k ∨ 65536 < (s - 1) * k) :
    Calls Try.prog 46 #[.agg #[.bool nx, .slice ao n cap], .int .i64 (k : Int)] w (RetZero w 14) := by
  have hsb := len_of_blen hx.lim hx.top
  rw [hs, hx.sl.len] at hsb
  have HB : Hid (∀ w', Below w.heap.size w w' → Calls Try.prog 77 #[.slice ao n cap] w' (RetQ w' (.int .i64 (s : Int)))) := Lib.hid (fun w' hb => by
    have := bitlen_any w' ao n cap xs (hx.sl.below hb) hx.lim hx.top (by omega)
    rwa [hs] at this)
  clear hx hs
  obtain ⟨r, rfl⟩ : ∃ r, s = r + 1 := ⟨s - 1, by omega⟩
  simp only [Nat.add_sub_cancel] at hfar
  by_cases hk1 : 65536 < k
  · have hki : (65536 : Int) < k := by omega
    clear hfar
    go_enter Try.func46, Try.ntmps46
    go_wp2_with fail
    refine (HB.out _ (by go_grown)).mono ?_
    rintro e w1 ⟨rfl, q, rfl⟩
    go_wp2_with fail
    have hr2 := (heap_alloc2 w (.cells #[.bool nx, .slice ao n cap] 28) (.cells #[.bool false, .slice none 0 0] 28)).1
    obtain ⟨c0, c1, f0, f1⟩ := blk2 hr2
    refine bodyPost_ret (v := .tuple #[.agg #[.bool false, .slice none 0 0], .int .i64 14]) (by simp [results, Try.results46, go_sem, c0, c1]) rfl ?_
    exact ⟨rfl, ((below_drewN (by go_grown) q).setCell (p := ⟨w.heap.size + 1, 0, none⟩) (by dsimp only; omega) _).setCell (p := ⟨w.heap.size + 1, 1, none⟩) (by dsimp only; omega) _⟩
  · have hrk : 65536 < r * k := by rcases hfar with h | h; exact absurd h hk1; exact h
    have hki : ¬ (65536 : Int) < k := by omega
    have hub : r * k ≤ 33554432 * 65536 := Nat.mul_le_mul (by omega) (by omega)
    obtain ⟨t, ht⟩ : ∃ t : Nat, r * k = t := ⟨_, rfl⟩
    have hti : (r : Int) * (k : Int) = (t : Int) := by rw [← ht, Int.natCast_mul]
    rw [ht] at hrk hub
    have h1 : (65536 : Int) < (r : Int) * (k : Int) := by rw [hti]; omega
    have h2 : (r : Int) * (k : Int) ≤ 2199023255552 := by rw [hti]; omega
    clear hti ht
    have h3 : (0 : Int) ≤ (r : Int) * (k : Int) := by omega
    clear hfar hrk hub
    go_enter Try.func46, Try.ntmps46
    go_wp2_with fail
    refine (HB.out _ (by go_grown)).mono ?_
    rintro e w1 ⟨rfl, q, rfl⟩
    go_wp2_with fail
    have hr2 := (heap_alloc2 w (.cells #[.bool nx, .slice ao n cap] 28) (.cells #[.bool false, .slice none 0 0] 28)).1
    obtain ⟨c0, c1, f0, f1⟩ := blk2 hr2
    refine bodyPost_ret (v := .tuple #[.agg #[.bool false, .slice none 0 0], .int .i64 14]) (by simp [results, Try.results46, go_sem, c0, c1]) rfl ?_
    exact ⟨rfl, ((below_drewN (by go_grown) q).setCell (p := ⟨w.heap.size + 1, 0, none⟩) (by dsimp only; omega) _).setCell (p := ⟨w.heap.size + 1, 1, none⟩) (by dsimp only; omega) _⟩

/-- Where the product of the size and the exponent is in reach the power is reckoned: it is returned, or found too large. -/
def RetPow (w : World) (y : Int) (L : Nat) (e : Ending) (w' : World) : Prop :=
  (blen (cpl y).toNat ≤ 65536 ∧ RetIE w y L e w') ∨ (65536 < blen (cpl y).toNat ∧ RetZero w 14 e w')

set_option maxRecDepth 100000 in
theorem power_near (w : World) (nx : Bool) (ao : Option Addr) (n cap : Nat) (xs : List Int) (x : Int) (k : Nat) (s : Nat) (hx : IntAt w nx ao n cap xs x) (hn : n ≤ 1048576) (hs : blen (val xs).toNat = s) (hs2 : 2 ≤ s) (hk : k ≤ 65536) (hnear : (s - 1) * k ≤ 65536) :
    Calls Try.prog 46 #[.agg #[.bool nx, .slice ao n cap], .int .i64 (k : Int)] w (RetPow w (x ^ k) 4098) := by
  have hsb := len_of_blen hx.lim hx.top
  rw [hs, hx.sl.len] at hsb
  have HX := Lib.hid hx
  have HB : Hid (∀ w', Below w.heap.size w w' → Calls Try.prog 77 #[.slice ao n cap] w' (RetQ w' (.int .i64 (s : Int)))) := Lib.hid (fun w' hb => by
    have := bitlen_any w' ao n cap xs (hx.sl.below hb) hx.lim hx.top (by omega)
    rwa [hs] at this)
  have h0 := val_nonneg hx.lim
  have hA1 : 1 ≤ val xs := by
    rcases (show val xs ≤ 0 ∨ 1 ≤ val xs by omega) with h | h
    · have : (val xs).toNat = 0 := by omega
      rw [this] at hs
      simp [blen] at hs
      omega
    · exact h
  have hbound : val xs ^ k < 4294967296 ^ 4097 := by
    have h1 : (val xs).toNat < 2 ^ s := by rw [← hs]; exact blen_lt _
    have h2 : s * k ≤ 32 * 4096 := by
      have : s * k ≤ (2 * (s - 1)) * k := Nat.mul_le_mul_right _ (by omega)
      rw [Nat.mul_assoc] at this
      omega
    have := pow_bound (K := 4096) h1 h2
    rwa [show (((val xs).toNat : Nat) : Int) = val xs by omega] at this
  have HR : Hid (∀ w', Below w.heap.size w w' → Calls Try.prog 95 #[.slice ao n cap, .int .i64 (k : Int)] w' (RetNat w' (val xs ^ k) (4097 + 1))) := Lib.hid (fun w' hb =>
    raise_any w' ao n cap xs k 4097 (hx.sl.below hb) hx.lim hA1 hn hk (by omega) hbound)
  have hpow : x ^ k = sgn (nx && decide (k % 2 = 1)) (val xs ^ k) := by rw [hx.val, sgn_pow]
  have hbk : decide (k % 2 = 1) = ((k : Int) % 2 == 1) := by
    rw [Bool.eq_iff_iff]
    simp
    omega
  rw [hbk] at hpow
  obtain ⟨y, hy⟩ : ∃ y, x ^ k = y := ⟨_, rfl⟩
  rw [hy] at hpow ⊢
  have HP := Lib.hid hpow
  obtain ⟨r, rfl⟩ : ∃ r, s = r + 1 := ⟨s - 1, by omega⟩
  simp only [Nat.add_sub_cancel] at hnear
  have hki : ¬ (65536 : Int) < k := by omega
  have h1 : (r : Int) * (k : Int) ≤ 65536 := by
    rw [← Int.natCast_mul]
    obtain ⟨t, ht⟩ : ∃ t : Nat, r * k = t := ⟨_, rfl⟩
    rw [ht] at hnear ⊢
    omega
  have h3 : (0 : Int) ≤ (r : Int) * (k : Int) := Int.mul_nonneg (by omega) (by omega)
  have h4 : ¬ (65536 : Int) < (r : Int) * (k : Int) := by omega
  clear hx hs hnear hbound hpow hbk hA1 h0 hy
  cases nx
  all_goals
    go_enter Try.func46, Try.ntmps46
    go_wp2_with fail
    refine (HB.out _ (by go_grown)).mono ?_
    rintro e w1 ⟨rfl, q, rfl⟩
    go_wp2_with fail
    refine (HR.out _ (below_drewN (by go_grown) q)).mono ?_
    rintro e w2 ⟨a2, m2, c2, z2, rfl, hown2, hl2, ht2, hv2, hm2, hb2⟩
    have HS2 := Lib.hid hown2.sl
    have HV2 := Lib.hid hv2
    have hr2 : w2.heap[w.heap.size + 1]? = some (.cells #[.bool false, .slice none 0 0] 28 (0, 0)) := (hb2.block _ (by go_size)).trans (heap_alloc2 _ _ _).1
    have hz2 : w.heap.size + 1 + 1 ≤ w2.heap.size := Nat.le_trans (by go_size) hb2.size
    have hb4 : Below w.heap.size w w2 := Below.trans (below_drewN (by go_grown) q) (hb2.mono (by go_size))
    clear hown2 hv2 hb2
    go_wp2_with fail
    refine (wrap_int _ _ _ _ _ _ HS2.out hl2 rfl).mono ?_
    rintro e w3 ⟨neg', ao', n', cap', zs', rfl, hint, hn', hb3⟩
    have hint2 : IntAt w3 neg' ao' n' cap' zs' y := by
      have e1 : y = _ := HP.out.trans (by rw [← HV2.out])
      rw [e1]
      simpa using hint
    have HI := Lib.hid hint2
    have hr3 := (hb3.block _ (by omega)).trans hr2
    have hb5 : Below w.heap.size w w3 := hb4.trans (hb3.mono hb4.size)
    have hz3 : w.heap.size + 1 + 1 ≤ w3.heap.size := Nat.le_trans hz2 hb3.size
    clear hint hint2 hr2 hb4 hb3 hz2
    obtain ⟨L, hL⟩ : ∃ L, blen (cpl y).toNat = L := ⟨_, rfl⟩
    have HLEN : Hid (∀ w', Below w3.heap.size w3 w' → Calls Try.prog 26 #[.agg #[.bool neg', .slice ao' n' cap']] w' (RetV w' (.int .i64 (L : Int)))) := Lib.hid (fun w' hb => by
      have := length_any w' neg' ao' n' cap' zs' y (HI.out.below hb) (by omega)
      rwa [hL] at this)
    have HL := Lib.hid hL
    obtain ⟨c0, c1, f0, f1⟩ := blk2 hr3
    have hl3 : w.heap.size + 1 < w3.heap.size := by omega
    clear hL
    by_cases hbig : 65536 < L
    · have hbi : (65536 : Int) < (L : Int) := by omega
      go_wp2_with fail
      refine (HLEN.out _ (by go_grown)).mono ?_
      rintro e w4 ⟨rfl, hb6⟩
      have hr4 := (hb6.block (w.heap.size + 1) (by go_size)).trans ((((Below.refl w3.heap.size w3).alloc (Nat.le_refl _) (.cells #[.bool neg', .slice ao' n' cap'] 28)).block _ hl3).trans hr3)
      obtain ⟨d0, d1, g0, g1⟩ := blk2 hr4
      have hb7 : Below w.heap.size w w4 := hb5.trans ((Below.trans (by go_grown) (hb6.mono (by go_size)) : Below w3.heap.size w3 w4).mono hb5.size)
      clear hr4 hb6
      go_wp2_with fail
      refine bodyPost_ret (v := .tuple #[.agg #[.bool false, .slice none 0 0], .int .i64 14]) (by simp [results, Try.results46, go_sem, d0, d1]) rfl ?_
      exact .inr ⟨by rw [HL.out]; exact hbig, rfl, (hb7.setCell (p := ⟨w.heap.size + 1, 0, none⟩) (by dsimp only; omega) _).setCell (p := ⟨w.heap.size + 1, 1, none⟩) (by dsimp only; omega) _⟩
    · have hbi : ¬ (65536 : Int) < (L : Int) := by omega
      go_wp2_with fail
      refine (HLEN.out _ (by go_grown)).mono ?_
      rintro e w4 ⟨rfl, hb6⟩
      have hr4 := (hb6.block (w.heap.size + 1) (by go_size)).trans ((((Below.refl w3.heap.size w3).alloc (Nat.le_refl _) (.cells #[.bool neg', .slice ao' n' cap'] 28)).block _ hl3).trans hr3)
      have hr5 : w4.heap[w3.heap.size]? = some (.cells #[.bool neg', .slice ao' n' cap'] 28 (0, 0)) := (hb6.block _ (by go_size)).trans (heap_alloc_new w3 _)
      obtain ⟨d0, d1, g0, g1⟩ := blk2 hr4
      obtain ⟨e0, e1, -, -⟩ := blk2 hr5
      have hb8 : Below w3.heap.size w3 w4 := Below.trans (by go_grown) (hb6.mono (by go_size))
      have hb7 : Below w.heap.size w w4 := hb5.trans (hb8.mono hb5.size)
      have HI4 := Lib.hid ((HI.out.below hb8).stored hr4 (.bool neg') (.slice ao' n' cap'))
      clear hr4 hr5 hb6 hb8
      go_wp2_with fail
      refine bodyPost_ret (v := .tuple #[.agg #[.bool neg', .slice ao' n' cap'], .int .i64 0]) (by simp [results, Try.results46, go_sem, d0, d1]) rfl ?_
      exact .inl ⟨by rw [HL.out]; omega, _, _, _, _, _, rfl, HI4.out, by omega, (hb7.setCell (p := ⟨w.heap.size + 1, 0, none⟩) (by dsimp only; omega) _).setCell (p := ⟨w.heap.size + 1, 1, none⟩) (by dsimp only; omega) _⟩

/-- Power: the power, or ErrLarge where it has more than 65536 binary digits. -/
theorem power_any (w : World) (nx : Bool) (ao : Option Addr) (n cap : Nat) (xs : List Int) (x : Int) (k : Nat) (hx : IntAt w nx ao n cap xs x) (hn : n ≤ 1048576) (hk : k ≤ 9223372036854775807) :
    Calls Try.prog 46 #[.agg #[.bool nx, .slice ao n cap], .int .i64 (k : Int)] w (RetPow w (x ^ k) 1048578) := by
  have h0 := val_nonneg hx.lim
  have habs := hx.abs
  obtain ⟨s, hs⟩ : ∃ s, blen (val xs).toNat = s := ⟨_, rfl⟩
  by_cases hs2 : s < 2
  · have hv : val xs ≤ 1 := by rw [← hs, blen_lt2] at hs2; omega
    refine (power_small w nx ao n cap xs x k hx (by omega) hv hk).mono ?_
    rintro e w' ⟨neg', ao', n', cap', zs', he, hi, hn', hb⟩
    refine .inl ⟨?_, neg', ao', n', cap', zs', he, hi, by omega, hb⟩
    refine blen_one ?_ (by omega)
    have h1 : (x ^ k).natAbs ≤ 1 := by
      rw [natAbs_pow', habs]
      have h2 : (val xs).toNat ≤ 1 := by omega
      have := Nat.pow_le_pow_left h2 k
      rwa [Nat.one_pow] at this
    unfold cpl
    split <;> omega
  · by_cases hfar : 65536 < k ∨ 65536 < (s - 1) * k
    · refine (power_far w nx ao n cap xs x k s hx hn hs (by omega) hk hfar).mono ?_
      intro e w' h
      refine .inr ⟨?_, h⟩
      have hA : 2 ^ (s - 1) ≤ (val xs).toNat := by
        rw [← hs]
        refine blen_ge ?_
        intro hz
        rw [hz] at hs
        simp [blen] at hs
        omega
      refine pow_big (A := (val xs).toNat) (k := k) hA ?_ (by rw [natAbs_pow', habs])
      rcases hfar with h | h
      · have : 1 * k ≤ (s - 1) * k := Nat.mul_le_mul_right _ (by omega)
        omega
      · exact h
    · refine (power_near w nx ao n cap xs x k s hx hn hs (by omega) (by omega) (by omega)).mono ?_
      rintro e w' (⟨h, neg', ao', n', cap', zs', he, hi, hn', hb⟩ | h)
      · exact .inl ⟨h, neg', ao', n', cap', zs', he, hi, by omega, hb⟩
      · exact .inr h
end Go.Proofs.Ytpakfknacmcohaa
