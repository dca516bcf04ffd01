/- Contracts of group and digits. -/
import Derived.Test.YtpakfknacmcohaaTextMath
import Derived.Test.YtpakfknacmcohaaNat4
namespace Go.Proofs.Ytpakfknacmcohaa
open Go.RowKit
set_option autoImplicit false
set_option linter.unusedVariables false

theorem group_any (w : World) (r : Int) (h2 : 2 ≤ r) (h36 : r ≤ 36) :
    Calls Try.prog 130 #[.int .i64 r] w fun e w' => ∃ c : Nat, 1 ≤ c ∧ c < 32 ∧ r ^ c ≤ 4294967295 ∧ e = .returned (.tuple #[.int .i64 c, .int .u32 (r ^ c)]) ∧ w = w' := by
  go_enter Try.func130, Try.ntmps130
  go_wp2_with fail
  go_loop [2, 4] (fun cc p => ∃ c : Nat, cc = .int .i64 c ∧ p = .int .u64 (r ^ c) ∧ r ^ c ≤ 4294967295 ∧ c < 32) (fun cc _ => 32 - (intOf cc).toNat)
  case atStart => exact ⟨0, rfl, by simp, by simp, by omega⟩
  case round =>
    obtain ⟨c, rfl, rfl, hp, hc⟩ := hrel
    have hp0 := rpow_pos h2 c
    have hs : r ^ (c + 1) = r ^ c * r := Int.pow_succ ..
    have h2p := two_le_rpow h2 (c + 1)
    obtain ⟨p, hpe⟩ : ∃ p, r ^ c = p := ⟨_, rfl⟩
    rw [hpe] at hp hp0 hs ⊢
    have hm0 : 0 ≤ p * r := Int.mul_nonneg (by omega) (by omega)
    have hm1 : p * r ≤ 4294967295 * 36 := Int.mul_le_mul hp h36 (by omega) (by omega)
    have HS := Lib.hid hs
    have HP := Lib.hid hpe
    clear hs hpe
    by_cases hlt : p * r < 4294967296
    · have hc2 : c + 1 < 32 := lt_of_two_pow (by rw [HS.out] at h2p; exact Int.lt_of_le_of_lt h2p hlt)
      have HC2 := Lib.hid hc2
      clear hc2 h2p
      go_wp2_with fail
      go_round
      case rel => exact ⟨c + 1, by go_num, by rw [HS.out], by rw [HS.out]; omega, HC2.out⟩
      case measure => simp [intOf]; omega
    · have hc1 : 1 ≤ c := by
        rcases Nat.eq_zero_or_pos c with h0 | h0
        · subst h0
          have := HP.out
          simp at this
          subst this
          omega
        · exact h0
      clear h2p
      go_wp2_with fail
      go_ret2
      exact ⟨c, hc1, hc, by rw [HP.out]; omega, by rw [HP.out]; rfl, rfl⟩

/-- Bytes in a row of the call's own. -/
def Own8 (B : Nat) (w : World) (ao : Option Addr) (n cap : Nat) (bs : List Int) : Prop :=
  w.ownsRow B 5 1 (.slice ao n cap) n (bs.map (Value.int .u8))
theorem info_u8 : (Try.prog.info? 5).map (fun i => (i.zero, i.size, i.bytes)) = some (some (.int .u8 0), 1, 1) := by kernel_rfl

def letterBytes : ByteArray := { data := #[48, 49, 50, 51, 52, 53, 54, 55, 56, 57, 65, 66, 67, 68, 69, 70, 71, 72, 73, 74, 75, 76, 77, 78, 79, 80, 81, 82, 83, 84, 85, 86, 87, 88, 89, 90] }
theorem letters_all : ∀ k : Fin 36, ((letterBytes[k.val]'(by have := k.isLt; exact this)).toNat : Int) = letter (k.val : Int) := by decide +kernel
theorem letters_at (d : Int) (h0 : 0 ≤ d) (h1 : d < 36) (w : World) :
    (Instr.index 9 (.string { data := #[48, 49, 50, 51, 52, 53, 54, 55, 56, 57, 65, 66, 67, 68, 69, 70, 71, 72, 73, 74, 75, 76, 77, 78, 79, 80, 81, 82, 83, 84, 85, 86, 87, 88, 89, 90] }) (.int .u32 d)).run Try.prog w = .ok (.int .u8 (letter d)) w := by
  obtain ⟨k, rfl⟩ := Int.eq_ofNat_of_zero_le h0
  have hk : k < 36 := by omega
  have h := letters_all ⟨k, hk⟩
  simp only at h
  simp [go_sem]
  rw [dif_pos h1]
  rw [← h]
  rfl

theorem own_ne {w : World} {B B' : Nat} {e e' : TypeId} {s s' : Nat} {v v' : Value} {n n' : Nat} {xs xs' : List Value} (h : w.ownsRow B e s v n xs) (h' : w.ownsRow B' e' s' v' n' xs') (hne : e ≠ e') : v.ownBlock = none ∨ v.ownBlock ≠ v'.ownBlock := by
  rcases h.2 with ⟨rfl, _⟩ | ⟨g, c, cur, rfl, _, hg, _⟩
  · exact .inl rfl
  · rcases h'.2 with ⟨rfl, _⟩ | ⟨g', c', cur', rfl, _, hg', _⟩
    · exact .inr (by simp [Value.ownBlock])
    · refine .inr ?_
      simp only [Value.ownBlock, ne_eq, Option.some.injEq]
      intro hgg
      rw [hgg, hg'] at hg
      simp at hg
      exact hne hg.2.symm

/-- The text's digits were returned, the least significant one first. -/
def RetDigits (B : Nat) (w : World) (r v : Int) (n : Nat) (e : Ending) (w' : World) : Prop :=
  ∃ to tn tc ds, e = .returned (.slice to tn tc) ∧ Own8 w.heap.size w' to tn tc (List.map letter ds) ∧ Dig r ds ∧ dval r ds = v ∧ tn ≤ 32 * n + 32 ∧ Below B w w'

theorem dig_step {r q : Int} {ds : List Int} {S : Int} (h : dval r ds + r ^ ds.length * q = S) : dval r (ds ++ [q % r]) + r ^ (ds ++ [q % r]).length * (q / r) = S := by
  rw [dval_snoc, List.length_append, List.length_singleton, Int.pow_succ]
  have := Int.emod_add_mul_ediv q r
  grind

set_option maxRecDepth 100000 in
theorem digits_any (B : Nat) (w : World) (ao : Option Addr) (n cap : Nat) (xs : List Int) (r : Int) (hx : Own B w ao n cap xs) (lx : Lim xs) (tx : Top xs) (hB : B ≤ w.heap.size) (h2 : 2 ≤ r) (h36 : r ≤ 36) (hn : n ≤ 34359738368) :
    Calls Try.prog 112 #[.slice ao n cap, .int .u32 r] w (RetDigits B w r (val xs) n) := by
  obtain ⟨i0, hi, hz0, hz1, hz2⟩ := info_parts info_u8
  have HX := Lib.hid hx
  have HXL : Hid (val xs < 2 ^ (32 * n)) := by have := val_lt lx; rwa [hx.sl.len, base_pow] at this
  clear hx
  go_enter Try.func112, Try.ntmps112
  go_wp2_with fail
  refine (group_any w r h2 h36).mono ?_
  rintro e w0 ⟨c, hc1, hc2, hp, rfl, rfl⟩
  have hr0 : 0 < r ^ c := rpow_pos h2 c
  have hr2 : 2 ≤ r ^ c := by
    have h := two_le_rpow h2 c
    have : (2 : Int) ^ 1 ≤ 2 ^ c := by
      obtain ⟨k, rfl⟩ := Nat.exists_eq_add_of_le hc1
      rw [Int.pow_add]
      have : (0 : Int) < 2 ^ k := Int.pow_pos (by omega)
      omega
    simp at this
    omega
  obtain ⟨p, hpe⟩ : ∃ p, r ^ c = p := ⟨_, rfl⟩
  rw [hpe] at hp hr0 hr2
  simp only [hpe]
  have HP := Lib.hid hpe
  clear hpe
  go_wp2_with fail
  go_loopg [0, 5] (val xs).toNat (fun k a t wr => ∃ n' zs to tn tc ds, a = .slice ao n' cap ∧ t = .slice to tn tc ∧ Own B wr ao n' cap zs ∧ Lim zs ∧ Top zs ∧ n' ≤ n ∧ k = (val zs).toNat ∧ Own8 w.heap.size wr to tn tc (List.map letter ds) ∧ Dig r ds ∧
      dval r ds + r ^ ds.length * val zs = val xs ∧ tn ≤ 32 * n + 32 ∧ Below B w wr)
  case atStart => exact ⟨n, xs, none, 0, 0, [], rfl, rfl, HX.out, lx, tx, Nat.le_refl _, rfl, World.ownsRow_nil _ _ _ _, (by intro d hd; cases hd), by simp [dval], by omega, Below.refl _ _⟩
  case round =>
    obtain ⟨n', zs, to, tn, tc, ds, rfl, rfl, ho, hl, ht, hn', hgk, hot, hdig, hval, htn, hbel⟩ := hrel
    have HO := Lib.hid ho
    have HT := Lib.hid hot
    have HV := Lib.hid hval
    have HG := Lib.hid hgk
    have HN := Lib.hid (show tn = ds.length by have := hot.1; simp at this; omega)
    clear ho hot hval hgk
    by_cases hn0 : n' = 0
    · subst hn0
      have hzs : zs = [] := List.eq_nil_of_length_eq_zero HO.out.sl.len
      have hv : dval r ds = val xs := by have := HV.out; rw [hzs] at this; simpa [val] using this
      have HV2 := Lib.hid hv
      clear hv
      go_wp2_with fail
      go_ret
      exact ⟨to, tn, tc, ds, rfl, HT.out, hdig, HV2.out, htn, hbel⟩
    · have hzs : zs ≠ [] := by intro h; have := HO.out.sl.len; rw [h] at this; simp at this; omega
      have hvp : 0 < val zs := Int.lt_of_lt_of_le (pow_pos (zs.length - 1)) (val_pos_of_top hl ht hzs)
      have hrp := rpow_pos h2 ds.length
      have hdn := dval_nonneg (by omega) hdig
      have hbd : ds.length < 32 * n := by
        apply lt_of_two_pow
        have h1 := two_le_rpow h2 ds.length
        have h2' : r ^ ds.length * 1 ≤ r ^ ds.length * val zs := Int.mul_le_mul_of_nonneg_left (by omega) (by omega)
        have h3 := HV.out
        have h4 := HXL.out
        omega
      have htn' : tn < 32 * n := by rw [HN.out]; exact hbd
      have hm : n' ≤ 9223372036854775807 := by omega
      have hnp : 0 < n' := by omega
      have HD := Lib.hid (divideSmall_any B wr ao n' cap zs p HO.out hl hr0 hp)
      have HVP := Lib.hid hvp
      have HBD := Lib.hid hbd
      clear hvp hrp hdn hbd hzs
      go_wp2_with fail
      refine HD.out.mono ?_
      rintro e w1 ⟨n1, z1, rfl, ho1, hl1, ht1, hv1, hn1, hg1, hb1⟩
      have HV1 := Lib.hid hv1
      have HO1 := Lib.hid ho1
      have hkeep := (World.ownsRow.kept HT.out hg1 (own_ne HT.out HO.out (by decide)) : Own8 w.heap.size w1 to tn tc (List.map letter ds))
      have HT1 := Lib.hid hkeep
      have hb1' := hbel.trans hb1
      clear hv1 ho1 hg1 hkeep hb1
      obtain ⟨R, hR⟩ : ∃ R, R = val zs % p := ⟨_, rfl⟩
      have hR0 : 0 ≤ R := by rw [hR]; exact Int.emod_nonneg _ (by omega)
      have hR1 : R < p := by rw [hR]; exact Int.emod_lt_of_pos _ hr0
      rw [← hR]
      have HR := Lib.hid hR
      clear hR
      go_wp2_with fail
      obtain ⟨wo, rfl⟩ : ∃ wo : World, wo = w1 := ⟨_, rfl⟩
      go_loopw [5, 8, 25] (fun t rest i wi => ∃ (k : Nat) (q : Int), ∃ to tn tc es, k ≤ c ∧ i = .int .i64 k ∧ rest = .int .u32 q ∧ 0 ≤ q ∧ q ≤ 4294967295 ∧ q * r ^ k ≤ R ∧ t = .slice to tn tc ∧ Own8 w.heap.size wi to tn tc (List.map letter es) ∧ Dig r es ∧
          es.length = ds.length + k ∧ dval r es + r ^ es.length * q = dval r ds + r ^ ds.length * R ∧ tn = ds.length + k ∧ Own B wi ao n1 cap z1 ∧ Below B w wi) (fun _ _ i _ => c - (intOf i).toNat)
      case atStart => exact ⟨0, R, to, tn, tc, ds, Nat.zero_le _, rfl, rfl, hR0, by omega, by simp, rfl, HT1.out, hdig, rfl, rfl, HN.out, HO1.out, hb1'⟩
      case round =>
        obtain ⟨k, q, to, tn, tc, es, hk, rfl, rfl, hq0, hq1, hqk, rfl, hot, hes, hel, hev, hetn, hoz, hbe⟩ := hrel
        have HOT := Lib.hid hot
        have HEL := Lib.hid hel
        have HEV := Lib.hid hev
        have HOZ := Lib.hid hoz
        have HQK := Lib.hid hqk
        have HTN := Lib.hid hetn
        clear hot hel hev hoz hqk hetn
        by_cases hkc : k < c
        · have hm0 : 0 ≤ q % r := Int.emod_nonneg _ (by omega)
          have hm1 : q % r < r := Int.emod_lt_of_pos _ (by omega)
          have hidx := letters_at (q % r) hm0 (by omega)
          have hlr := letter_range hm0 (by omega : q % r < 36)
          have hbound : tn + 1 ≤ 281474976710656 := by have := HTN.out; have := HBD.out; omega
          have hsz : w.heap.size ≤ wr.heap.size := hbe.size
          go_wp2_with (at_builtin; refine wpList_append_own _ rfl _ _ 126 rfl w.heap.size 5 i0 (.int .u8 0) 1 1 Try.underlying126 hi hz0 hz1 hz2 rfl (by decide) _ _ _ rfl (World.ownsRow.alloc HOT.out _) ⟨wr.heap.size, 0, none⟩ 1 1 [.int .u8 (letter (q % r))] rfl rfl ?c1 ?c2 ?c3 ?c4 ?c5 ?_)
          case c2 => first | rfl | (intro u hu; simp at hu; subst hu; rfl)
          case c3 => unfold maxLen; omega
          case c4 => have := HTN.out; have := HBD.out; omega
          case c5 => first | omega | (simp; omega)
          intro v' w2 hown2 hgrow _
          have hoz2 := (World.ownsRow.kept (World.ownsRow.alloc HOZ.out (.cells #[.int .u8 (letter (q % r))] 5)) hgrow (own_ne HOZ.out HOT.out (by decide)) : Own B w2 ao n1 cap z1)
          have hbw2 : Below B w w2 := Below.grown (hbe.alloc (Nat.le_trans hB hsz) _) hgrow (by simp; omega) (by intro g hg; have := (World.ownsRow.lt HOT.out g hg).1; omega)
          obtain ⟨to2, tc2, rfl⟩ : ∃ to2 tc2, v' = .slice to2 (tn + 1) tc2 := by
            rcases hown2.2 with ⟨hv, h0⟩ | ⟨g, c, cur, hv, _⟩
            · omega
            · exact ⟨_, _, hv⟩
          have hrow2 : Own8 w.heap.size w2 to2 (tn + 1) tc2 (List.map letter (es ++ [q % r])) := by
            unfold Own8
            rw [List.map_append, List.map_append, List.map_map]
            exact hown2
          have HR2 := Lib.hid hrow2
          have HZ2 := Lib.hid hoz2
          clear hown2 hgrow hrow2 hoz2
          have hqr0 : 0 ≤ q / r := Int.ediv_nonneg hq0 (by omega)
          have hqr1 : q / r ≤ q := Int.ediv_le_self _ hq0
          go_wp2_with fail
          go_roundw
          case rel =>
            have hq := HQK.out
            have hrk := rpow_pos h2 k
            have hqr := Int.ediv_mul_le q (show r ≠ 0 by omega)
            have h5 : q / r * r ^ (k + 1) ≤ R := by
              rw [Int.pow_succ, show q / r * (r ^ k * r) = q / r * r * r ^ k by grind]
              exact Int.le_trans (Int.mul_le_mul_of_nonneg_right hqr (by omega)) hq
            exact ⟨k + 1, q / r, to2, tn + 1, tc2, es ++ [q % r], by omega, by go_num, rfl, hqr0, by omega, h5, rfl, HR2.out, Dig_snoc hes hm0 hm1,
              by rw [List.length_append, HEL.out]; rfl, dig_step HEV.out, by rw [HTN.out]; rfl, HZ2.out, hbw2⟩
          case measure => simp [intOf]; omega
        · obtain rfl : k = c := by omega
          have hq := HQK.out
          rw [HP.out] at hq
          have hq00 : q = 0 := by
            rcases (show q = 0 ∨ 1 ≤ q by omega) with h | h
            · exact h
            · have := Int.mul_le_mul_of_nonneg_right h (show 0 ≤ p by omega)
              omega
          have hval2 : dval r es + r ^ es.length * val z1 = val xs := by
            have h1 := HEV.out
            have h3 := HV.out
            have h4 := HV1.out
            have h5 := HR.out
            have h6 := Int.emod_add_mul_ediv (val zs) p
            rw [← h5, ← h4] at h6
            rw [hq00] at h1
            rw [HEL.out, Int.pow_add, HP.out] at h1 ⊢
            grind
          have hlt : (val z1).toNat < gk := by
            have h1 := HV1.out
            have h3 := HVP.out
            have h4 := HG.out
            have : val z1 < val zs := by
              rw [h1]
              exact Int.ediv_lt_self_of_pos_of_ne_one h3 (by omega)
            omega
          have HL2 := Lib.hid hlt
          have HV2 := Lib.hid hval2
          have htn2 : tn ≤ 32 * n + 32 := by have := HTN.out; have := HBD.out; omega
          clear hq hq00 hval2 hlt
          go_wp2_with fail
          go_roundg (val z1).toNat
          case measure => exact HL2.out
          case rel => exact ⟨n1, z1, to, tn, tc, es, rfl, rfl, HOZ.out, hl1, ht1, by omega, rfl, HOT.out, hes, HV2.out, htn2, hbe⟩
end Go.Proofs.Ytpakfknacmcohaa
