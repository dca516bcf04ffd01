/- Deposit of the program's integers. -/
import Derived.Test.YtpakfknacmcohaaDepMath
namespace Go.Proofs.Ytpakfknacmcohaa
open Go.RowKit
set_option autoImplicit false
set_option linter.unusedVariables false

theorem deposit_no (w : World) (nx ny : Bool) (ao bo : Option Addr) (n m capa capb : Nat) (k at' : Int) (h : (k < 0 ∨ 65536 < k) ∨ (at' < 0 ∨ 65536 < at')) :
    Calls Try.prog 58 #[.agg #[.bool nx, .slice ao n capa], .agg #[.bool ny, .slice bo m capb], .int .i64 k, .int .i64 at'] w (RetZero w 1) := by
  by_cases hk : k < 0 ∨ 65536 < k
  · have HK := Lib.hid (fun w1 => inBits_no w1 k hk)
    clear h hk
    go_enter Try.func58, Try.ntmps58
    go_wp2_with (go_at_call 107; refine (HK.out _).mono ?_; rintro e w1 ⟨rfl, rfl⟩)
    refine bodyPost_ret (v := .tuple #[.agg #[.bool false, .slice none 0 0], .int .i64 1]) (by simp [results, Try.results58, go_sem]) rfl ?_
    exact ⟨rfl, by go_grown⟩
  · have h2 : at' < 0 ∨ 65536 < at' := by omega
    have HK := Lib.hid (fun w1 => inBits_yes w1 k (by omega) (by omega))
    have HA := Lib.hid (fun w1 => inBits_no w1 at' h2)
    clear h hk h2
    go_enter Try.func58, Try.ntmps58
    go_wp2_with fail
    refine (HK.out _).mono ?_
    rintro e w1 ⟨rfl, rfl⟩
    go_wp2_with fail
    refine (HA.out _).mono ?_
    rintro e w1 ⟨rfl, rfl⟩
    go_wp2_with fail
    refine bodyPost_ret (v := .tuple #[.agg #[.bool false, .slice none 0 0], .int .i64 1]) (by simp [results, Try.results58, go_sem]) rfl ?_
    exact ⟨rfl, by go_grown⟩

/-- The integer with some bits replaced was returned. -/
def RetDep (w : World) (x p : Int) (k a : Nat) (L : Nat) (e : Ending) (w' : World) : Prop :=
  ∃ neg ao n cap zs D, e = .returned (.tuple #[.agg #[.bool neg, .slice ao n cap], .int .i64 0]) ∧ IntAt w' neg ao n cap zs D ∧ (∀ i, bitZ D i = depB x p k a i) ∧ n ≤ L ∧ Below w.heap.size w w'

theorem three_rows (w : World) (a b c : Obj) : (((w.alloc a).alloc b).alloc c).heap[w.heap.size]? = some a ∧ (((w.alloc a).alloc b).alloc c).heap[w.heap.size + 1]? = some b ∧ (((w.alloc a).alloc b).alloc c).heap[w.heap.size + 1 + 1]? = some c := by
  refine ⟨?_, ?_, ?_⟩
  · exact ((Below.refl (w.heap.size + 1) (w.alloc a)).alloc (by simp) b).alloc (by simp) c |>.block w.heap.size (by omega) |>.trans (heap_alloc_new w _)
  · exact heap_mid w a b c
  · exact (heap_alloc2 (w.alloc a) b c).1.symm ▸ (by simp)

set_option maxRecDepth 100000 in
set_option maxHeartbeats 1000000 in
theorem deposit_yes (w : World) (nx ny : Bool) (ao bo : Option Addr) (n m capa capb : Nat) (xs ys : List Int) (x p : Int) (k at' : Nat) (hx : IntAt w nx ao n capa xs x) (hy : IntAt w ny bo m capb ys p) (hk : k ≤ 65536) (ha : at' ≤ 65536) (hn : n ≤ 1048576) :
    Calls Try.prog 58 #[.agg #[.bool nx, .slice ao n capa], .agg #[.bool ny, .slice bo m capb], .int .i64 (k : Int), .int .i64 (at' : Int)] w (RetDep w x p k at' (n + 4200)) := by
  have HX := Lib.hid hx
  have HK := Lib.hid (fun w1 => inBits_yes w1 k (by omega) (by omega))
  have HA := Lib.hid (fun w1 => inBits_yes w1 at' (by omega) (by omega))
  have HF : Hid (∀ w1, Below w.heap.size w w1 → Calls Try.prog 108 #[.agg #[.bool ny, .slice bo m capb], .int .i64 (k : Int), .int .i64 0] w1 (RetNat w1 (p % 2 ^ k) 4098)) := Lib.hid (fun w1 hb => by
    have := field_nat w1 ny bo m capb ys p k 0 (hy.below hb) hk (by omega)
    simpa using this)
  have HW : Hid (∀ w1 K, Below w.heap.size w w1 → K ≤ 34359738368 → Calls Try.prog 101 #[.agg #[.bool nx, .slice ao n capa], .int .i64 (K : Nat)] w1 (RetWords w1 x K)) := Lib.hid (fun w1 K hb hK => words_any w1 nx ao n capa xs x K (HX.out.below hb) hK)
  have HBIG : Hid (∀ i, 32 * n ≤ i → bitZ x i = nx) := Lib.hid (fun i hi => bitZ_big HX.out hi)
  have HON : Hid (∀ w1, Calls Try.prog 110 #[.int .i64 (k : Int)] w1 (RetNat w1 (2 ^ k - 1) 2050)) := Lib.hid (fun w1 => ones_any' w1 k hk)
  clear hx hy
  go_enter Try.func58, Try.ntmps58
  go_wp2_with fail
  refine (HK.out _).mono ?_
  rintro e w1 ⟨rfl, rfl⟩
  go_wp2_with fail
  refine (HA.out _).mono ?_
  rintro e w1 ⟨rfl, rfl⟩
  go_wp2_with fail
  obtain ⟨W, hW⟩ : ∃ W, W = (((w.alloc (.cells #[.bool nx, .slice ao n capa] 28)).alloc (.cells #[.bool ny, .slice bo m capb] 28)).alloc (.cells #[.bool false, .slice none 0 0] 28)) := ⟨_, rfl⟩
  have hbW : Below w.heap.size w W := by rw [hW]; go_grown
  have hsW : w.heap.size + 1 + 1 + 1 ≤ W.heap.size := by rw [hW]; go_size
  obtain ⟨r1, r2, r3⟩ : W.heap[w.heap.size]? = some (.cells #[.bool nx, .slice ao n capa] 28 (0, 0)) ∧ W.heap[w.heap.size + 1]? = some (.cells #[.bool ny, .slice bo m capb] 28 (0, 0)) ∧ W.heap[w.heap.size + 1 + 1]? = some (.cells #[.bool false, .slice none 0 0] 28 (0, 0)) := by rw [hW]; exact three_rows w _ _ _
  rw [← hW]
  clear hW
  obtain ⟨y0, y1, -, -⟩ := blk2 r2
  have HKP : Hid (∀ w', Below W.heap.size W w' → (w'.cell? ⟨w.heap.size + 1, 0, none⟩ = some (.bool ny) ∧ w'.cell? ⟨w.heap.size + 1, 1, none⟩ = some (.slice bo m capb))) := Lib.hid (fun w' hb => ⟨(hb.cell (p := ⟨w.heap.size + 1, 0, none⟩) (by dsimp only; omega)).trans y0, (hb.cell (p := ⟨w.heap.size + 1, 1, none⟩) (by dsimp only; omega)).trans y1⟩)
  clear y0 y1 r2
  go_region_held3 (fun w' => w'.cell? ⟨w.heap.size + 1, 0, none⟩ = some (.bool ny) ∧ w'.cell? ⟨w.heap.size + 1, 1, none⟩ = some (.slice bo m capb)) ((first | exact HKP.out _ X4 | exact HKP.out _ X3 | exact HKP.out _ X2 | exact HKP.out _ X1 | exact HKP.out _ (Below.refl _ _).drew))
    (first | (go_at_call 98; have T4 := X3; clear T4; refine (up_all v3 a3 m3 c3 z3 at' S3.out l3 (by omega) ha).mono ?_; rintro e v4 ⟨a4, m4, c4, z4, rfl, o4, l4, t4, e4, g4, u4⟩; have X4 : Below W.heap.size W v4 := X3.trans (u4.mono X3.size); have S4 := Lib.hid o4.sl; have E4 := Lib.hid e4; have U4 := Lib.hid u4; clear o4 e4 u4) | (go_at_call 108; have T3 := X2; clear T3; refine (HF.out _ (hbW.trans (X2.mono hbW.size))).mono ?_; rintro e v3 ⟨a3, m3, c3, z3, rfl, o3, l3, t3, e3, g3, u3⟩; have X3 : Below W.heap.size W v3 := X2.trans (u3.mono X2.size); have S3 := Lib.hid o3.sl; have E3 := Lib.hid e3; have U3 := Lib.hid u3; clear o3 e3 u3) | (go_at_call 98; have T2 := X1; clear T2; refine (up_all v1 a1 m1 c1 z1 at' S1.out l1 (by omega) ha).mono ?_; rintro e v2 ⟨a2, m2, c2, z2, rfl, o2, l2, t2, e2, g2, u2⟩; have X2 : Below W.heap.size W v2 := X1.trans (u2.mono X1.size); have S2 := Lib.hid o2.sl; have E2 := Lib.hid e2; clear o2 e2 u2) | (go_at_call 110; refine (HON.out _).mono ?_; rintro e v1 ⟨a1, m1, c1, z1, rfl, o1, l1, t1, e1, g1, u1⟩; have X1 : Below W.heap.size W v1 := (Below.refl _ _).drew.trans u1; have S1 := Lib.hid o1.sl; have E1 := Lib.hid e1; clear o1 e1 u1))
  have hb4 : Below w.heap.size w v4 := hbW.trans (X4.mono hbW.size)
  have hsz4 := X4.size
  have q1 := (X4.block w.heap.size (by omega)).trans r1
  have q3 := (X4.block (w.heap.size + 1 + 1) (by omega)).trans r3
  obtain ⟨x0, x1, -, -⟩ := blk2 q1
  have bv24 : Below v2.heap.size v2 v4 := U3.out.trans (U4.out.mono U3.out.size)
  have S2' := Lib.hid (S2.out.below bv24)
  have Q3 := Lib.hid q3
  have VM : Hid (val z2 = (2 ^ k - 1) * 2 ^ at') := Lib.hid (by rw [E2.out, E1.out])
  have VF : Hid (val z4 = p % 2 ^ k * 2 ^ at') := Lib.hid (by rw [E4.out, E3.out])
  clear X1 X2 X3 X4 S1 S2 S3 E1 E2 E3 E4 U3 U4 q1 q3 bv24 r1 r3 hbW HKP HF HON HK HA
  rcases Nat.lt_or_ge n m2 with hlt | hlt
  · have hlti : (n : Int) < m2 := by omega
    go_wp2_with fail
    refine (HW.out _ (m2 + 1) hb4 (by omega)).mono ?_
    rintro e w1 ⟨g, zs, rfl, hmine, hzl, hlim, hval, hb⟩
    have HM := Lib.hid hmine
    have HZ := Lib.hid hzl
    have HV := Lib.hid hval
    have hge := hmine.ge
    clear hmine hzl hval x0 x1
    go_wp2_with fail
    go_loopw [43] (fun i wr => ∃ (j : Nat) (cs : List Int), j ≤ m2 + 1 ∧ i = .int .i64 j ∧ cs.length = m2 + 1 ∧ Lim cs ∧ (∀ t, cs.getD t 0 = if t < j then bits BinOp.or IntKind.u32 (bits BinOp.andNot IntKind.u32 (zs.getD t 0) (z2.getD t 0)) (z4.getD t 0) else zs.getD t 0) ∧ Mine v4.heap.size wr g cs ∧ Below v4.heap.size v4 wr) (fun i _ => (m2 + 1) - (intOf i).toNat)
    case atStart => exact ⟨0, zs, Nat.zero_le _, rfl, HZ.out, hlim, fun t => by rw [if_neg (by omega)], HM.out, hb⟩
    case round =>
      obtain ⟨j, cs, hj, rfl, hcl, hclim, hall, hmc, hbel⟩ := hrel
      have HCL := Lib.hid hcl
      have HALL := Lib.hid hall
      have HMC := Lib.hid hmc
      have HBL := Lib.hid hbel
      clear hcl hall hmc hbel
      by_cases hjs : j < m2 + 1
      · have hj1 : (j : Int) < m2 + 1 := by omega
        obtain ⟨ca, fa⟩ := HMC.out.cell j (by rw [HCL.out]; exact hjs)
        rw [HALL.out j, if_neg (by omega)] at ca
        have lA := Lim_getD hlim j
        have lM := Lim_getD l2 j
        have lF := Lim_getD l4 j
        have HLM := Lib.hid ((limb_at S2'.out { wr with drawn := wr.drawn + 1 } (HBL.out.drew) j).mono fun e w' (h : _ ∧ _) => show e = _ ∧ w' = { wr with drawn := wr.drawn + 1 } from ⟨h.1, h.2.symm⟩)
        have HLF := Lib.hid ((limb_at S4.out { wr with drawn := wr.drawn + 1 } (HBL.out.drew) j).mono fun e w' (h : _ ∧ _) => show e = _ ∧ w' = { wr with drawn := wr.drawn + 1 } from ⟨h.1, h.2.symm⟩)
        obtain ⟨a, hA⟩ : ∃ a, zs.getD j 0 = a := ⟨_, rfl⟩
        obtain ⟨b, hB⟩ : ∃ b, z2.getD j 0 = b := ⟨_, rfl⟩
        obtain ⟨c, hC⟩ : ∃ c, z4.getD j 0 = c := ⟨_, rfl⟩
        rw [hA] at ca lA
        rw [hB] at lM HLM
        rw [hC] at lF HLF
        have HA := Lib.hid hA
        have HB := Lib.hid hB
        have HC := Lib.hid hC
        have hj0 : (0 : Int) ≤ j := by omega
        clear hA hB hC
        go_wp2_with fail
        go_still_tail 14, (by kernel_rfl)
        still_call HLM.out
        repeat still_step
        still_call HLF.out
        repeat still_step
        change wpList _ _ _ _ _ wr.drew
        have hcr := bits_range BinOp.or (bits BinOp.andNot IntKind.u32 a b) c
        obtain ⟨R, hR⟩ : ∃ R, bits BinOp.or IntKind.u32 (bits BinOp.andNot IntKind.u32 a b) c = R := ⟨_, rfl⟩
        rw [hR] at hcr ⊢
        have HR := Lib.hid hR
        clear hR
        go_wp2_with fail
        go_roundw
        case rel =>
          have hcl := HCL.out
          refine ⟨j + 1, cs.set j R, by omega, by go_num, by rw [List.length_set]; exact hcl, Lim_set hclim j hcr.1 hcr.2, ?_, (show Mine v4.heap.size wr.drew g cs from HMC.out).set j R, HBL.out.drew.setCell (p := ⟨g, j, none⟩) hge _⟩
          intro t
          by_cases ht : t = j
          · subst ht
            rw [getD_set_eq (by omega), if_pos (by omega), HA.out, HB.out, HC.out, HR.out]
          · rw [getD_set_ne (by omega), HALL.out t]
            by_cases h2 : t < j
            · rw [if_pos h2, if_pos (by omega)]
            · rw [if_neg h2, if_neg (by omega)]
        case measure => simp [intOf]; omega
      · obtain rfl : j = m2 + 1 := by omega
        have hj1 : ¬ ((m2 : Int) + 1) < m2 + 1 := by omega
        have hown : Own v4.heap.size wr (some ⟨g, 0, none⟩) (m2 + 1) (m2 + 1) cs := by have h := HMC.out; unfold Mine at h; rw [HCL.out] at h; exact h
        have HO := Lib.hid hown
        clear hown
        go_wp2_with fail
        refine (signed_any v4.heap.size wr _ m2 (m2 + 1) cs HO.out hclim HBL.out.size).mono ?_
        rintro e w5 ⟨neg', ao', n', cap', zs', rfl, hint, hn', hb5⟩
        have hb6 : Below v4.heap.size v4 w5 := HBL.out.trans hb5
        have hz6 := hb6.size
        have q3 := (hb6.block (w.heap.size + 1 + 1) (by omega)).trans Q3.out
        obtain ⟨c0, c1', f0, f1⟩ := blk2 q3
        have HI := Lib.hid (hint.stored q3 (.bool neg') (.slice ao' n' cap'))
        have hb7 : Below w.heap.size w w5 := hb4.trans (hb6.mono hb4.size)
        have hms : z2.length ≤ m2 := by have := S2'.out.len; omega
        have HD := Lib.hid (dep_bits (K := m2) (k := k) (a := at') (p := p) (x := x) hlim l2 l4 hclim HCL.out HZ.out hms HV.out VM.out VF.out (fun q hq => by rw [HALL.out q, if_pos hq]) nx (fun i hi => HBIG.out i (by omega)))
        clear hint q3 hb5 hb6 hms
        go_wp2_with fail
        refine bodyPost_ret (v := .tuple #[.agg #[.bool neg', .slice ao' n' cap'], .int .i64 0]) (by simp [results, Try.results58, go_sem, c0, c1']) rfl ?_
        exact ⟨_, _, _, _, _, _, rfl, HI.out, HD.out, by omega, (hb7.setCell (p := ⟨w.heap.size + 1 + 1, 0, none⟩) (by dsimp only; omega) _).setCell (p := ⟨w.heap.size + 1 + 1, 1, none⟩) (by dsimp only; omega) _⟩
  · have hlti : ¬ (n : Int) < m2 := by omega
    go_wp2_with fail
    refine (HW.out _ (n + 1) hb4 (by omega)).mono ?_
    rintro e w1 ⟨g, zs, rfl, hmine, hzl, hlim, hval, hb⟩
    have HM := Lib.hid hmine
    have HZ := Lib.hid hzl
    have HV := Lib.hid hval
    have hge := hmine.ge
    clear hmine hzl hval x0 x1
    go_wp2_with fail
    go_loopw [43] (fun i wr => ∃ (j : Nat) (cs : List Int), j ≤ n + 1 ∧ i = .int .i64 j ∧ cs.length = n + 1 ∧ Lim cs ∧ (∀ t, cs.getD t 0 = if t < j then bits BinOp.or IntKind.u32 (bits BinOp.andNot IntKind.u32 (zs.getD t 0) (z2.getD t 0)) (z4.getD t 0) else zs.getD t 0) ∧ Mine v4.heap.size wr g cs ∧ Below v4.heap.size v4 wr) (fun i _ => (n + 1) - (intOf i).toNat)
    case atStart => exact ⟨0, zs, Nat.zero_le _, rfl, HZ.out, hlim, fun t => by rw [if_neg (by omega)], HM.out, hb⟩
    case round =>
      obtain ⟨j, cs, hj, rfl, hcl, hclim, hall, hmc, hbel⟩ := hrel
      have HCL := Lib.hid hcl
      have HALL := Lib.hid hall
      have HMC := Lib.hid hmc
      have HBL := Lib.hid hbel
      clear hcl hall hmc hbel
      by_cases hjs : j < n + 1
      · have hj1 : (j : Int) < n + 1 := by omega
        obtain ⟨ca, fa⟩ := HMC.out.cell j (by rw [HCL.out]; exact hjs)
        rw [HALL.out j, if_neg (by omega)] at ca
        have lA := Lim_getD hlim j
        have lM := Lim_getD l2 j
        have lF := Lim_getD l4 j
        have HLM := Lib.hid ((limb_at S2'.out { wr with drawn := wr.drawn + 1 } (HBL.out.drew) j).mono fun e w' (h : _ ∧ _) => show e = _ ∧ w' = { wr with drawn := wr.drawn + 1 } from ⟨h.1, h.2.symm⟩)
        have HLF := Lib.hid ((limb_at S4.out { wr with drawn := wr.drawn + 1 } (HBL.out.drew) j).mono fun e w' (h : _ ∧ _) => show e = _ ∧ w' = { wr with drawn := wr.drawn + 1 } from ⟨h.1, h.2.symm⟩)
        obtain ⟨a, hA⟩ : ∃ a, zs.getD j 0 = a := ⟨_, rfl⟩
        obtain ⟨b, hB⟩ : ∃ b, z2.getD j 0 = b := ⟨_, rfl⟩
        obtain ⟨c, hC⟩ : ∃ c, z4.getD j 0 = c := ⟨_, rfl⟩
        rw [hA] at ca lA
        rw [hB] at lM HLM
        rw [hC] at lF HLF
        have HA := Lib.hid hA
        have HB := Lib.hid hB
        have HC := Lib.hid hC
        have hj0 : (0 : Int) ≤ j := by omega
        clear hA hB hC
        go_wp2_with fail
        go_still_tail 14, (by kernel_rfl)
        still_call HLM.out
        repeat still_step
        still_call HLF.out
        repeat still_step
        change wpList _ _ _ _ _ wr.drew
        have hcr := bits_range BinOp.or (bits BinOp.andNot IntKind.u32 a b) c
        obtain ⟨R, hR⟩ : ∃ R, bits BinOp.or IntKind.u32 (bits BinOp.andNot IntKind.u32 a b) c = R := ⟨_, rfl⟩
        rw [hR] at hcr ⊢
        have HR := Lib.hid hR
        clear hR
        go_wp2_with fail
        go_roundw
        case rel =>
          have hcl := HCL.out
          refine ⟨j + 1, cs.set j R, by omega, by go_num, by rw [List.length_set]; exact hcl, Lim_set hclim j hcr.1 hcr.2, ?_, (show Mine v4.heap.size wr.drew g cs from HMC.out).set j R, HBL.out.drew.setCell (p := ⟨g, j, none⟩) hge _⟩
          intro t
          by_cases ht : t = j
          · subst ht
            rw [getD_set_eq (by omega), if_pos (by omega), HA.out, HB.out, HC.out, HR.out]
          · rw [getD_set_ne (by omega), HALL.out t]
            by_cases h2 : t < j
            · rw [if_pos h2, if_pos (by omega)]
            · rw [if_neg h2, if_neg (by omega)]
        case measure => simp [intOf]; omega
      · obtain rfl : j = n + 1 := by omega
        have hj1 : ¬ ((n : Int) + 1) < n + 1 := by omega
        have hown : Own v4.heap.size wr (some ⟨g, 0, none⟩) (n + 1) (n + 1) cs := by have h := HMC.out; unfold Mine at h; rw [HCL.out] at h; exact h
        have HO := Lib.hid hown
        clear hown
        go_wp2_with fail
        refine (signed_any v4.heap.size wr _ n (n + 1) cs HO.out hclim HBL.out.size).mono ?_
        rintro e w5 ⟨neg', ao', n', cap', zs', rfl, hint, hn', hb5⟩
        have hb6 : Below v4.heap.size v4 w5 := HBL.out.trans hb5
        have hz6 := hb6.size
        have q3 := (hb6.block (w.heap.size + 1 + 1) (by omega)).trans Q3.out
        obtain ⟨c0, c1', f0, f1⟩ := blk2 q3
        have HI := Lib.hid (hint.stored q3 (.bool neg') (.slice ao' n' cap'))
        have hb7 : Below w.heap.size w w5 := hb4.trans (hb6.mono hb4.size)
        have hms : z2.length ≤ n := by have := S2'.out.len; omega
        have HD := Lib.hid (dep_bits (K := n) (k := k) (a := at') (p := p) (x := x) hlim l2 l4 hclim HCL.out HZ.out hms HV.out VM.out VF.out (fun q hq => by rw [HALL.out q, if_pos hq]) nx (fun i hi => HBIG.out i (by omega)))
        clear hint q3 hb5 hb6 hms
        go_wp2_with fail
        refine bodyPost_ret (v := .tuple #[.agg #[.bool neg', .slice ao' n' cap'], .int .i64 0]) (by simp [results, Try.results58, go_sem, c0, c1']) rfl ?_
        exact ⟨_, _, _, _, _, _, rfl, HI.out, HD.out, by omega, (hb7.setCell (p := ⟨w.heap.size + 1 + 1, 0, none⟩) (by dsimp only; omega) _).setCell (p := ⟨w.heap.size + 1 + 1, 1, none⟩) (by dsimp only; omega) _⟩
end Go.Proofs.Ytpakfknacmcohaa
