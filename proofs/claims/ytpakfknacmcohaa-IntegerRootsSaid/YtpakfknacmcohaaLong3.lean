/- Long division. -/
import Derived.Test.YtpakfknacmcohaaLong2
import Derived.Test.YtpakfknacmcohaaShift3
import Derived.Test.YtpakfknacmcohaaNat5
import Derived.Test.YtpakfknacmcohaaBits1
namespace Go.Proofs.Ytpakfknacmcohaa
open Go.RowKit
set_option autoImplicit false
set_option linter.unusedVariables false

theorem start_top {R : List Int} {n m : Nat} {X P V : Int} (lR : Lim R) (hl : R.length = n + 1) (hm : 1 ≤ m) (hmn : m ≤ n) (hP : 0 < P) (hA : val R = X * P) (hX : X < 4294967296 ^ n) (hV : 4294967296 ^ (m - 1) * P ≤ V) : val (R.drop (n - m + 1)) < V := by
  apply Int.not_le.1
  intro h
  have hs := val_split R (n - m + 1)
  rw [List.length_take, Nat.min_eq_left (by omega)] at hs
  have h0 := val_nonneg (Lim_take lR (n - m + 1))
  have h1 : 4294967296 ^ (n - m + 1) * (4294967296 ^ (m - 1) * P) ≤ 4294967296 ^ (n - m + 1) * val (R.drop (n - m + 1)) := Int.mul_le_mul_of_nonneg_left (by omega) (Int.le_of_lt (pow_pos _))
  rw [← Int.mul_assoc, ← Int.pow_add, show n - m + 1 + (m - 1) = n by omega] at h1
  have h2 : X * P < 4294967296 ^ n * P := Int.mul_lt_mul_of_pos_right hX hP
  omega

theorem Mine.seg {B : Nat} {w : World} {g : Nat} {R : List Int} (h : Mine B w g R) (hm : R.length ≤ maxLen) {i l : Nat} (hl : i + l ≤ R.length) : Sl w (some ⟨g, i, none⟩) l (R.length - i) (seg R i l) := by
  refine ⟨seg_len hl, by omega, by omega, by simp, .inr ⟨g, i, rfl, fun j hj => ?_⟩⟩
  rw [seg_len hl] at hj
  rw [(h.cell (i + j) (by omega)).1]
  unfold Go.Proofs.Ytpakfknacmcohaa.seg
  have e : ((R.drop i).take l).getD j 0 = (R.drop i).getD j 0 := by simp [List.getD, hj]
  rw [e, getD_drop]

theorem quot_end {X Y P R Q : Int} (hP : 0 < P) (hY : 0 < Y) (h : R + Y * P * Q = X * P) (h0 : 0 ≤ R) (h1 : R < Y * P) : Q = X / Y ∧ R / P = X % Y := by
  have hv : 0 < Y * P := Int.mul_pos hY hP
  have e1 : X * P / (Y * P) = Q := by
    rw [← h, Int.add_mul_ediv_left _ _ (by omega), Int.ediv_eq_zero_of_lt h0 h1, Int.zero_add]
  rw [Int.mul_ediv_mul_of_pos_left _ _ hP] at e1
  have e2 := Int.emod_add_mul_ediv X Y
  rw [e1] at e2
  have e3 : R = X % Y * P := by
    rw [show X % Y = X - Y * Q by omega, Int.sub_mul, ← h]
    grind
  exact ⟨e1.symm, by rw [e3, Int.mul_ediv_cancel _ (by omega)]⟩

theorem guess_at (w : World) (ga ia m pc : Nat) (gb ib dc : Nat) (ps ds : List Int) (hm : 2 ≤ m) (hp : Sl w (some ⟨ga, ia, none⟩) (m + 1) pc ps) (lp : Lim ps) (hd : Sl w (some ⟨gb, ib, none⟩) m dc ds) (ld : Lim ds) (hk : m ≤ 1073741824) (hf : 2147483648 ≤ ds.getD (m - 1) 0) (hU : val ps < val ds * 4294967296) :
    Calls Try.prog 134 #[.slice (some ⟨ga, ia, none⟩) (m + 1) pc, .slice (some ⟨gb, ib, none⟩) m dc] w (RetDigit w (val ps / val ds)) := by
  obtain ⟨k, rfl⟩ : ∃ k, m = k + 2 := ⟨m - 2, by omega⟩
  exact guess_any w ga ia k pc gb ib dc ps ds hp lp hd ld (by omega) hf hU

theorem shiftDown_trm (B : Nat) (w : World) (g c n p : Nat) (R : List Int) (h : Own B w (some ⟨g, 0, none⟩) n c R) (lR : Lim R) (hn : n ≤ 4294967296) (hp : p < 32) :
    Calls Try.prog 99 #[.slice (some ⟨g, 0, none⟩) (tl R n) c, .int .i64 (p : Int)] w (RetNat w (val R / 2 ^ p) n) := by
  have ht := tl_le R n
  have hs := (h.trimmed (tl R n) ht).sl
  have hv := tl_val R n
  have hl := h.sl.len
  rw [List.take_of_length_le (by omega : R.length ≤ n)] at hv
  by_cases h0 : tl R n = 0
  · rw [h0] at hv ⊢
    simp only [List.take_zero, val] at hv
    refine (shiftDown_far w _ 0 c (p : Int) (by omega) (by omega) (by omega)).mono ?_
    rintro e w' ⟨a, n1, c1, zs, rfl, h1, h2, h3, h4, h5, h6⟩
    exact ⟨a, n1, c1, zs, rfl, h1, h2, h3, by rw [h4, ← hv]; simp, by omega, h6⟩
  · have := shiftDown_any w _ (tl R n) c _ 0 p hs (Lim_take lR _) (by omega) (by omega) hp
    rw [Nat.mul_zero, Nat.zero_add, hv] at this
    refine this.mono ?_
    rintro e w' ⟨a, n1, c1, zs, rfl, h1, h2, h3, h4, h5, h6⟩
    exact ⟨a, n1, c1, zs, rfl, h1, h2, h3, h4, by omega, h6⟩

set_option maxRecDepth 100000 in
set_option maxHeartbeats 1000000 in
theorem divideLong_any (w : World) (ao bo : Option Addr) (n m capa capb : Nat) (xs ys : List Int) (hx : Sl w ao n capa xs) (hy : Sl w bo m capb ys) (lx : Lim xs) (ly : Lim ys) (ty : Top ys) (hn : n ≤ 1073741824) (hm : 2 ≤ m) (hmn : m ≤ n) :
    Calls Try.prog 121 #[.slice ao n capa, .slice bo m capb] w (RetDiv w (val xs / val ys) (val xs % val ys) (n - m + 1) (n + 1)) := by
  obtain ⟨gb, ob, rfl, hcb⟩ := hy.cells.at (k := m - 1) (by rw [hy.len]; omega)
  have hyl := hy.len
  have ht0 : ys.getD (m - 1) 0 ≠ 0 := by
    rcases ty with h | h
    · rw [h] at hyl; simp at hyl; omega
    · rwa [hyl] at h
  have hlt := Lim_getD ly (m - 1)
  obtain ⟨t, ht⟩ : ∃ t : Nat, ys.getD (m - 1) 0 = t := ⟨(ys.getD (m - 1) 0).toNat, by omega⟩
  rw [ht] at hcb ht0 hlt
  have hb1 : blen t ≤ 32 := blen_le_iff.2 (by omega)
  have hb2 : ¬ blen t ≤ 0 := by rw [blen_le_iff]; omega
  obtain ⟨p, hp⟩ : ∃ p, p + blen t = 32 := ⟨32 - blen t, by omega⟩
  have hp31 : p ≤ 31 := by omega
  have HLZ : Hid (∀ w1, Calls Try.prog 133 #[.int .u32 (t : Int)] w1 fun e w' => e = .returned (.int .i64 (p : Int)) ∧ w1 = w') := Lib.hid (fun w1 => lz32_any w1 t p (by omega) hp)
  have HUB : Hid (∀ w', Below w.heap.size w w' → Calls Try.prog 98 #[.slice (some ⟨gb, ob, none⟩) m capb, .int .i64 (p : Int)] w' (RetNat w' (val ys * 2 ^ p) (m + 1))) := Lib.hid (fun w' hb => by
    have := shiftUp_any w' _ m capb ys 0 p (hy.below hb) ly (by omega) (by omega) (by omega) (by omega)
    simpa using this)
  have HUA : Hid (∀ w', Below w.heap.size w w' → Calls Try.prog 98 #[.slice ao n capa, .int .i64 (p : Int)] w' (RetNat w' (val xs * 2 ^ p) (n + 1))) := Lib.hid (fun w' hb => by
    have := shiftUp_any w' _ n capa xs 0 p (hx.below hb) lx (by omega) (by omega) (by omega) (by omega)
    simpa using this)
  have HNT : Hid (∀ ds, Lim ds → Top ds → val ds = val ys * 2 ^ p → ds.length = m ∧ 2147483648 ≤ ds.getD (m - 1) 0 ∧ val ds < 4294967296 ^ m) := Lib.hid (fun ds ld td hv => by
    obtain ⟨k, rfl⟩ : ∃ k, m = k + 1 := ⟨m - 1, by omega⟩
    exact norm_top ly ty hyl ld td (by rw [Nat.add_sub_cancel] at ht; rw [ht, Int.toNat_natCast]; exact hp) hv)
  have hcy : capb ≤ 9223372036854775807 ∧ m ≤ capb := ⟨by have := hy.most; unfold maxLen at this; omega, hy.le⟩
  obtain ⟨hcy1, hcy2⟩ := hcy
  have hm1 : (m : Int) - 1 = ((m - 1 : Nat) : Int) := by omega
  obtain ⟨i0, hi, hz0, hz1, hz2⟩ := info_parts info_u32
  have hinf : (Try.prog.info? 99).map (·.size) = some 1 := by rw [hi]; simp [hz1]
  have HYL := Lib.hid hyl
  have HX := Lib.hid hx
  have hmi : (1 : Int) ≤ (m : Int) := by omega
  have hmni : (m : Int) ≤ (n : Int) := by omega
  obtain ⟨m1, hm1'⟩ : ∃ m1 : Nat, m = m1 + 1 := ⟨m - 1, by omega⟩
  rw [show m - 1 = m1 by omega] at hcb
  have hmm : ((m : Int) - 1) = (m1 : Int) := by omega
  have hmmt : ((m : Int) - 1).toNat = m1 := by omega
  have hmml : (m1 : Int) < (m : Int) := by omega
  have HM1 := Lib.hid hm1'
  have HW := Lib.hid hm1
  clear hm1' hm1
  have hyp := val_pos_of_top ly ty (by intro h; rw [h] at hyl; simp at hyl; omega)
  rw [hyl] at hyp
  have hP0 : (0 : Int) < 2 ^ p := Int.pow_pos (by omega)
  have hy0 : 0 < val ys := by have := pow_pos (m - 1); omega
  have HST : Hid (∀ R, Lim R → R.length = n + 1 → val R = val xs * 2 ^ p → val (R.drop (n - m + 1)) < val ys * 2 ^ p) := Lib.hid (fun R lR hl hA => by
    have h1 := val_lt lx
    rw [hx.len] at h1
    exact start_top lR hl (by omega) hmn hP0 hA h1 (Int.mul_le_mul_of_nonneg_right hyp (by omega)))
  have HP0 := Lib.hid hP0
  have HY0 := Lib.hid hy0
  clear hx hy hp hb1 hb2 ht hyl ht0 hlt hyp hP0 hy0
  go_enter Try.func121, Try.ntmps121
  go_wp2_with fail
  refine (HLZ.out _).mono ?_
  rintro e w' ⟨rfl, rfl⟩
  go_wp2_with fail
  refine (HUB.out _ (by go_grown)).mono ?_
  rintro e w1 ⟨dao, dn, dc, ds, rfl, hown, ld, td, hdv, -, hb1⟩
  obtain ⟨hdl, hd31, hdV⟩ := HNT.out ds ld td hdv
  have hsl := hown.sl
  obtain rfl : dn = m := by rw [← hsl.len]; exact hdl
  obtain ⟨gd, od, rfl, -⟩ := hsl.cells.at (k := 0) (by omega)
  have HD := Lib.hid hsl
  have HDV := Lib.hid hdv
  have HDB := Lib.hid hdV
  have HD31 := Lib.hid hd31
  have HB1 := Lib.hid hb1
  clear hown hdv hdl hdV hsl hd31 hb1
  go_wp2_with (at_make; refine wpList_make_full _ rfl _ _ 22 rfl w1.heap.size 99 i0 (.int .u32 0) 1 Try.underlying22 hi hz0 hz1 _ _ _ _ (n + 1) rfl rfl (by omega) (by omega) (by rw [hz2]; omega) (by unfold maxLen; omega) (by simp) ?_)
  intro w2 hown hgrow
  have hm1 := made_mine (n := n + 1) (by simpa using hown)
  have hb2 : Below w1.heap.size w1 w2 := Below.grown (.refl _ _) hgrow (Nat.le_refl _) (by intro g hg; cases hg)
  have HM2 := Lib.hid hm1
  have HB2 := Lib.hid hb2
  have hsz2 := hgrow.size
  clear hown hgrow hm1 hb2
  go_wp2_with fail
  refine (HUA.out _ (HB1.out.trans (HB2.out.mono HB1.out.size))).mono ?_
  rintro e w3 ⟨ao2, n2, c2, zs2, rfl, hown2, lz2, tz2, hv2, hn2, hb3⟩
  have hsl2 := hown2.sl
  have hm3 : Mine w1.heap.size w3 w1.heap.size (List.replicate (n + 1) 0) := HM2.out.kept hb3
  have HROW := Lib.hid hm3.row
  have hl2 := hsl2.len
  obtain ⟨cs, hcs⟩ : ∃ cs, cs = zs2.map (Value.int .u32) := ⟨_, rfl⟩
  have hcl : cs.length = Nat.min n2 (n + 1) := by rw [hcs, List.length_map, hl2]; exact (Nat.min_eq_left hn2).symm
  have h1c : ∀ v ∈ cs, v.oneCell' = true := by rw [hcs]; exact ints_oneCell _ _
  have hpos : 0 < cs.length → ∃ ad, ao2 = some ad ∧ ∀ j v, cs[j]? = some v → w3.cell? (ad.add j) = some v := by
    intro hp
    rcases hsl2.cells with h | ⟨b, o, h1, h2⟩
    · rw [hcs, h] at hp; simp at hp
    · refine ⟨_, h1, fun j v hj => ?_⟩
      rw [hcs, List.getElem?_map] at hj
      obtain ⟨z, hz, rfl⟩ := Option.map_eq_some_iff.1 hj
      obtain ⟨hjl, rfl⟩ := List.getElem?_eq_some_iff.1 hz
      have := h2 j hjl
      rw [getD_lt hjl] at this
      rw [Addr.add_lit]
      exact this
  have hsz3 : w1.heap.size ≤ w3.heap.size := Nat.le_trans HB2.out.size hb3.size
  have hc2 : c2 ≤ 9223372036854775807 ∧ n2 ≤ c2 := ⟨by have := hsl2.most; unfold maxLen at this; omega, hsl2.le⟩
  obtain ⟨hc2a, hc2b⟩ := hc2
  have HCS := Lib.hid hcs
  have HCL := Lib.hid hcl
  have H1C := Lib.hid h1c
  have HPOS := Lib.hid hpos
  have HV2 := Lib.hid hv2
  have HL2 := Lib.hid hl2
  have HB3 : Hid (Below w1.heap.size w1 w3) := Lib.hid (HB2.out.trans (hb3.mono HB2.out.size))
  clear hcs hcl h1c hpos hv2 hl2 hsl2 hm3 hb3 hown2
  go_wp2_with (with_reducible refine wpList_copy_splice (o := ⟨some 31, _, _, _, _, _⟩) rfl (.tmp 27) (.tmp 30) 22 22 rfl 99 Try.underlying22 hinf _ _ _ _ _ _ rfl rfl (w1.heap.size) 0 _ 99 HROW.out cs HCL.out (fun hp => ⟨rfl, HPOS.out hp⟩) ?hf H1C.out (w1.heap.size) w3 (Below.refl _ _) (Nat.le_refl _) ?_)
  case hf =>
    have h2 := HCL.out
    have h3 : Nat.min n2 (n + 1) ≤ n + 1 := Nat.min_le_right _ _
    (try simp only [List.length_map, List.length_replicate])
    omega
  intro w4 hrow4 hb4
  have hb4' : Below w1.heap.size w1 w4 := HB3.out.trans hb4
  obtain ⟨R0, hR0⟩ : ∃ R0, zs2 ++ List.replicate (n + 1 - n2) 0 = R0 := ⟨_, rfl⟩
  have hm4 : Mine w1.heap.size w4 w1.heap.size R0 := by
    refine Mine.ofRow ?_ (Nat.le_refl _) ?_
    · have h1 := hrow4.out
      rw [h1, ← hR0]
      congr 3
      have e : (List.replicate (n + 1) (Value.int .u32 0)).drop (0 + (zs2.map (Value.int .u32)).length) = (List.replicate (n + 1 - n2) (0 : Int)).map (Value.int .u32) := by
        rw [List.map_replicate, List.drop_replicate, List.length_map, HL2.out]
        congr 1
        omega
      rw [HCS.out, splice, List.map_append, ← e]
      simp
    · rw [← hR0, List.length_append, List.length_replicate, HL2.out]; unfold maxLen; omega
  have hRl : Lim R0 := by rw [← hR0]; exact Lim_append lz2 (Lim_replicate _)
  have hRv : val R0 = val xs * 2 ^ p := by rw [← hR0, val_append, val_replicate, ← HV2.out]; omega
  have hRn : R0.length = n + 1 := by rw [← hR0, List.length_append, List.length_replicate, HL2.out]; omega
  have HM4 := Lib.hid hm4
  have HB4 := Lib.hid hb4'
  have HRV := Lib.hid hRv
  have HRN := Lib.hid hRn
  clear hrow4 hb4 hb4' hR0 hm4 hRv hRn HROW HCS HCL H1C HPOS HV2 HL2 HB3 lz2 tz2
  go_wp2_with (at_make; refine wpList_make_full _ rfl _ _ 22 rfl w4.heap.size 99 i0 (.int .u32 0) 1 Try.underlying22 hi hz0 hz1 _ _ _ _ (n - dn + 1) rfl rfl (by omega) (by omega) (by rw [hz2]; omega) (by unfold maxLen; omega) (by simp) ?_)
  intro w5 hown hgrow
  have hm5 := made_mine (n := n - dn + 1) (by simpa using hown)
  have hb5 : Below w4.heap.size w4 w5 := Below.grown (.refl _ _) hgrow (Nat.le_refl _) (by intro g hg; cases hg)
  have HQ := Lib.hid hm5
  have hm45 : Mine w1.heap.size w5 w1.heap.size R0 := HM4.out.kept hb5
  have hlt45 : w1.heap.size < w4.heap.size := by
    have := (HM4.out.cell 0 (by rw [HRN.out]; omega)).1
    exact World.block_lt_of_cell? w4 _ this
  have HM5 := Lib.hid hm45
  have HB5 : Hid (Below w1.heap.size w1 w5) := Lib.hid (HB4.out.trans (hb5.mono HB4.out.size))
  clear hown hgrow hm5 hb5 hm45
  go_wp2_with fail
  obtain ⟨V, hVd⟩ : ∃ V, val ds = V := ⟨_, rfl⟩
  have HVD := Lib.hid hVd
  have hV0 : 0 < V := by rw [← hVd, HDV.out]; exact Int.mul_pos HY0.out HP0.out
  have HV0 := Lib.hid hV0
  have hVB : V < 4294967296 ^ dn := by rw [← hVd]; exact HDB.out
  have HVB := Lib.hid hVB
  have HA := HRV.out
  have hs0 := HST.out R0 hRl HRN.out HRV.out
  rw [← HDV.out, hVd] at hs0
  have HS0 := Lib.hid hs0
  obtain ⟨A, hA⟩ : ∃ A, val xs * 2 ^ p = A := ⟨_, rfl⟩
  have HAA := Lib.hid hA
  rw [hA] at HA
  have HA0 := Lib.hid HA
  obtain ⟨g1, hg1⟩ : ∃ g, w1.heap.size = g := ⟨_, rfl⟩
  obtain ⟨g2, hg2⟩ : ∃ g, w4.heap.size = g := ⟨_, rfl⟩
  rw [hg1] at HM5 hlt45
  rw [hg2] at HQ hlt45
  try rw [hg1]
  try rw [hg2]
  have HG1 := Lib.hid hg1
  have HG2 := Lib.hid hg2
  clear hVd hV0 hVB HA hs0 hA hg1 hg2
  go_loopw [10, 11, 12] (fun ii _ _ wr => ∃ (j : Nat) (R Q : List Int), j ≤ n - dn + 1 ∧ ii = .int .i64 ((j : Int) - 1) ∧ R.length = n + 1 ∧ Q.length = n - dn + 1 ∧ Lim R ∧ Lim Q ∧
      val R + V * (4294967296 ^ j * val (Q.drop j)) = A ∧ val (R.drop j) < V ∧ Mine g1 wr g1 R ∧ Mine g2 wr g2 Q ∧ Below w1.heap.size w1 wr) (fun ii _ _ _ => (intOf ii + 1).toNat)
  case atStart =>
    refine ⟨n - dn + 1, R0, List.replicate (n - dn + 1) 0, Nat.le_refl _, by go_num, HRN.out, List.length_replicate, hRl, Lim_replicate _, ?_, HS0.out, HM5.out, HQ.out, HB5.out⟩
    rw [List.drop_of_length_le (by rw [List.length_replicate]; exact Nat.le_refl _)]
    simp only [val, Int.mul_zero, Int.add_zero]
    exact HA0.out
  case round =>
    obtain ⟨j, R, Q, hj, rfl, hRl', hQl, lR, lQ, hval, hlt, hmR, hmQ, hbel⟩ := hrel
    have HV := Lib.hid hval
    have HLT := Lib.hid hlt
    have HMR := Lib.hid hmR
    have HMQ := Lib.hid hmQ
    have HBL := Lib.hid hbel
    have HRL := Lib.hid hRl'
    have HQL := Lib.hid hQl
    clear hval hlt hmR hmQ hbel hRl' hQl HA0 HS0 HM5 HQ HB5 HB4 HB2 HM2 hRl
    rcases j with _ | i
    · rw [show (((0 : Nat) : Int) - 1) = -1 from rfl]
      have hmq : Own g2 wr (some ⟨g2, 0, none⟩) (n - dn + 1) (n - dn + 1) Q := by have := HMQ.out; unfold Mine at this; rwa [HQL.out] at this
      have hmr : Own g1 wr (some ⟨g1, 0, none⟩) (n + 1) (n + 1) R := by have := HMR.out; unfold Mine at this; rwa [HRL.out] at this
      have hq0 : w.heap.size ≤ g2 ∧ w.heap.size ≤ g1 := by have := HB1.out.size; rw [HG1.out] at this; omega
      have hend := quot_end (X := val xs) (Y := val ys) (P := 2 ^ p) (R := val R) (Q := val Q) HP0.out HY0.out (by
        have h1 := HV.out
        rw [Int.pow_zero, Int.one_mul, List.drop_zero, ← HAA.out, ← HVD.out, HDV.out] at h1
        exact h1) (val_nonneg lR) (by
        have h1 := HLT.out
        rwa [List.drop_zero, ← HVD.out, HDV.out] at h1)
      have HTQ := Lib.hid (trim_any wr (some ⟨g2, 0, none⟩) (n - dn + 1) (n - dn + 1) Q HQL.out (Nat.le_refl _) (by unfold maxLen; omega) hmq.sl.cells)
      have HTR := Lib.hid (trim_any wr (some ⟨g1, 0, none⟩) (n + 1) (n + 1) R HRL.out (Nat.le_refl _) (by unfold maxLen; omega) hmr.sl.cells)
      have HSD := Lib.hid (shiftDown_trm g1 wr g1 (n + 1) (n + 1) p R hmr lR (by omega) (by omega))
      have HOQ := Lib.hid hmq
      have HEND := Lib.hid hend
      have HQ0 := Lib.hid hq0
      clear hmq hmr hend hq0
      go_wp2_with fail
      refine HTQ.out.mono ?_
      rintro e w' ⟨rfl, rfl⟩
      go_wp2_with fail
      refine HTR.out.mono ?_
      rintro e w' ⟨rfl, rfl⟩
      go_wp2_with fail
      refine HSD.out.mono ?_
      rintro e w' ⟨a3, n3, c3, z3, rfl, hown3, lz3, tz3, hz3, hn3, hb3⟩
      have HOWN3 := Lib.hid hown3
      have HB3 := Lib.hid hb3
      have HZ3 := Lib.hid hz3
      clear hown3 hb3 hz3
      go_wp2_with fail
      go_ret2
      have ho := ((HOQ.out.trimmed (tl Q (n - dn + 1)) (tl_le _ _)).mono HQ0.out.1).kept HB3.out
      have hbw : Below w.heap.size w wr := HB1.out.trans (HBL.out.mono HB1.out.size)
      refine ⟨_, _, _, Q.take (tl Q (n - dn + 1)), _, _, _, z3, rfl, ho, Lim_take lQ _, ?_, ?_, tl_le _ _, HOWN3.out.mono hbw.size, lz3, tz3, ?_, hn3, hbw.trans (HB3.out.mono hbw.size)⟩
      · have := trm_top Q
        rwa [trm, HQL.out] at this
      · rw [tl_val, List.take_of_length_le (by rw [HQL.out]; exact Nat.le_refl _)]
        exact HEND.out.1
      · rw [HZ3.out]
        exact HEND.out.2
    · rw [show (((i + 1 : Nat) : Int) - 1) = (i : Int) by omega]
      have hin : (i : Int) + dn + 1 ≤ n + 1 := by omega
      go_wp2_with fail
      rw [show i + dn + 1 - i = dn + 1 by omega]
      obtain ⟨pc, hpc⟩ : ∃ pc, n + 1 - i = pc := ⟨_, rfl⟩
      have hpc1 : dn + 1 ≤ pc := by omega
      have hpc2 : pc ≤ 9223372036854775807 := by omega
      rw [hpc]
      have hsg := HMR.out.seg (i := i) (l := dn + 1) (by rw [HRL.out]; unfold maxLen; omega) (by rw [HRL.out]; omega)
      rw [HRL.out, hpc] at hsg
      clear hpc
      obtain ⟨hrz, hru, hrl⟩ := rest_top lR (i := i) (m := dn) (by rw [HRL.out]; omega) HVB.out HLT.out
      obtain ⟨U, hU⟩ : ∃ U, val (seg R i (dn + 1)) = U := ⟨_, rfl⟩
      have hU0 : 0 ≤ U := by rw [← hU]; exact val_nonneg (seg_lim lR _ _)
      have hgs := guess_at wr g1 i dn pc gd od dc (seg R i (dn + 1)) ds hm hsg (seg_lim lR _ _) (HD.out.below HBL.out) ld (by omega) HD31.out (by rw [HVD.out]; exact hrl)
      rw [hU, HVD.out] at hgs
      have HU := Lib.hid hU
      obtain ⟨q, hq⟩ : ∃ q, U / V = q := ⟨_, rfl⟩
      rw [hq] at hgs
      have HQD := Lib.hid hq
      have hqq : 0 ≤ q := by rw [← hq]; exact Int.ediv_nonneg hU0 (by have := HV0.out; omega)
      clear hsg hrz hru hrl hU hq
      refine hgs.mono ?_
      clear hgs
      rintro e w' ⟨d, mm, rfl, rfl, d0, d1, hdq⟩
      have HDQ := Lib.hid hdq
      clear hdq
      have hsub := subtract_any g1 w1 (wr.drewN mm) g1 i dn pc (some ⟨gd, od, none⟩) dc R ds d (HMR.out.kept (below_drewN (Below.refl _ _) mm)) lR (by rw [HRL.out]; omega) hpc1 hpc2 (by omega) HD.out ld (below_drewN HBL.out mm) (by rw [HG1.out]; exact Nat.le_refl _) d0 d1
      rw [HU.out, HVD.out] at hsub
      have hVM : V ≤ 4294967296 ^ (dn + 1) := by have h1 := HVB.out; have h2 := pow_le (show dn ≤ dn + 1 by omega); omega
      have HVM := Lib.hid hVM
      clear hVM
      by_cases hn : U < d * V
      · rw [decide_eq_true hn] at hsub
        obtain ⟨hd1, hr1⟩ := digit_more (M := 4294967296 ^ (dn + 1)) hU0 HV0.out HQD.out HDQ.out HVM.out hn
        have HR1 := Lib.hid hr1
        have hdd : 1 ≤ d := by omega
        have HN := Lib.hid hn
        have HSUB := Lib.hid hsub
        have HDD := Lib.hid hd1
        clear hsub hn hr1 hd1
        go_wp2_with fail
        refine HSUB.out.mono ?_
        rintro e w2' ⟨R1, rfl, hm1, hsm1, lR1, hv1, hb1, hap1⟩
        have hR1l : R1.length = n + 1 := by rw [hsm1.1]; exact HRL.out
        have hadd := addBack_any g1 w1 w2' g1 i dn pc (some ⟨gd, od, none⟩) dc R1 ds hm1 lR1 (by rw [hR1l]; omega) hpc1 hpc2 (by omega) HD.out ld hb1 (by rw [HG1.out]; exact Nat.le_refl _)
        rw [hv1, HVD.out, HR1.out] at hadd
        have HADD := Lib.hid hadd
        have HSM1 := Lib.hid hsm1
        have HAP1 := Lib.hid hap1
        clear hadd hsm1 hap1 hm1 hv1 hb1 hR1l lR1
        go_wp2_with fail
        refine HADD.out.mono ?_
        rintro e w3' ⟨R2, rfl, hm2, hsm2, lR2, hv2, hb2, hap2⟩
        have hmq : Mine g2 w3' g2 Q := Mine.apart (show Mine g2 (wr.drewN mm) g2 Q from Own.kept HMQ.out (below_drewN (Below.refl _ _) mm)) (HAP1.out.trans hap2) (by omega)
        have HSM := Lib.hid (HSM1.out.trans hsm2)
        have HM := Lib.hid hm2
        have HR2 := Lib.hid hv2
        have HB2 := Lib.hid hb2
        obtain ⟨hcell, hfrz⟩ := hmq.cell i (by rw [HQL.out]; omega)
        have HMQ2 := Lib.hid hmq
        have hiq : i < n - dn + 1 := by omega
        clear hmq hsm2 hm2 hv2 hb2 hap2
        go_wp2_with fail
        go_roundw
        case rel =>
          have hls := long_step (R' := R2) (Q := Q) lR (by rw [HRL.out]; omega) (by rw [HQL.out]; exact hiq) HV0.out HVB.out HLT.out HV.out HSM.out (by rw [HU.out]; exact HR2.out)
          rw [HU.out, HQD.out] at hls
          have hge : w1.heap.size ≤ g2 := by rw [HG1.out]; omega
          have hb3 : Below w1.heap.size w1 (w3'.setCell ⟨g2, i, none⟩ (.int .u32 q)) := HB2.out.setCell hge _
          rw [HDD.out]
          refine ⟨i, R2, Q.set i q, by omega, by go_num, by rw [HSM.out.1]; exact HRL.out, by rw [List.length_set]; exact HQL.out, lR2, Lim_set lQ _ hqq (by have := HDD.out; omega), hls.1, hls.2, ?_, HMQ2.out.set _ _, hb3⟩
          exact Mine.apart (g := g2) HM.out (Apart.set (Apart.refl _ _) _ _) (by omega)
        case measure => simp [intOf]
      · rw [decide_eq_false hn] at hsub
        obtain ⟨hd1, hr1⟩ := digit_right (M := 4294967296 ^ (dn + 1)) hU0 HV0.out HQD.out HDQ.out HVM.out hn
        have HR1 := Lib.hid hr1
        have HN := Lib.hid hn
        rw [hr1] at hsub
        have HSUB := Lib.hid hsub
        have HDD := Lib.hid hd1
        clear hsub hn hr1 hd1
        go_wp2_with fail
        refine HSUB.out.mono ?_
        rintro e w3' ⟨R2, rfl, hm2, hsm2, lR2, hv2, hb2, hap2⟩
        have hmq : Mine g2 w3' g2 Q := Mine.apart (show Mine g2 (wr.drewN mm) g2 Q from Own.kept HMQ.out (below_drewN (Below.refl _ _) mm)) hap2 (by omega)
        have HSM := Lib.hid hsm2
        have HM := Lib.hid hm2
        have HR2 := Lib.hid hv2
        have HB2 := Lib.hid hb2
        obtain ⟨hcell, hfrz⟩ := hmq.cell i (by rw [HQL.out]; omega)
        have HMQ2 := Lib.hid hmq
        have hiq : i < n - dn + 1 := by omega
        clear hmq hsm2 hm2 hv2 hb2 hap2
        go_wp2_with fail
        go_roundw
        case rel =>
          have hls := long_step (R' := R2) (Q := Q) lR (by rw [HRL.out]; omega) (by rw [HQL.out]; exact hiq) HV0.out HVB.out HLT.out HV.out HSM.out (by rw [HU.out]; exact HR2.out)
          rw [HU.out, HQD.out] at hls
          have hge : w1.heap.size ≤ g2 := by rw [HG1.out]; omega
          have hb3 : Below w1.heap.size w1 (w3'.setCell ⟨g2, i, none⟩ (.int .u32 q)) := HB2.out.setCell hge _
          rw [HDD.out]
          refine ⟨i, R2, Q.set i q, by omega, by go_num, by rw [HSM.out.1]; exact HRL.out, by rw [List.length_set]; exact HQL.out, lR2, Lim_set lQ _ hqq (by have := HDD.out; omega), hls.1, hls.2, ?_, HMQ2.out.set _ _, hb3⟩
          exact Mine.apart (g := g2) HM.out (Apart.set (Apart.refl _ _) _ _) (by omega)
        case measure => simp [intOf]
end Go.Proofs.Ytpakfknacmcohaa
