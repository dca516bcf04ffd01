/- Root of the program's integers. -/
import Derived.Test.YtpakfknacmcohaaLongs
import Derived.Test.YtpakfknacmcohaaShift2
namespace Go.Proofs.Ytpakfknacmcohaa
open Go.RowKit
set_option autoImplicit false
set_option linter.unusedVariables false

/-- Newton's step keeps what lies above the root. -/
theorem root_step {X g : Nat} (hg : 0 < g) : X < ((g + X / g) / 2 + 1) * ((g + X / g) / 2 + 1) := by
  have h1 := Nat.div_add_mod X g
  have h2 := Nat.mod_lt X hg
  obtain ⟨q, hq⟩ : ∃ q, X / g = q := ⟨_, rfl⟩
  rw [hq] at h1 ⊢
  have h3 : X < g * (q + 1) := by rw [Nat.mul_add]; omega
  obtain ⟨n, hn⟩ : ∃ n, (g + q) / 2 = n := ⟨_, rfl⟩
  have h4 : g + q + 1 ≤ 2 * (n + 1) := by omega
  rw [hn]
  have h5 : (g + q + 1) * (g + q + 1) ≤ 2 * (n + 1) * (2 * (n + 1)) := Nat.mul_le_mul h4 h4
  have h6 : 4 * (g * (q + 1)) ≤ (g + q + 1) * (g + q + 1) := by
    rcases Nat.le_total g (q + 1) with h | h
    · obtain ⟨d, hd⟩ := Nat.exists_eq_add_of_le h
      rw [show g + q + 1 = g + (q + 1) by omega, hd]
      have : 0 ≤ d * d := Nat.zero_le _
      grind
    · obtain ⟨d, hd⟩ := Nat.exists_eq_add_of_le h
      rw [show g + q + 1 = g + (q + 1) by omega, hd]
      have : 0 ≤ d * d := Nat.zero_le _
      grind
  have h7 : 2 * (n + 1) * (2 * (n + 1)) = 4 * ((n + 1) * (n + 1)) := by grind
  omega
theorem root_end {X g : Nat} (hg : 0 < g) (h : g ≤ (g + X / g) / 2) : g * g ≤ X := by
  have h1 : g ≤ X / g := by omega
  exact Nat.le_trans (Nat.mul_le_mul_left g h1) (Nat.mul_div_le X g)
theorem root_start (X : Nat) : X < (2 ^ ((blen X + 1) / 2) + 1) * (2 ^ ((blen X + 1) / 2) + 1) := by
  have h1 := blen_lt X
  have h2 : 2 ^ blen X ≤ 2 ^ ((blen X + 1) / 2) * 2 ^ ((blen X + 1) / 2) := by
    rw [← Nat.pow_add]
    exact Nat.pow_le_pow_right (by omega) (by omega)
  have h3 : 2 ^ ((blen X + 1) / 2) * 2 ^ ((blen X + 1) / 2) ≤ (2 ^ ((blen X + 1) / 2) + 1) * (2 ^ ((blen X + 1) / 2) + 1) := Nat.mul_le_mul (by omega) (by omega)
  omega

/-- The value of the limbs that a slice value stands for. -/
def rowVal (w : World) : Value → Nat
  | .slice (some a) n _ => match w.heap[a.block]? with
    | some (.cells cur _ _) => (val ((cur.toList.take n).map intOf)).toNat
    | _ => 0
  | _ => 0
theorem map_intOf (zs : List Int) : (zs.map (Value.int .u32)).map intOf = zs := by
  rw [List.map_map]
  conv => rhs; rw [← List.map_id zs]
  exact List.map_congr_left (fun z _ => rfl)
theorem Own.rowVal {B : Nat} {w : World} {ao : Option Addr} {n cap : Nat} {zs : List Int} (h : Own B w ao n cap zs) : Go.Proofs.Ytpakfknacmcohaa.rowVal w (.slice ao n cap) = (val zs).toNat := by
  rcases h.2 with ⟨hv, h0⟩ | ⟨g, c, cur, hv, hbg, hg, h1, h2, h3, h4⟩
  · simp only [Value.slice.injEq] at hv
    obtain ⟨rfl, _, _⟩ := hv
    have hl := h.sl.len
    have : zs = [] := List.eq_nil_of_length_eq_zero (by omega)
    rw [this]
    rfl
  · simp only [Value.slice.injEq] at hv
    obtain ⟨rfl, _, _⟩ := hv
    have hl := h.sl.len
    rw [Nat.mul_one] at h4
    simp only [Go.Proofs.Ytpakfknacmcohaa.rowVal, hg]
    rw [h4, map_intOf]

/-- A root in limbs of the call's own was returned. -/
def RetRoot (w : World) (X : Nat) (L : Nat) (e : Ending) (w' : World) : Prop := ∃ g : Nat, g * g ≤ X ∧ X < (g + 1) * (g + 1) ∧ RetNat w g L e w'

set_option maxRecDepth 100000 in
set_option maxHeartbeats 1000000 in
theorem root_any (w : World) (ao : Option Addr) (n capa : Nat) (xs : List Int) (X : Nat) (hx : Sl w ao n capa xs) (lx : Lim xs) (tx : Top xs) (hX : val xs = X) (h0 : 0 < X) (hn : n ≤ 1048576) :
    Calls Try.prog 96 #[.slice ao n capa] w (RetRoot w X (n + 2)) := by
  obtain ⟨L, hL⟩ : ∃ L, blen X = L := ⟨_, rfl⟩
  have HBL : Hid (∀ w1, Below w.heap.size w w1 → Calls Try.prog 77 #[.slice ao n capa] w1 (RetQ w1 (.int .i64 (L : Int)))) := Lib.hid (fun w1 hb => by
    have := bitlen_any w1 ao n capa xs (hx.below hb) lx tx (by omega)
    rwa [hX, Int.toNat_natCast, hL] at this)
  have hLn : L ≤ 32 * n := by
    have := len_of_blen lx tx
    rwa [hX, Int.toNat_natCast, hL, hx.len] at this
  obtain ⟨s, hs⟩ : ∃ s, (L + 1) / 2 = s := ⟨_, rfl⟩
  have HX := Lib.hid hx
  have HXV := Lib.hid hX
  have hst : X < (2 ^ s + 1) * (2 ^ s + 1) := by rw [← hs, ← hL]; exact root_start X
  have HST := Lib.hid hst
  have hs2 : ((L : Int) + 1) / 2 = (s : Int) := by omega
  have hs3 : ((L : Int) + 1).tdiv 2 = (s : Int) := by rw [Int.tdiv_eq_ediv_of_nonneg (by omega)]; exact hs2
  have HL := Lib.hid hL
  have HS := Lib.hid hs
  have hLb : (L : Int) + 1 ≤ 9223372036854775807 := by omega
  clear hx hX hst hL hs
  have HSU : Hid (∀ w', w'.heap[w.heap.size]? = some (.cells #[.int .u32 1] 99 (0, 0)) → Calls Try.prog 98 #[.slice (some ⟨w.heap.size, 0, none⟩) 1 1, .int .i64 (s : Int)] w' (RetNat w' (2 ^ s) (1 + s / 32 + 1))) := Lib.hid (fun w' hw => by
    have hsl : Sl w' (some ⟨w.heap.size, 0, none⟩) 1 1 [1] := by
      refine ⟨rfl, Nat.le_refl _, by unfold maxLen; omega, by simp, .inr ⟨_, 0, rfl, fun i hi => ?_⟩⟩
      obtain rfl : i = 0 := by simp at hi; omega
      simp [World.cell?, hw]
    have := shiftUp_any w' _ 1 1 [1] (s / 32) (s % 32) hsl (by intro z hz; simp at hz; subst hz; omega) (by omega) (by omega) (Nat.mod_lt _ (by omega)) (by omega)
    rw [Nat.div_add_mod] at this
    simpa [val] using this)
  have hs32 : 1 + s / 32 + 1 ≤ n + 2 := by omega
  go_enter Try.func96, Try.ntmps96
  go_wp2_with fail
  refine (HBL.out _ (by go_grown)).mono ?_
  rintro e w' ⟨rfl, q, rfl⟩
  have hw : ((w.alloc (.cells #[.int .u32 1] 99 (0, 0))).drewN q).heap[w.heap.size]? = some (.cells #[.int .u32 1] 99 (0, 0)) := ((below_drewN (Below.refl (w.heap.size + 1) (w.alloc (.cells #[.int .u32 1] 99 (0, 0)))) q).block w.heap.size (by omega)).trans (heap_alloc_new w _)
  have HW := Lib.hid hw
  have hbA : Below w.heap.size w ((w.alloc (.cells #[.int .u32 1] 99 (0, 0))).drewN q) := below_drewN ((Below.refl _ _).alloc (Nat.le_refl _) _) q
  have HBA := Lib.hid hbA
  clear hw hbA
  go_wp2_with fail
  refine (HSU.out _ HW.out).mono ?_
  rintro e w1 ⟨ga, gn, gc, gs, rfl, hown, lg, tg, hgv, hgn, hb1⟩
  have hbw := HBA.out.trans (hb1.mono HBA.out.size)
  have HO := Lib.hid (hown.mono HBA.out.size)
  have HBW := Lib.hid hbw
  have HGV := Lib.hid hgv
  clear hown hb1 hbw hgv
  go_wp2_with fail
  go_loopw [3, 4, 5, 6] (fun gv _ _ _ wr => ∃ (G : Nat) (ga : Option Addr) (gn gc : Nat) (gs : List Int), gv = .slice ga gn gc ∧ Own w.heap.size wr ga gn gc gs ∧ Lim gs ∧ Top gs ∧ val gs = G ∧ gn ≤ n + 2 ∧ 0 < G ∧
      X < (G + 1) * (G + 1) ∧ Below w.heap.size w wr) (fun gv _ _ _ wr => rowVal wr gv)
  case atStart => exact ⟨2 ^ s, ga, gn, gc, gs, rfl, HO.out, lg, tg, by rw [HGV.out]; simp, by omega, Nat.two_pow_pos s, HST.out, HBW.out⟩
  case round =>
    clear HO HBW HGV HW HBA lg tg hgn
    obtain ⟨G, ha, hn', hc, hs', rfl, hown, lh, th, hG, hhn, hG0, hXG, hbel⟩ := hrel
    have hh1 : 1 ≤ hn' := by
      rcases Nat.eq_zero_or_pos hn' with h | h
      · exfalso
        have h1 := hown.sl.len
        rw [h] at h1
        rw [List.eq_nil_of_length_eq_zero h1] at hG
        simp [val] at hG
        omega
      · exact h
    have hdv := divide_any wr ao ha n hn' capa hc xs hs' (HX.out.below hbel) hown.sl lx lh tx th (by omega) hh1
    rw [HXV.out, hG] at hdv
    have HDV := Lib.hid hdv
    have HO := Lib.hid hown
    have HGG := Lib.hid hG
    have HXG := Lib.hid hXG
    have HBEL := Lib.hid hbel
    clear hdv hown hG hXG hbel
    go_wp2_with fail
    refine HDV.out.mono ?_
    rintro e w2 ⟨a1, n1, c1, z1, a2, n2, c2, z2, rfl, o1, l1, t1, v1, b1, o2, l2, t2, v2, b2, hb2⟩
    have HO1 := Lib.hid o1
    have HV1 := Lib.hid v1
    have HB2 := Lib.hid hb2
    have hsm := sum_any w2 ha a1 hn' n1 hc c1 hs' z1 (HO.out.kept hb2).sl o1.sl lh l1 (by omega) (by omega)
    rw [HGG.out, v1] at hsm
    have HSM := Lib.hid hsm
    clear o1 o2 v1 v2 hb2 hsm t1 l2 t2
    go_wp2_with fail
    refine HSM.out.mono ?_
    rintro e w3 ⟨a3, n3, c3, z3, rfl, o3, l3, t3, v3, b3, hb3⟩
    have hn3 : 0 < n3 := by
      rcases Nat.eq_zero_or_pos n3 with h | h
      · exfalso
        have h1 := o3.sl.len
        rw [h] at h1
        rw [List.eq_nil_of_length_eq_zero h1] at v3
        simp only [val] at v3
        have : (0 : Int) ≤ (X : Int) / (G : Int) := Int.ediv_nonneg (by omega) (by omega)
        omega
      · exact h
    have hmax : max hn' n1 ≤ n + 2 := by omega
    have hsd := shiftDown_any w3 a3 n3 c3 z3 0 1 o3.sl l3 (by omega) hn3 (by omega)
    rw [v3] at hsd
    have hv : (((G : Int) + (X : Int) / (G : Int)) / 2 ^ (32 * 0 + 1)) = (((G + X / G) / 2 : Nat) : Int) := by simp
    rw [hv] at hsd
    have HSD : Hid (Calls Try.prog 99 #[.slice a3 n3 c3, .int .i64 1] w3 (RetNat w3 (((G + X / G) / 2 : Nat) : Int) n3)) := Lib.hid (by simpa using hsd)
    have HB3 := Lib.hid hb3
    clear hsd hv o3 v3 hb3 l3 t3
    obtain ⟨N, hN⟩ : ∃ N, (G + X / G) / 2 = N := ⟨_, rfl⟩
    have HN := Lib.hid hN
    rw [hN] at HSD
    clear hN
    go_wp2_with fail
    refine HSD.out.mono ?_
    rintro e w4 ⟨a4, n4, c4, z4, rfl, o4, l4, t4, v4, b4, hb4⟩
    have hbw4 : Below wr.heap.size wr w4 := (HB2.out.trans (HB3.out.mono HB2.out.size)).trans (hb4.mono (Nat.le_trans HB2.out.size HB3.out.size))
    have hok := HO.out.kept hbw4
    have hcp := compare_any w4 a4 ha n4 hn' c4 hc z4 hs' o4.sl hok.sl l4 lh t4 th
    rw [v4, HGG.out] at hcp
    have HO4 := Lib.hid (o4.mono (Nat.le_trans HBEL.out.size (Nat.le_trans HB2.out.size HB3.out.size)))
    have HV4 := Lib.hid v4
    have HOK := Lib.hid hok
    have HB4 : Hid (Below w.heap.size w w4) := Lib.hid (HBEL.out.trans (hbw4.mono HBEL.out.size))
    by_cases hlt : N < G
    · rw [cmpI_lt (by omega)] at hcp
      have HCP := Lib.hid hcp
      have hlen : n4 ≤ hn' := by
        have h1 := len_le_of_val l4 lh t4 (by rw [v4, HGG.out]; omega)
        rwa [o4.sl.len, hok.sl.len] at h1
      clear hcp o4 v4 hok hb4 hbw4
      go_wp2_with fail
      refine HCP.out.mono ?_
      rintro e w5 ⟨rfl, q5, rfl⟩
      have hb5 := below_drewN HB4.out q5
      have ho5 := HO4.out.kept (below_drewN (Below.refl _ _) q5)
      have HB5 := Lib.hid hb5
      have HO5 := Lib.hid ho5
      clear hb5 ho5
      go_wp2_with fail
      go_roundw
      case rel => exact ⟨N, a4, n4, c4, z4, rfl, HO5.out, l4, t4, HV4.out, by omega, (by rw [← HN.out]; by_cases h1 : G = 1; (subst h1; rw [Nat.div_one]; omega); (generalize X / G = y; omega)), by rw [← HN.out]; exact root_step hG0, HB5.out⟩
      case measure =>
        rw [HO5.out.rowVal, HO.out.rowVal, HV4.out, HGG.out]
        simpa using hlt
    · have hc0 : 0 ≤ cmpI (N : Int) (G : Int) := by unfold cmpI; rw [if_neg (by omega)]; split <;> omega
      generalize cmpI (N : Int) (G : Int) = cc at hc0 hcp
      have HCP := Lib.hid hcp
      clear hcp o4 v4 hok hb4 hbw4
      go_wp2_with fail
      refine HCP.out.mono ?_
      rintro e w5 ⟨rfl, q5, rfl⟩
      have hb5 := below_drewN HB4.out q5
      have ho5 := HOK.out.kept (below_drewN (Below.refl _ _) q5)
      have HB5 := Lib.hid hb5
      have HO5 := Lib.hid ho5
      clear hb5 ho5
      go_wp2_with fail
      go_ret
      exact ⟨G, root_end hG0 (by rw [HN.out]; omega), HXG.out, ha, hn', hc, hs', rfl, HO5.out, lh, th, HGG.out, hhn, HB5.out⟩
end Go.Proofs.Ytpakfknacmcohaa
