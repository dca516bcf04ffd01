/- Text of the reference. -/
import Derived.Test.YtkifebmlojdjnaaParse4
import Derived.Test.YtkifebmlojdjnaaTexts
namespace Go.Proofs.Ytkifebmlojdjnaa
open Go.RowKit
set_option autoImplicit false
set_option linter.unusedVariables false

theorem letter_cut : ∀ k : Fin 36, (letterBytes.extract k.val (k.val + 1)).data = (strOfNums [letter (k.val : Int)]).data := by decide +kernel

theorem str_app (a b : List Int) : strOfNums a ++ strOfNums b = strOfNums (a ++ b) := by
  apply ByteArray.ext
  apply Array.toList_inj.1
  rw [ByteArray.toList_data_append, strOfNums_data, strOfNums_data, strOfNums_data, List.map_append]

theorem quot_step {zs qs : List Int} {j : Nat} {x r rs : Int} (hr : 0 < r) (hj : j < zs.length) (hq : j < qs.length) (hx : zs.getD j 0 = x) (h : dval 65536 (zs.drop (j + 1)) = dval 65536 (qs.drop (j + 1)) * r + rs) :
    dval 65536 (zs.drop j) = dval 65536 ((qs.set j ((rs * 65536 + x) / r)).drop j) * r + (rs * 65536 + x) % r := by
  have e1 : zs.drop j = x :: zs.drop (j + 1) := by rw [List.drop_eq_getElem_cons hj, ← hx, getD_lt hj]
  have e2 : (qs.set j ((rs * 65536 + x) / r)).drop j = ((rs * 65536 + x) / r) :: qs.drop (j + 1) := by
    rw [List.drop_eq_getElem_cons (by rw [List.length_set]; exact hq), List.getElem_set_self, List.drop_set_of_lt (by omega)]
  rw [e1, e2]
  simp only [dval]
  rw [h]
  have := Int.emod_add_mul_ediv (rs * 65536 + x) r
  grind

theorem digs_len {r : Nat} (h2 : 2 ≤ r) (k : Nat) : ∀ V, V < 2 ^ k → (digs r V).length ≤ k := by
  induction k with
  | zero => intro V h; have : V = 0 := by simpa using h
            rw [this, digs_zero]; simp
  | succ k ih =>
    intro V h
    by_cases h0 : V = 0
    · rw [h0, digs_zero]; simp
    · rw [digs_pos h2 h0, List.length_cons]
      have h1 : V / r < 2 ^ k := by
        rw [Nat.div_lt_iff_lt_mul (by omega)]
        rw [Nat.pow_succ] at h
        exact Nat.lt_of_lt_of_le h (Nat.mul_le_mul_left _ h2)
      have := ih _ h1
      omega

theorem nat_lt_pow {A b n : Nat} (h : (A : Int) < (b : Int) ^ n) : A < b ^ n := by
  rw [← Int.natCast_pow] at h
  exact Int.ofNat_lt.1 h

theorem digs_bound {r A n : Nat} {xs : List Int} (h2 : 2 ≤ r) (hd : Dig 65536 xs) (hl : xs.length = n) (hA : dval 65536 xs = A) : (digs r A).length ≤ 16 * n := by
  have h := dval_lt (r := 65536) (by omega) hd
  rw [hA, hl] at h
  have h1 : A < 65536 ^ n := nat_lt_pow (b := 65536) h
  refine digs_len h2 _ _ ?_
  rw [Nat.pow_mul]
  exact h1

set_option maxRecDepth 100000 in
set_option maxHeartbeats 2000000 in
theorem rtext_any (w : World) (nx : Bool) (ao : Option Addr) (n cap : Nat) (xs : List Int) (x : Int) (r : Nat) (hx : RefAt w nx ao n cap xs x) (hn : n ≤ 4294967296) (h2 : 2 ≤ r) (h36 : r ≤ 36) :
    Calls Try.prog 61 #[.agg #[.bool nx, .slice ao n cap], .int .i64 r] w (RetText w (textOf r x)) := by
  have hr1 : ¬ 36 < (r : Int) := by omega
  have hr2 : ¬ (r : Int) < 2 := by omega
  obtain ⟨A, hA⟩ : ∃ A : Nat, dval 65536 xs = A := ⟨(dval 65536 xs).toNat, by have := dval_nonneg (r := 65536) (by omega) hx.lim; omega⟩
  have hsg := hx.sign
  have hbound : (digs r A).length ≤ 68719476736 := by have := digs_bound h2 hx.lim hx.sl.len hA; omega
  have HBD := Lib.hid hbound
  clear hbound
  have hxv := hx.val
  have HX := Lib.hid hx
  have hlim := hx.lim
  have htop := hx.top
  have HTXT : Hid (textOf r x = (if nx then [45] else []) ++ (if A = 0 then [48] else ((digs r A).map letter).reverse)) := Lib.hid (by
    have hnx := neg_iff hx
    rw [hA] at hxv
    unfold textOf
    by_cases h0 : A = 0
    · subst h0
      have hx0 : x = 0 := by rw [hxv]; cases nx <;> simp [sgn]
      rw [hx0] at hnx
      rw [hx0, hnx]
      simp
    · cases nx
      · have e : x = A := by rw [hxv]; rfl
        rw [if_neg (by omega), if_neg (by omega), if_neg h0, e]
        simp
      · have e : x = -A := by rw [hxv]; rfl
        rw [if_neg (by omega), if_pos (by omega), if_neg h0, e]
        simp)
  clear hx hsg hxv
  obtain ⟨i0, hi, hz0, hz1, hz2⟩ := info_parts info_int
  go_enter Try.func61, Try.ntmps61
  go_wp2_with fail
  have HA := Lib.hid hA
  clear hA
  go_loopg [6, 7] A (fun gk ss d wr => ∃ (V : Nat) (ao : Option Addr) (n cap : Nat) (zs : List Int) (done : List Int), ss = .string (strOfNums (done.map letter).reverse) ∧ d = .slice ao n cap ∧ gk = V ∧ SlI wr ao n cap zs ∧ Dig 65536 zs ∧ Top zs ∧
      dval 65536 zs = V ∧ digs r A = done ++ digs r V ∧ n ≤ 4294967296 ∧ Below w.heap.size w wr ∧ wr.cell? ⟨w.heap.size, 0, none⟩ = some (.bool nx))
  case atStart => exact ⟨A, ao, n, cap, xs, [], rfl, rfl, rfl, HX.out.sl.below (by go_grown), hlim, htop, HA.out, by simp, hn, by go_grown, by first | assumption | (simp [World.cell?_alloc_some, *]; done)⟩
  case round =>
    obtain ⟨V, ao, n, cap, zs, done, rfl, rfl, hgk, hsl, hdig, htp, hval, hdg, hn, hbel, hbox⟩ := hrel
    have HS := Lib.hid hsl
    have HV := Lib.hid hval
    have HG := Lib.hid hgk
    have HDG := Lib.hid hdg
    have HBX := Lib.hid hbox
    have HB := Lib.hid hbel
    have hsz := hbel.size
    have hle := hsl.le
    have hmost := hsl.most
    have HL : Hid (zs.length = n) := Lib.hid hsl.len
    unfold maxLen at hmost
    rename World => wo
    clear hsl hval hgk hdg hbox hbel
    by_cases hn0 : 0 < n
    · have hni : (0 : Int) < n := by omega
      go_wp2_with (at_make; refine wpList_make_full _ rfl _ _ 29 rfl wo.heap.size 3 i0 (.int .i64 0) 1 Try.underlying29 hi hz0 hz1 _ _ _ _ n rfl rfl rfl rfl (by rw [hz2]; omega) (by unfold maxLen; omega) (Nat.le_refl _) ?_)
      intro w1 hown hgrow
      have ho1 : OwnI wo.heap.size w1 (some ⟨wo.heap.size, 0, none⟩) n n (List.replicate n 0) := by
        have h := made_mineI (n := n) (by simpa using hown)
        unfold MineI at h
        simpa using h
      have hb1 : Below wo.heap.size wo w1 := (Below.refl _ _).grown hgrow (Nat.le_refl _) (by intro k hk; cases hk)
      have HO1 := Lib.hid ho1
      have HB1 := Lib.hid hb1
      have hrn0 : (0 : Int) < r := by omega
      have hrnz : ¬ (r : Int) = 0 := by omega
      clear hown hgrow ho1 hb1
      go_wp2_with fail
      go_loopw [9, 10] (fun rest i w3 => ∃ (j : Nat) (rs : Int) (qs : List Int), j ≤ n ∧ i = .int .i64 ((j : Int) - 1) ∧ rest = .int .i64 rs ∧ 0 ≤ rs ∧ rs < r ∧ qs.length = n ∧ Dig 65536 qs ∧
          dval 65536 (zs.drop j) = dval 65536 (qs.drop j) * r + rs ∧ OwnI wo.heap.size w3 (some ⟨wo.heap.size, 0, none⟩) n n qs ∧ Below wo.heap.size wo w3) (fun _ i _ => (intOf i + 1).toNat)
      case atStart => exact ⟨n, 0, _, Nat.le_refl _, rfl, rfl, by omega, by omega, List.length_replicate, by intro z hz; rw [List.mem_replicate] at hz; omega, by rw [List.drop_of_length_le (by rw [HL.out]; exact Nat.le_refl _), List.drop_of_length_le (by rw [List.length_replicate]; exact Nat.le_refl _)]; simp [dval], HO1.out, HB1.out⟩
      case round =>
        obtain ⟨j, rs, qs, hj, rfl, rfl, hrs0, hrs1, hql, hqd, hvq, hoq, hbq⟩ := hrel
        have HOQ := Lib.hid hoq
        have HVQ := Lib.hid hvq
        have HQL := Lib.hid hql
        have HBQ := Lib.hid hbq
        clear hoq hvq hql hbq
        by_cases hj0 : 0 < j
        · obtain ⟨k, rfl⟩ : ∃ k, j = k + 1 := ⟨j - 1, by omega⟩
          obtain ⟨g, o, rfl, hc⟩ := (HS.out.below HBQ.out).cells.at (k := k) (by rw [HL.out]; omega)
          obtain ⟨g2, hg2, hBg, hc2, hfz⟩ := HOQ.out.at (j := k) (by omega)
          obtain rfl : wo.heap.size = g2 := by simpa using hg2
          obtain ⟨x, hx⟩ : ∃ x, zs.getD k 0 = x := ⟨_, rfl⟩
          rw [hx] at hc
          have hlx := Dig_getD (by omega : (0 : Int) < 65536) hdig k
          rw [hx] at hlx
          obtain ⟨hx0, hx1⟩ := hlx
          have HXX := Lib.hid hx
          have hkj : ((k + 1 : Nat) : Int) - 1 = k := by omega
          have hk0 : (0 : Int) ≤ k := by omega
          have hkn : (k : Int) < n := by omega
          have hkn2 : k < n := by omega
          have p1 : rs ≤ 35 := by omega
          have p2 : rs * 65536 + x ≤ 2359295 := by omega
          have p3 : 0 ≤ rs * 65536 + x := by omega
          have p4 : (rs * 65536 + x) / r < 65536 := Int.ediv_lt_of_lt_mul (by omega) (by omega)
          have p5 : 0 ≤ (rs * 65536 + x) / r := Int.ediv_nonneg (by omega) (by omega)
          have p6 : 0 ≤ (rs * 65536 + x) % r := Int.emod_nonneg _ (by omega)
          have p7 : (rs * 65536 + x) % r < r := Int.emod_lt_of_pos _ (by omega)
          rw [hkj]
          clear hx hg2 hkj
          go_wp2_with fail
          go_roundw
          case rel =>
            have hql := HQL.out
            have hzl := HL.out
            exact ⟨k, (rs * 65536 + x) % r, qs.set k ((rs * 65536 + x) / r), by omega, by go_num, rfl, p6, p7, by rw [List.length_set]; exact hql, Dig_set hqd k p5 p4, quot_step (by omega) (by omega) (by omega) HXX.out HVQ.out, HOQ.out.set k _, HBQ.out.setCell hBg _⟩
          case measure => simp [intOf]; first | done | omega
        · obtain rfl : j = 0 := by omega
          go_wp2_with fail
          refine (rtrim_own _ _ _ _ _ HOQ.out).mono ?_
          rintro e w4 ⟨rfl, rfl⟩
          obtain ⟨t, rfl⟩ := Int.eq_ofNat_of_zero_le hrs0
          have ht36 : t < 36 := by omega
          have hvq := HVQ.out
          rw [List.drop_zero, List.drop_zero, HV.out] at hvq
          have hq0 := dval_nonneg (r := 65536) (by omega) hqd
          obtain ⟨Q, hQ⟩ := Int.eq_ofNat_of_zero_le hq0
          have hVQ : V = Q * r + t := by rw [hQ] at hvq; exact_mod_cast hvq
          have hVpos : V ≠ 0 := by
            intro h0
            have hne : zs ≠ [] := by intro h; have := HL.out; rw [h] at this; simp at this; omega
            have h1 := dval_pos_of_top (r := 65536) (by omega) hdig htp hne
            have h2 := rpow_pos (r := 65536) (by omega) (zs.length - 1)
            have h3 := HV.out
            omega
          have htr : t < r := by omega
          have hmod : V % r = t := by rw [hVQ, Nat.mul_add_mod_self_right, Nat.mod_eq_of_lt htr]
          have hdiv : V / r = Q := by rw [hVQ, Nat.add_comm, Nat.add_mul_div_right _ _ (by omega), Nat.div_eq_of_lt htr, Nat.zero_add]
          have hletter : letterBytes.extract t (t + 1) = strOfNums [letter (t : Int)] := ByteArray.ext (letter_cut ⟨t, ht36⟩)
          have HLT := Lib.hid hletter
          have HVQ2 := Lib.hid hVQ
          have HQ := Lib.hid hQ
          have HMD := Lib.hid hmod
          have HDV := Lib.hid hdiv
          have hss : (strOfNums (List.map letter done).reverse).size ≤ 68719476736 := by
            have h1 := HBD.out
            rw [HDG.out, List.length_append] at h1
            rw [strOfNums_size, List.length_reverse, List.length_map]
            omega
          obtain ⟨S, hS⟩ : ∃ S, strOfNums (List.map letter done).reverse = S := ⟨_, rfl⟩
          rw [hS] at hss ⊢
          have HS9 := Lib.hid hS
          clear hvq hQ hVQ hletter hmod hdiv hS
          go_wp2_with fail
          go_roundg Q
          case measure =>
            have h1 := HDV.out
            have h2 := HG.out
            have h3 : V / r < V := Nat.div_lt_self (by omega) (by omega)
            omega
          case rel =>
            have hql := HQL.out
            have hle2 : tl qs n ≤ n := tl_le qs n
            have htake : qs.take (tl qs n) = trm qs := by unfold trm; rw [hql]
            refine ⟨Q, some ⟨wo.heap.size, 0, none⟩, tl qs n, n, qs.take (tl qs n), done ++ [(t : Int)], ?_, rfl, rfl, (HOQ.out.trimmed _ hle2).sl, Dig_take hqd _, ?_, ?_, ?_, by omega, HB.out.trans (HBQ.out.mono hsz), ?_⟩
            · rw [← HS9.out]
              show Value.string (letterBytes.extract t (t + 1) ++ _) = _
              rw [HLT.out, str_app, List.map_append, List.reverse_append]
              rfl
            · rw [htake]; exact trm_top qs
            · rw [htake, trm_dval]; exact HQ.out
            · rw [HDG.out, digs_pos h2 hVpos, HMD.out, HDV.out, List.append_assoc]; rfl
            · exact (HBQ.out.cell (World.block_lt_of_cell? _ _ HBX.out)).trans HBX.out
    · obtain rfl : n = 0 := by omega
      have hni : ¬ (0 : Int) < (0 : Nat) := by omega
      have hz : zs = [] := List.eq_nil_of_length_eq_zero HL.out
      have hV0 : V = 0 := by have h := HV.out; rw [hz] at h; simp [dval] at h; omega
      have hdn : digs r A = done := by rw [HDG.out, hV0, digs_zero, List.append_nil]
      have c0 := HBX.out
      by_cases hA0 : A = 0
      · have hd0 : done = [] := by rw [← hdn, hA0, digs_zero]
        have he : (strOfNums (List.map letter done).reverse).toList.isEmpty = true := by rw [hd0, ByteArray.toList_eq, strOfNums_data]; rfl
        have HT2 : Hid (textOf r x = (if nx then [45] else []) ++ [48]) := Lib.hid (by rw [HTXT.out, if_pos hA0])
        obtain ⟨S, hS⟩ : ∃ S, strOfNums (List.map letter done).reverse = S := ⟨_, rfl⟩
        rw [hS] at he ⊢
        clear hdn hA0 hV0 hz hd0 hS
        cases nx
        · go_wp2_with fail
          go_ret2
          exact ⟨by rw [HT2.out]; rfl, HB.out⟩
        · go_wp2_with fail
          go_ret2
          exact ⟨by rw [HT2.out]; rfl, HB.out⟩
      · have hd0 : done ≠ [] := by rw [← hdn, digs_pos h2 hA0]; simp
        have he : (strOfNums (List.map letter done).reverse).toList.isEmpty = false := by
          rw [ByteArray.toList_eq, strOfNums_data]
          cases done with
          | nil => exact absurd rfl hd0
          | cons a b => simp
        have HTF : Hid (nx = false → strOfNums (textOf r x) = strOfNums (List.map letter done).reverse) := Lib.hid (by intro h; rw [HTXT.out, if_neg hA0, hdn, h]; rfl)
        have HTT : Hid (nx = true → strOfNums (textOf r x) = strOfNums [45] ++ strOfNums (List.map letter done).reverse) := Lib.hid (by intro h; rw [HTXT.out, if_neg hA0, hdn, h, str_app]; rfl)
        have hss : (strOfNums (List.map letter done).reverse).size ≤ 68719476736 := by
          have h1 := HBD.out
          rw [hdn] at h1
          rw [strOfNums_size, List.length_reverse, List.length_map]
          omega
        obtain ⟨S, hS⟩ : ∃ S, strOfNums (List.map letter done).reverse = S := ⟨_, rfl⟩
        rw [hS] at he HTF HTT hss ⊢
        clear hdn hA0 hV0 hz hd0 hS
        cases nx
        · have h3 := HTF.out rfl
          have HT3 := Lib.hid h3
          clear h3 HTF HTT
          go_wp2_with fail
          go_ret2
          exact ⟨by rw [HT3.out]; rfl, HB.out⟩
        · have h3 := HTT.out rfl
          have HT3 := Lib.hid h3
          clear h3 HTF HTT
          go_wp2_with fail
          go_ret2
          exact ⟨by rw [HT3.out]; rfl, HB.out⟩
end Go.Proofs.Ytkifebmlojdjnaa
