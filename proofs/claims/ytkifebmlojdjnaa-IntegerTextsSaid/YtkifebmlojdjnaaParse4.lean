/- Parse of the reference, for texts of at most 200 bytes. -/
import Derived.Test.YtkifebmlojdjnaaParse2
import Derived.Test.YtkifebmlojdjnaaBothD
import Derived.Test.YtkifebmlojdjnaaBooC
import Derived.Test.YtkifebmlojdjnaaOf
namespace Go.Proofs.Ytkifebmlojdjnaa
open Go.RowKit
set_option autoImplicit false
set_option linter.unusedVariables false

set_option maxRecDepth 100000 in
theorem rdigit_any (w : World) (c : Int) (h0 : 0 ≤ c) (h1 : c ≤ 255) : Calls Try.prog 116 #[.int .u8 c] w fun e w' => e = .returned (.int .i64 (dv c)) ∧ w = w' := by
  rcases (show c < 48 ∨ (48 ≤ c ∧ c ≤ 57) ∨ (57 < c ∧ c < 65) ∨ (65 ≤ c ∧ c ≤ 90) ∨ (90 < c ∧ c < 97) ∨ (97 ≤ c ∧ c ≤ 122) ∨ 122 < c by omega) with h | h | h | h | h | h | h
  · have e : dv c = 36 := by unfold dv; rw [if_neg (by omega), if_neg (by omega), if_neg (by omega)]
    rw [e]
    have a1 : ¬ 48 ≤ c := by omega
    have a2 : ¬ 65 ≤ c := by omega
    have a3 : ¬ 97 ≤ c := by omega
    clear e
    go_enter Try.func116, Try.ntmps116
    go_wp2_with fail
    go_ret
    exact ⟨rfl, rfl⟩
  · obtain ⟨b0, b1⟩ := h
    have e : c - 48 = dv c := by unfold dv; rw [if_pos ⟨b0, b1⟩]
    have HE := Lib.hid e
    clear e
    go_enter Try.func116, Try.ntmps116
    go_wp2_with fail
    go_ret
    exact ⟨by rw [← HE.out]; rfl, rfl⟩
  · obtain ⟨b0, b1⟩ := h
    have e : dv c = 36 := by unfold dv; rw [if_neg (by omega), if_neg (by omega), if_neg (by omega)]
    rw [e]
    have a0 : 48 ≤ c := by omega
    have a1 : ¬ c ≤ 57 := by omega
    have a2 : ¬ 65 ≤ c := by omega
    have a3 : ¬ 97 ≤ c := by omega
    clear e
    go_enter Try.func116, Try.ntmps116
    go_wp2_with fail
    go_ret
    exact ⟨rfl, rfl⟩
  · obtain ⟨b0, b1⟩ := h
    have e : c - 65 + 10 = dv c := by unfold dv; rw [if_neg (by omega), if_pos ⟨b0, b1⟩]; omega
    have HE := Lib.hid e
    have a0 : 48 ≤ c := by omega
    have a1 : ¬ c ≤ 57 := by omega
    clear e
    go_enter Try.func116, Try.ntmps116
    go_wp2_with fail
    go_ret
    exact ⟨by rw [← HE.out]; rfl, rfl⟩
  · obtain ⟨b0, b1⟩ := h
    have e : dv c = 36 := by unfold dv; rw [if_neg (by omega), if_neg (by omega), if_neg (by omega)]
    rw [e]
    have a0 : 48 ≤ c := by omega
    have a1 : ¬ c ≤ 57 := by omega
    have a2 : 65 ≤ c := by omega
    have a4 : ¬ c ≤ 90 := by omega
    have a3 : ¬ 97 ≤ c := by omega
    clear e
    go_enter Try.func116, Try.ntmps116
    go_wp2_with fail
    go_ret
    exact ⟨rfl, rfl⟩
  · obtain ⟨b0, b1⟩ := h
    have e : c - 97 + 10 = dv c := by unfold dv; rw [if_neg (by omega), if_neg (by omega), if_pos ⟨b0, b1⟩]; omega
    have HE := Lib.hid e
    have a0 : 48 ≤ c := by omega
    have a1 : ¬ c ≤ 57 := by omega
    have a2 : 65 ≤ c := by omega
    have a4 : ¬ c ≤ 90 := by omega
    clear e
    go_enter Try.func116, Try.ntmps116
    go_wp2_with fail
    go_ret
    exact ⟨by rw [← HE.out]; rfl, rfl⟩
  · have e : dv c = 36 := by unfold dv; rw [if_neg (by omega), if_neg (by omega), if_neg (by omega)]
    rw [e]
    have a0 : 48 ≤ c := by omega
    have a1 : ¬ c ≤ 57 := by omega
    have a2 : 65 ≤ c := by omega
    have a4 : ¬ c ≤ 90 := by omega
    have a3 : 97 ≤ c := by omega
    have a5 : ¬ c ≤ 122 := by omega
    clear e
    go_enter Try.func116, Try.ntmps116
    go_wp2_with fail
    go_ret
    exact ⟨rfl, rfl⟩

theorem OwnI.set {B : Nat} {w : World} {g n cap : Nat} {zs : List Int} (h : OwnI B w (some ⟨g, 0, none⟩) n cap zs) (j : Nat) (v : Int) : OwnI B (w.setCell ⟨g, j, none⟩ (.int .i64 v)) (some ⟨g, 0, none⟩) n cap (zs.set j v) := by
  have := (World.ownsRow.stored h j (.int .i64 v)).1
  unfold OwnI
  rw [List.map_set]
  exact this

theorem OwnI.at {B : Nat} {w : World} {ao : Option Addr} {n cap : Nat} {zs : List Int} (h : OwnI B w ao n cap zs) {j : Nat} (hj : j < n) :
    ∃ g, ao = some ⟨g, 0, none⟩ ∧ B ≤ g ∧ w.cell? ⟨g, j, none⟩ = some (.int .i64 (zs.getD j 0)) ∧ w.frozen? ⟨g, j, none⟩ = false := by
  have h' := h
  rcases h'.2 with ⟨hv, hn⟩ | ⟨g, c, cur, hv, hb, hg, hnc, hcm, hcs, htake⟩
  · omega
  · simp only [Value.slice.injEq] at hv
    obtain ⟨rfl, _, rfl⟩ := hv
    have hl := h.sl.len
    refine ⟨g, rfl, hb, ?_, World.ownsRow.frozenAt h j⟩
    rw [World.ownsRow.cellAt h j (by omega), List.getElem?_map, List.getElem?_eq_getElem (by omega), getD_lt (by omega)]
    rfl

theorem Dig_set {r : Int} {zs : List Int} (h : Dig r zs) (i : Nat) {v : Int} (h0 : 0 ≤ v) (h1 : v < r) : Dig r (zs.set i v) := by
  intro z hz
  rcases List.mem_or_eq_of_mem_set hz with h' | rfl
  · exact h z h'
  · exact ⟨h0, h1⟩

theorem mul_step {zs xs : List Int} {k : Nat} {x f cy c0 : Int} (hk : k < zs.length) (hx : xs.getD k 0 = x) (h : dval 65536 (zs.take k) + 65536 ^ k * cy = dval 65536 (xs.take k) * f + c0) :
    dval 65536 ((zs.set k ((x * f + cy) % 65536)).take (k + 1)) + 65536 ^ (k + 1) * ((x * f + cy) / 65536) = dval 65536 (xs.take (k + 1)) * f + c0 := by
  rw [dval_take_succ, take_set_same, getD_set_eq hk, dval_take_succ, hx, Int.pow_succ]
  have := Int.emod_add_mul_ediv (x * f + cy) 65536
  grind

set_option maxRecDepth 100000 in
set_option maxHeartbeats 2000000 in
theorem rparse_minus (w : World) (s : ByteArray) (r : Int) (M : Nat) (h2 : 2 ≤ r) (h36 : r ≤ 36) (hs0 : 0 < s.size) (hs : s.size ≤ 200) (y : Nat) (hy : (s[0]'hs0).toNat = y) (h45 : y = 45) (hT0 : 0 < ByteArray.size (s.extract 1 s.size)) (hTs : ByteArray.size (s.extract 1 s.size) ≤ 200) (hM : M ≤ ByteArray.size (s.extract 1 s.size))
    (hv : ∀ j, j < M → dv ((ByteArray.data (s.extract 1 s.size)).toList.getD j 0).toNat < r) (hbad : M < ByteArray.size (s.extract 1 s.size) → r ≤ dv ((ByteArray.data (s.extract 1 s.size)).toList.getD M 0).toNat) (p c : Int)
    (hp : (M = ByteArray.size (s.extract 1 s.size) → p = sgn true (pval r (ByteArray.data (s.extract 1 s.size)).toList) ∧ c = 0) ∧ (M < ByteArray.size (s.extract 1 s.size) → p = 0 ∧ c = 2)) :
    Calls Try.prog 63 #[.string s, .int .i64 r] w (RetBothR w p c 33554432) := by
  subst h45
  have hq1 : (((s.size - 1 : Nat) : Int) == 0) = false := by
    have h := hT0
    simp [ByteArray.size_extract] at h
    simp
    omega
  have hr1 : ¬ 36 < r := by omega
  have hr2 : ¬ r < 2 := by omega
  have hsz : ¬ (20000 : Int) < s.size := by omega
  have hss : (0 : Int) < s.size := by omega
  obtain ⟨i0, hi, hz0, hz1, hz2⟩ := info_parts info_int
  go_enter Try.func63, Try.ntmps63
  go_wp2_with fail
  obtain ⟨T, hTT⟩ : ∃ T : ByteArray, T = (s.extract 1 s.size) := ⟨_, rfl⟩
  rw [← hTT] at hM hv hbad hp hT0 hTs ⊢
  have HS : Hid (T.data.toList.length = T.size) := Lib.hid (by rw [Array.length_toList]; rfl)
  have HV := Lib.hid hv
  have HBAD := Lib.hid hbad
  have HP := Lib.hid hp
  clear hv hbad hp hTT
  go_loopw [7, 8] (fun l i wr => ∃ (k : Nat) (ao : Option Addr) (n cap : Nat) (zs : List Int), k ≤ M ∧ i = .int .i64 k ∧ l = .slice ao n cap ∧
      OwnI (w.heap.size + 1) wr ao n cap zs ∧ Dig 65536 zs ∧ pval r (T.data.toList.take k) = dval 65536 zs ∧ n ≤ k ∧ Below w.heap.size w wr ∧ wr.heap[w.heap.size]? = some (.cells #[.bool false, .slice none 0 0] 31 (0, 0))) (fun _ i _ => M + 1 - (intOf i).toNat)
  case atStart => exact ⟨0, none, 0, 0, [], Nat.zero_le _, rfl, rfl, World.ownsRow_nil _ _ _ _, Dig_nil _, by simp [pval, dval], Nat.le_refl _, by go_grown, by first | exact heap_alloc_new _ _ | assumption⟩
  case round =>
    obtain ⟨k, ao, n, cap, zs, hk, rfl, rfl, hown, hdig, hval, hnk, hbel, hbox⟩ := hrel
    rename World => wo
    have HO := Lib.hid hown
    have HVA := Lib.hid hval
    have HBX := Lib.hid hbox
    have hsz := hbel.size
    clear hown hval hbox
    by_cases hkM : k < M
    · have hks : k < T.size := by omega
      have hki : (k : Int) < T.size := by omega
      obtain ⟨y, hy⟩ : ∃ y : Nat, (T.data.toList[k]'(by rw [HS.out]; exact hks)).toNat = y := ⟨_, rfl⟩
      have hstep := pval_take r T.data.toList (k := k) (by rw [HS.out]; exact hks)
      rw [hy] at hstep
      have hd := HV.out k hkM
      rw [List.getD_eq_getElem?_getD, List.getElem?_eq_getElem (by rw [HS.out]; exact hks), Option.getD_some, hy] at hd
      have hy255 : y ≤ 255 := by rw [← hy]; have := (T.data.toList[k]'(by rw [HS.out]; exact hks)).toNat_lt; omega
      have hidx : (T[k]'hks).toNat = y := by rw [← hy]; rfl
      have hdr := dv_range (c := (y : Int)) (by omega)
      have HDV := Lib.hid (fun w' => rdigit_any w' (y : Int) (by omega) (by omega))
      obtain ⟨d, hdd⟩ : ∃ d, dv (y : Int) = d := ⟨_, rfl⟩
      rw [hdd] at HDV hd hdr hstep
      have HST := Lib.hid hstep
      have hd0 : 0 ≤ d := hdr.1
      have hndr : ¬ r ≤ d := by omega
      clear hdd hdr hstep hy
      go_wp2_with fail
      refine (HDV.out _).mono ?_
      rintro e w1 ⟨rfl, rfl⟩
      clear hidx
      go_wp2_with fail
      have hn200 : n ≤ 200 := by omega
      have HZL : Hid (zs.length = n) := Lib.hid HO.out.sl.len
      have hmost := HO.out.sl.most
      have hle := HO.out.sl.le
      unfold maxLen at hmost
      have HB0 := Lib.hid hbel
      clear hbel
      go_loopw [9, 10] (fun cc i w3 => ∃ (j : Nat) (cy : Int) (xs : List Int), j ≤ n ∧ i = .int .i64 j ∧ cc = .int .i64 cy ∧ 0 ≤ cy ∧ cy ≤ 65535 ∧ xs.length = n ∧ Dig 65536 xs ∧ (∀ t, j ≤ t → xs.getD t 0 = zs.getD t 0) ∧
          dval 65536 (xs.take j) + 65536 ^ j * cy = dval 65536 (zs.take j) * r + d ∧ OwnI (w.heap.size + 1) w3 ao n cap xs ∧ Below (w.heap.size + 1) wo w3) (fun _ i _ => n - (intOf i).toNat)
      case atStart => exact ⟨0, d, zs, Nat.zero_le _, rfl, rfl, hd0, by omega, HZL.out, hdig, fun _ _ => rfl, by simp [dval], HO.out, .refl _ _⟩
      case round =>
        obtain ⟨j, cy, xs, hj, rfl, rfl, hcy0, hcy1, hxl, hxdig, hsame, hvj, hox, hb3⟩ := hrel
        have HOX := Lib.hid hox
        have HSM := Lib.hid hsame
        have HVJ := Lib.hid hvj
        have HXL := Lib.hid hxl
        have hsz3 := hb3.size
        clear hox hsame hvj hxl
        by_cases hjn : j < n
        · have hjni : (j : Int) < n := by omega
          obtain ⟨g, rfl, hBg, hc, hfz⟩ := HOX.out.at (j := j) hjn
          obtain ⟨x, hx⟩ : ∃ x, zs.getD j 0 = x := ⟨_, rfl⟩
          rw [HSM.out j (Nat.le_refl _), hx] at hc
          have hlx := Dig_getD (by omega : (0 : Int) < 65536) hdig j
          rw [hx] at hlx
          obtain ⟨hx0, hx1⟩ := hlx
          have HXX := Lib.hid hx
          have q1 : x * r ≤ 65535 * 36 := Int.mul_le_mul (by omega) h36 (by omega) (by omega)
          have q0 : 0 ≤ x * r := Int.mul_nonneg hx0 (by omega)
          have q2 : 0 ≤ x * r + cy := by omega
          have q3 : (x * r + cy) / 65536 ≤ 65535 := by omega
          have q4 : 0 ≤ (x * r + cy) / 65536 := by omega
          clear hx
          go_wp2_with fail
          go_roundw
          case rel =>
            have hxl := HXL.out
            have hstep := mul_step (zs := xs) (xs := zs) (k := j) (x := x) (f := r) (cy := cy) (c0 := d) (by omega) HXX.out HVJ.out
            exact ⟨j + 1, (x * r + cy) / 65536, xs.set j ((x * r + cy) % 65536), by omega, by go_num, rfl, q4, q3, by rw [List.length_set]; exact hxl, Dig_set hxdig j (by omega) (by omega),
              fun t ht => by rw [getD_set_ne (by omega)]; exact HSM.out t (by omega), hstep, HOX.out.set j _, hb3.setCell hBg _⟩
          case measure => simp [intOf]; omega
        · obtain rfl : j = n := by omega
          have hjni : ¬ (j : Int) < j := by omega
          have hv1 : dval 65536 xs + 65536 ^ j * cy = dval 65536 zs * r + d := by
            have h1 := HVJ.out
            have e1 := HXL.out
            have e2 := HZL.out
            rwa [List.take_of_length_le (by omega), List.take_of_length_le (by omega)] at h1
          have HV1 := Lib.hid hv1
          have HB1 : Hid (Below w.heap.size w wr) := Lib.hid (HB0.out.trans (hb3.mono (by omega)))
          have HBX3 := Lib.hid ((hb3.block w.heap.size (by omega)).trans HBX.out)
          have hBw : w.heap.size + 1 ≤ wr.heap.size := (Array.getElem?_eq_some_iff.1 HBX3.out).1
          clear hv1
          by_cases hcz : 0 < cy
          · go_wp2_with (at_builtin; refine wpList_app1 rfl _ _ 29 rfl (w.heap.size + 1) 3 i0 (.int .i64 0) 8 Try.underlying29 hi hz0 hz1 hz2 rfl (.slice ao j cap) j (xs.map (Value.int .i64)) (.int .i64 cy) rfl HOX.out rfl rfl (by omega) (by omega) hBw ?_)
            intro ao2 cap2 w2 hown2 hgrow
            have hrow2 : OwnI (w.heap.size + 1) w2 ao2 (j + 1) cap2 (xs ++ [cy]) := by
              unfold OwnI
              rw [List.map_append]
              exact hown2
            have hb2' : Below (w.heap.size + 1) wr w2 := Below.grown ((Below.refl _ _).alloc hBw _) hgrow (by simp; omega) (by intro g hg; exact (World.ownsRow.lt HOX.out g hg).1)
            have HR2 := Lib.hid hrow2
            have HB2 := Lib.hid hb2'
            clear hown2 hgrow hrow2 hb2'
            go_wp2_with fail
            go_roundw
            case rel =>
              exact ⟨k + 1, ao2, j + 1, cap2, xs ++ [cy], by omega, by go_num, rfl, HR2.out, Dig_snoc hxdig (by omega) (by omega), by rw [HST.out, HVA.out, dval_snoc, HXL.out]; exact HV1.out.symm, by omega,
                HB1.out.trans (HB2.out.mono (by omega)), (HB2.out.block w.heap.size (by omega)).trans HBX3.out⟩
            case measure => simp [intOf]; omega
          · obtain rfl : cy = 0 := by omega
            go_wp2_with fail
            go_roundw
            case rel =>
              exact ⟨k + 1, ao, j, cap, xs, by omega, by go_num, rfl, HOX.out, hxdig, by rw [HST.out, HVA.out]; have := HV1.out; omega, by omega, HB1.out, HBX3.out⟩
            case measure => simp [intOf]; omega
    · obtain rfl : k = M := by omega
      obtain ⟨c0, c1, f0, f1⟩ := blk2R HBX.out
      have hBw : w.heap.size + 1 ≤ wo.heap.size := (Array.getElem?_eq_some_iff.1 HBX.out).1
      by_cases hkT : k < T.size
      · obtain ⟨rfl, rfl⟩ := HP.out.2 hkT
        have hks : k < T.size := hkT
        have hki : (k : Int) < T.size := by omega
        obtain ⟨y, hy⟩ : ∃ y : Nat, (T.data.toList[k]'(by rw [HS.out]; exact hks)).toNat = y := ⟨_, rfl⟩
        have hd := HBAD.out hkT
        rw [List.getD_eq_getElem?_getD, List.getElem?_eq_getElem (by rw [HS.out]; exact hks), Option.getD_some, hy] at hd
        have hy255 : y ≤ 255 := by rw [← hy]; have := (T.data.toList[k]'(by rw [HS.out]; exact hks)).toNat_lt; omega
        have hidx : (T[k]'hks).toNat = y := by rw [← hy]; rfl
        have HDV := Lib.hid (fun w' => rdigit_any w' (y : Int) (by omega) (by omega))
        obtain ⟨d, hdd⟩ : ∃ d, dv (y : Int) = d := ⟨_, rfl⟩
        rw [hdd] at HDV hd
        clear hdd hy
        go_wp2_with fail
        refine (HDV.out _).mono ?_
        rintro e w1 ⟨rfl, rfl⟩
        clear hidx
        go_wp2_with fail
        refine bodyPost_ret (v := .tuple #[.agg #[.bool false, .slice none 0 0], .int .i64 2]) (by simp [results, Try.results63, go_sem, c0, c1]) rfl ?_
        exact ⟨_, _, _, _, _, rfl, ref_zero _, by omega, (hbel.setCell (p := ⟨w.heap.size, 0, none⟩) (by dsimp only; omega) _).setCell (p := ⟨w.heap.size, 1, none⟩) (by dsimp only; omega) _⟩
      · obtain rfl : k = T.size := by omega
        obtain ⟨hp1, rfl⟩ := HP.out.1 rfl
        have HPP := Lib.hid hp1
        have hval2 : pval r T.data.toList = dval 65536 zs := by have := HVA.out; rwa [List.take_of_length_le (by rw [HS.out]; exact Nat.le_refl _)] at this
        have HVAL := Lib.hid hval2
        have hji : ¬ (T.size : Int) < T.size := by omega
        clear hp1 hval2
        go_wp2_with fail
        refine (made_int _ true ao n cap zs HO.out.sl hdig rfl).mono ?_
        rintro e w2 ⟨neg', ao', n', cap', zs', rfl, hint, hn', u2⟩
        have hr4 := (u2.block _ (by omega)).trans HBX.out
        have hz4 := u2.size
        have hb4 : Below w.heap.size w w2 := hbel.trans (u2.mono hbel.size)
        obtain ⟨d0, d1, g0, g1⟩ := blk2R hr4
        have HI := Lib.hid (hint.stored hr4 (.bool neg') (.slice ao' n' cap'))
        clear hint hr4 c0 c1 f0 f1 u2
        go_wp2_with fail
        refine bodyPost_ret (v := .tuple #[.agg #[.bool neg', .slice ao' n' cap'], .int .i64 0]) (by simp [results, Try.results63, go_sem, d0, d1]) rfl ?_
        exact ⟨_, _, _, _, _, rfl, by have h := HI.out; rw [← HVAL.out, ← HPP.out] at h; exact h, by omega, (hb4.setCell (p := ⟨w.heap.size, 0, none⟩) (by dsimp only; omega) _).setCell (p := ⟨w.heap.size, 1, none⟩) (by dsimp only; omega) _⟩

set_option maxRecDepth 100000 in
set_option maxHeartbeats 2000000 in
theorem rparse_plus (w : World) (s : ByteArray) (r : Int) (M : Nat) (h2 : 2 ≤ r) (h36 : r ≤ 36) (hs0 : 0 < s.size) (hs : s.size ≤ 200) (y : Nat) (hy : (s[0]'hs0).toNat = y) (h43 : y = 43) (hT0 : 0 < ByteArray.size (s.extract 1 s.size)) (hTs : ByteArray.size (s.extract 1 s.size) ≤ 200) (hM : M ≤ ByteArray.size (s.extract 1 s.size))
    (hv : ∀ j, j < M → dv ((ByteArray.data (s.extract 1 s.size)).toList.getD j 0).toNat < r) (hbad : M < ByteArray.size (s.extract 1 s.size) → r ≤ dv ((ByteArray.data (s.extract 1 s.size)).toList.getD M 0).toNat) (p c : Int)
    (hp : (M = ByteArray.size (s.extract 1 s.size) → p = sgn false (pval r (ByteArray.data (s.extract 1 s.size)).toList) ∧ c = 0) ∧ (M < ByteArray.size (s.extract 1 s.size) → p = 0 ∧ c = 2)) :
    Calls Try.prog 63 #[.string s, .int .i64 r] w (RetBothR w p c 33554432) := by
  subst h43
  have hq1 : (((s.size - 1 : Nat) : Int) == 0) = false := by
    have h := hT0
    simp [ByteArray.size_extract] at h
    simp
    omega
  have hr1 : ¬ 36 < r := by omega
  have hr2 : ¬ r < 2 := by omega
  have hsz : ¬ (20000 : Int) < s.size := by omega
  have hss : (0 : Int) < s.size := by omega
  obtain ⟨i0, hi, hz0, hz1, hz2⟩ := info_parts info_int
  go_enter Try.func63, Try.ntmps63
  go_wp2_with fail
  obtain ⟨T, hTT⟩ : ∃ T : ByteArray, T = (s.extract 1 s.size) := ⟨_, rfl⟩
  rw [← hTT] at hM hv hbad hp hT0 hTs ⊢
  have HS : Hid (T.data.toList.length = T.size) := Lib.hid (by rw [Array.length_toList]; rfl)
  have HV := Lib.hid hv
  have HBAD := Lib.hid hbad
  have HP := Lib.hid hp
  clear hv hbad hp hTT
  go_loopw [7, 8] (fun l i wr => ∃ (k : Nat) (ao : Option Addr) (n cap : Nat) (zs : List Int), k ≤ M ∧ i = .int .i64 k ∧ l = .slice ao n cap ∧
      OwnI (w.heap.size + 1) wr ao n cap zs ∧ Dig 65536 zs ∧ pval r (T.data.toList.take k) = dval 65536 zs ∧ n ≤ k ∧ Below w.heap.size w wr ∧ wr.heap[w.heap.size]? = some (.cells #[.bool false, .slice none 0 0] 31 (0, 0))) (fun _ i _ => M + 1 - (intOf i).toNat)
  case atStart => exact ⟨0, none, 0, 0, [], Nat.zero_le _, rfl, rfl, World.ownsRow_nil _ _ _ _, Dig_nil _, by simp [pval, dval], Nat.le_refl _, by go_grown, by first | exact heap_alloc_new _ _ | assumption⟩
  case round =>
    obtain ⟨k, ao, n, cap, zs, hk, rfl, rfl, hown, hdig, hval, hnk, hbel, hbox⟩ := hrel
    rename World => wo
    have HO := Lib.hid hown
    have HVA := Lib.hid hval
    have HBX := Lib.hid hbox
    have hsz := hbel.size
    clear hown hval hbox
    by_cases hkM : k < M
    · have hks : k < T.size := by omega
      have hki : (k : Int) < T.size := by omega
      obtain ⟨y, hy⟩ : ∃ y : Nat, (T.data.toList[k]'(by rw [HS.out]; exact hks)).toNat = y := ⟨_, rfl⟩
      have hstep := pval_take r T.data.toList (k := k) (by rw [HS.out]; exact hks)
      rw [hy] at hstep
      have hd := HV.out k hkM
      rw [List.getD_eq_getElem?_getD, List.getElem?_eq_getElem (by rw [HS.out]; exact hks), Option.getD_some, hy] at hd
      have hy255 : y ≤ 255 := by rw [← hy]; have := (T.data.toList[k]'(by rw [HS.out]; exact hks)).toNat_lt; omega
      have hidx : (T[k]'hks).toNat = y := by rw [← hy]; rfl
      have hdr := dv_range (c := (y : Int)) (by omega)
      have HDV := Lib.hid (fun w' => rdigit_any w' (y : Int) (by omega) (by omega))
      obtain ⟨d, hdd⟩ : ∃ d, dv (y : Int) = d := ⟨_, rfl⟩
      rw [hdd] at HDV hd hdr hstep
      have HST := Lib.hid hstep
      have hd0 : 0 ≤ d := hdr.1
      have hndr : ¬ r ≤ d := by omega
      clear hdd hdr hstep hy
      go_wp2_with fail
      refine (HDV.out _).mono ?_
      rintro e w1 ⟨rfl, rfl⟩
      clear hidx
      go_wp2_with fail
      have hn200 : n ≤ 200 := by omega
      have HZL : Hid (zs.length = n) := Lib.hid HO.out.sl.len
      have hmost := HO.out.sl.most
      have hle := HO.out.sl.le
      unfold maxLen at hmost
      have HB0 := Lib.hid hbel
      clear hbel
      go_loopw [9, 10] (fun cc i w3 => ∃ (j : Nat) (cy : Int) (xs : List Int), j ≤ n ∧ i = .int .i64 j ∧ cc = .int .i64 cy ∧ 0 ≤ cy ∧ cy ≤ 65535 ∧ xs.length = n ∧ Dig 65536 xs ∧ (∀ t, j ≤ t → xs.getD t 0 = zs.getD t 0) ∧
          dval 65536 (xs.take j) + 65536 ^ j * cy = dval 65536 (zs.take j) * r + d ∧ OwnI (w.heap.size + 1) w3 ao n cap xs ∧ Below (w.heap.size + 1) wo w3) (fun _ i _ => n - (intOf i).toNat)
      case atStart => exact ⟨0, d, zs, Nat.zero_le _, rfl, rfl, hd0, by omega, HZL.out, hdig, fun _ _ => rfl, by simp [dval], HO.out, .refl _ _⟩
      case round =>
        obtain ⟨j, cy, xs, hj, rfl, rfl, hcy0, hcy1, hxl, hxdig, hsame, hvj, hox, hb3⟩ := hrel
        have HOX := Lib.hid hox
        have HSM := Lib.hid hsame
        have HVJ := Lib.hid hvj
        have HXL := Lib.hid hxl
        have hsz3 := hb3.size
        clear hox hsame hvj hxl
        by_cases hjn : j < n
        · have hjni : (j : Int) < n := by omega
          obtain ⟨g, rfl, hBg, hc, hfz⟩ := HOX.out.at (j := j) hjn
          obtain ⟨x, hx⟩ : ∃ x, zs.getD j 0 = x := ⟨_, rfl⟩
          rw [HSM.out j (Nat.le_refl _), hx] at hc
          have hlx := Dig_getD (by omega : (0 : Int) < 65536) hdig j
          rw [hx] at hlx
          obtain ⟨hx0, hx1⟩ := hlx
          have HXX := Lib.hid hx
          have q1 : x * r ≤ 65535 * 36 := Int.mul_le_mul (by omega) h36 (by omega) (by omega)
          have q0 : 0 ≤ x * r := Int.mul_nonneg hx0 (by omega)
          have q2 : 0 ≤ x * r + cy := by omega
          have q3 : (x * r + cy) / 65536 ≤ 65535 := by omega
          have q4 : 0 ≤ (x * r + cy) / 65536 := by omega
          clear hx
          go_wp2_with fail
          go_roundw
          case rel =>
            have hxl := HXL.out
            have hstep := mul_step (zs := xs) (xs := zs) (k := j) (x := x) (f := r) (cy := cy) (c0 := d) (by omega) HXX.out HVJ.out
            exact ⟨j + 1, (x * r + cy) / 65536, xs.set j ((x * r + cy) % 65536), by omega, by go_num, rfl, q4, q3, by rw [List.length_set]; exact hxl, Dig_set hxdig j (by omega) (by omega),
              fun t ht => by rw [getD_set_ne (by omega)]; exact HSM.out t (by omega), hstep, HOX.out.set j _, hb3.setCell hBg _⟩
          case measure => simp [intOf]; omega
        · obtain rfl : j = n := by omega
          have hjni : ¬ (j : Int) < j := by omega
          have hv1 : dval 65536 xs + 65536 ^ j * cy = dval 65536 zs * r + d := by
            have h1 := HVJ.out
            have e1 := HXL.out
            have e2 := HZL.out
            rwa [List.take_of_length_le (by omega), List.take_of_length_le (by omega)] at h1
          have HV1 := Lib.hid hv1
          have HB1 : Hid (Below w.heap.size w wr) := Lib.hid (HB0.out.trans (hb3.mono (by omega)))
          have HBX3 := Lib.hid ((hb3.block w.heap.size (by omega)).trans HBX.out)
          have hBw : w.heap.size + 1 ≤ wr.heap.size := (Array.getElem?_eq_some_iff.1 HBX3.out).1
          clear hv1
          by_cases hcz : 0 < cy
          · go_wp2_with (at_builtin; refine wpList_app1 rfl _ _ 29 rfl (w.heap.size + 1) 3 i0 (.int .i64 0) 8 Try.underlying29 hi hz0 hz1 hz2 rfl (.slice ao j cap) j (xs.map (Value.int .i64)) (.int .i64 cy) rfl HOX.out rfl rfl (by omega) (by omega) hBw ?_)
            intro ao2 cap2 w2 hown2 hgrow
            have hrow2 : OwnI (w.heap.size + 1) w2 ao2 (j + 1) cap2 (xs ++ [cy]) := by
              unfold OwnI
              rw [List.map_append]
              exact hown2
            have hb2' : Below (w.heap.size + 1) wr w2 := Below.grown ((Below.refl _ _).alloc hBw _) hgrow (by simp; omega) (by intro g hg; exact (World.ownsRow.lt HOX.out g hg).1)
            have HR2 := Lib.hid hrow2
            have HB2 := Lib.hid hb2'
            clear hown2 hgrow hrow2 hb2'
            go_wp2_with fail
            go_roundw
            case rel =>
              exact ⟨k + 1, ao2, j + 1, cap2, xs ++ [cy], by omega, by go_num, rfl, HR2.out, Dig_snoc hxdig (by omega) (by omega), by rw [HST.out, HVA.out, dval_snoc, HXL.out]; exact HV1.out.symm, by omega,
                HB1.out.trans (HB2.out.mono (by omega)), (HB2.out.block w.heap.size (by omega)).trans HBX3.out⟩
            case measure => simp [intOf]; omega
          · obtain rfl : cy = 0 := by omega
            go_wp2_with fail
            go_roundw
            case rel =>
              exact ⟨k + 1, ao, j, cap, xs, by omega, by go_num, rfl, HOX.out, hxdig, by rw [HST.out, HVA.out]; have := HV1.out; omega, by omega, HB1.out, HBX3.out⟩
            case measure => simp [intOf]; omega
    · obtain rfl : k = M := by omega
      obtain ⟨c0, c1, f0, f1⟩ := blk2R HBX.out
      have hBw : w.heap.size + 1 ≤ wo.heap.size := (Array.getElem?_eq_some_iff.1 HBX.out).1
      by_cases hkT : k < T.size
      · obtain ⟨rfl, rfl⟩ := HP.out.2 hkT
        have hks : k < T.size := hkT
        have hki : (k : Int) < T.size := by omega
        obtain ⟨y, hy⟩ : ∃ y : Nat, (T.data.toList[k]'(by rw [HS.out]; exact hks)).toNat = y := ⟨_, rfl⟩
        have hd := HBAD.out hkT
        rw [List.getD_eq_getElem?_getD, List.getElem?_eq_getElem (by rw [HS.out]; exact hks), Option.getD_some, hy] at hd
        have hy255 : y ≤ 255 := by rw [← hy]; have := (T.data.toList[k]'(by rw [HS.out]; exact hks)).toNat_lt; omega
        have hidx : (T[k]'hks).toNat = y := by rw [← hy]; rfl
        have HDV := Lib.hid (fun w' => rdigit_any w' (y : Int) (by omega) (by omega))
        obtain ⟨d, hdd⟩ : ∃ d, dv (y : Int) = d := ⟨_, rfl⟩
        rw [hdd] at HDV hd
        clear hdd hy
        go_wp2_with fail
        refine (HDV.out _).mono ?_
        rintro e w1 ⟨rfl, rfl⟩
        clear hidx
        go_wp2_with fail
        refine bodyPost_ret (v := .tuple #[.agg #[.bool false, .slice none 0 0], .int .i64 2]) (by simp [results, Try.results63, go_sem, c0, c1]) rfl ?_
        exact ⟨_, _, _, _, _, rfl, ref_zero _, by omega, (hbel.setCell (p := ⟨w.heap.size, 0, none⟩) (by dsimp only; omega) _).setCell (p := ⟨w.heap.size, 1, none⟩) (by dsimp only; omega) _⟩
      · obtain rfl : k = T.size := by omega
        obtain ⟨hp1, rfl⟩ := HP.out.1 rfl
        have HPP := Lib.hid hp1
        have hval2 : pval r T.data.toList = dval 65536 zs := by have := HVA.out; rwa [List.take_of_length_le (by rw [HS.out]; exact Nat.le_refl _)] at this
        have HVAL := Lib.hid hval2
        have hji : ¬ (T.size : Int) < T.size := by omega
        clear hp1 hval2
        go_wp2_with fail
        refine (made_int _ false ao n cap zs HO.out.sl hdig rfl).mono ?_
        rintro e w2 ⟨neg', ao', n', cap', zs', rfl, hint, hn', u2⟩
        have hr4 := (u2.block _ (by omega)).trans HBX.out
        have hz4 := u2.size
        have hb4 : Below w.heap.size w w2 := hbel.trans (u2.mono hbel.size)
        obtain ⟨d0, d1, g0, g1⟩ := blk2R hr4
        have HI := Lib.hid (hint.stored hr4 (.bool neg') (.slice ao' n' cap'))
        clear hint hr4 c0 c1 f0 f1 u2
        go_wp2_with fail
        refine bodyPost_ret (v := .tuple #[.agg #[.bool neg', .slice ao' n' cap'], .int .i64 0]) (by simp [results, Try.results63, go_sem, d0, d1]) rfl ?_
        exact ⟨_, _, _, _, _, rfl, by have h := HI.out; rw [← HVAL.out, ← HPP.out] at h; exact h, by omega, (hb4.setCell (p := ⟨w.heap.size, 0, none⟩) (by dsimp only; omega) _).setCell (p := ⟨w.heap.size, 1, none⟩) (by dsimp only; omega) _⟩

set_option maxRecDepth 100000 in
set_option maxHeartbeats 2000000 in
theorem rparse_bare (w : World) (s : ByteArray) (r : Int) (M : Nat) (h2 : 2 ≤ r) (h36 : r ≤ 36) (hs0 : 0 < s.size) (hs : s.size ≤ 200) (y : Nat) (hy : (s[0]'hs0).toNat = y) (h45 : y ≠ 45) (h43 : y ≠ 43) (hT0 : 0 < ByteArray.size s) (hTs : ByteArray.size s ≤ 200) (hM : M ≤ ByteArray.size s)
    (hv : ∀ j, j < M → dv ((ByteArray.data s).toList.getD j 0).toNat < r) (hbad : M < ByteArray.size s → r ≤ dv ((ByteArray.data s).toList.getD M 0).toNat) (p c : Int)
    (hp : (M = ByteArray.size s → p = sgn false (pval r (ByteArray.data s).toList) ∧ c = 0) ∧ (M < ByteArray.size s → p = 0 ∧ c = 2)) :
    Calls Try.prog 63 #[.string s, .int .i64 r] w (RetBothR w p c 33554432) := by
  have g1 : ((y : Int) == 45) = false := by simp; omega
  have g2 : ((y : Int) == 43) = false := by simp; omega
  have hq1 : ((s.size : Int) == 0) = false := beq_false_of_ne (by omega)
  have hr1 : ¬ 36 < r := by omega
  have hr2 : ¬ r < 2 := by omega
  have hsz : ¬ (20000 : Int) < s.size := by omega
  have hss : (0 : Int) < s.size := by omega
  obtain ⟨i0, hi, hz0, hz1, hz2⟩ := info_parts info_int
  go_enter Try.func63, Try.ntmps63
  go_wp2_with fail
  obtain ⟨T, hTT⟩ : ∃ T : ByteArray, T = s := ⟨_, rfl⟩
  rw [← hTT] at hM hv hbad hp hT0 hTs ⊢
  have HS : Hid (T.data.toList.length = T.size) := Lib.hid (by rw [Array.length_toList]; rfl)
  have HV := Lib.hid hv
  have HBAD := Lib.hid hbad
  have HP := Lib.hid hp
  clear hv hbad hp hTT
  go_loopw [7, 8] (fun l i wr => ∃ (k : Nat) (ao : Option Addr) (n cap : Nat) (zs : List Int), k ≤ M ∧ i = .int .i64 k ∧ l = .slice ao n cap ∧
      OwnI (w.heap.size + 1) wr ao n cap zs ∧ Dig 65536 zs ∧ pval r (T.data.toList.take k) = dval 65536 zs ∧ n ≤ k ∧ Below w.heap.size w wr ∧ wr.heap[w.heap.size]? = some (.cells #[.bool false, .slice none 0 0] 31 (0, 0))) (fun _ i _ => M + 1 - (intOf i).toNat)
  case atStart => exact ⟨0, none, 0, 0, [], Nat.zero_le _, rfl, rfl, World.ownsRow_nil _ _ _ _, Dig_nil _, by simp [pval, dval], Nat.le_refl _, by go_grown, by first | exact heap_alloc_new _ _ | assumption⟩
  case round =>
    obtain ⟨k, ao, n, cap, zs, hk, rfl, rfl, hown, hdig, hval, hnk, hbel, hbox⟩ := hrel
    rename World => wo
    have HO := Lib.hid hown
    have HVA := Lib.hid hval
    have HBX := Lib.hid hbox
    have hsz := hbel.size
    clear hown hval hbox
    by_cases hkM : k < M
    · have hks : k < T.size := by omega
      have hki : (k : Int) < T.size := by omega
      obtain ⟨y, hy⟩ : ∃ y : Nat, (T.data.toList[k]'(by rw [HS.out]; exact hks)).toNat = y := ⟨_, rfl⟩
      have hstep := pval_take r T.data.toList (k := k) (by rw [HS.out]; exact hks)
      rw [hy] at hstep
      have hd := HV.out k hkM
      rw [List.getD_eq_getElem?_getD, List.getElem?_eq_getElem (by rw [HS.out]; exact hks), Option.getD_some, hy] at hd
      have hy255 : y ≤ 255 := by rw [← hy]; have := (T.data.toList[k]'(by rw [HS.out]; exact hks)).toNat_lt; omega
      have hidx : (T[k]'hks).toNat = y := by rw [← hy]; rfl
      have hdr := dv_range (c := (y : Int)) (by omega)
      have HDV := Lib.hid (fun w' => rdigit_any w' (y : Int) (by omega) (by omega))
      obtain ⟨d, hdd⟩ : ∃ d, dv (y : Int) = d := ⟨_, rfl⟩
      rw [hdd] at HDV hd hdr hstep
      have HST := Lib.hid hstep
      have hd0 : 0 ≤ d := hdr.1
      have hndr : ¬ r ≤ d := by omega
      clear hdd hdr hstep hy
      go_wp2_with fail
      refine (HDV.out _).mono ?_
      rintro e w1 ⟨rfl, rfl⟩
      clear hidx
      go_wp2_with fail
      have hn200 : n ≤ 200 := by omega
      have HZL : Hid (zs.length = n) := Lib.hid HO.out.sl.len
      have hmost := HO.out.sl.most
      have hle := HO.out.sl.le
      unfold maxLen at hmost
      have HB0 := Lib.hid hbel
      clear hbel
      go_loopw [9, 10] (fun cc i w3 => ∃ (j : Nat) (cy : Int) (xs : List Int), j ≤ n ∧ i = .int .i64 j ∧ cc = .int .i64 cy ∧ 0 ≤ cy ∧ cy ≤ 65535 ∧ xs.length = n ∧ Dig 65536 xs ∧ (∀ t, j ≤ t → xs.getD t 0 = zs.getD t 0) ∧
          dval 65536 (xs.take j) + 65536 ^ j * cy = dval 65536 (zs.take j) * r + d ∧ OwnI (w.heap.size + 1) w3 ao n cap xs ∧ Below (w.heap.size + 1) wo w3) (fun _ i _ => n - (intOf i).toNat)
      case atStart => exact ⟨0, d, zs, Nat.zero_le _, rfl, rfl, hd0, by omega, HZL.out, hdig, fun _ _ => rfl, by simp [dval], HO.out, .refl _ _⟩
      case round =>
        obtain ⟨j, cy, xs, hj, rfl, rfl, hcy0, hcy1, hxl, hxdig, hsame, hvj, hox, hb3⟩ := hrel
        have HOX := Lib.hid hox
        have HSM := Lib.hid hsame
        have HVJ := Lib.hid hvj
        have HXL := Lib.hid hxl
        have hsz3 := hb3.size
        clear hox hsame hvj hxl
        by_cases hjn : j < n
        · have hjni : (j : Int) < n := by omega
          obtain ⟨g, rfl, hBg, hc, hfz⟩ := HOX.out.at (j := j) hjn
          obtain ⟨x, hx⟩ : ∃ x, zs.getD j 0 = x := ⟨_, rfl⟩
          rw [HSM.out j (Nat.le_refl _), hx] at hc
          have hlx := Dig_getD (by omega : (0 : Int) < 65536) hdig j
          rw [hx] at hlx
          obtain ⟨hx0, hx1⟩ := hlx
          have HXX := Lib.hid hx
          have q1 : x * r ≤ 65535 * 36 := Int.mul_le_mul (by omega) h36 (by omega) (by omega)
          have q0 : 0 ≤ x * r := Int.mul_nonneg hx0 (by omega)
          have q2 : 0 ≤ x * r + cy := by omega
          have q3 : (x * r + cy) / 65536 ≤ 65535 := by omega
          have q4 : 0 ≤ (x * r + cy) / 65536 := by omega
          clear hx
          go_wp2_with fail
          go_roundw
          case rel =>
            have hxl := HXL.out
            have hstep := mul_step (zs := xs) (xs := zs) (k := j) (x := x) (f := r) (cy := cy) (c0 := d) (by omega) HXX.out HVJ.out
            exact ⟨j + 1, (x * r + cy) / 65536, xs.set j ((x * r + cy) % 65536), by omega, by go_num, rfl, q4, q3, by rw [List.length_set]; exact hxl, Dig_set hxdig j (by omega) (by omega),
              fun t ht => by rw [getD_set_ne (by omega)]; exact HSM.out t (by omega), hstep, HOX.out.set j _, hb3.setCell hBg _⟩
          case measure => simp [intOf]; omega
        · obtain rfl : j = n := by omega
          have hjni : ¬ (j : Int) < j := by omega
          have hv1 : dval 65536 xs + 65536 ^ j * cy = dval 65536 zs * r + d := by
            have h1 := HVJ.out
            have e1 := HXL.out
            have e2 := HZL.out
            rwa [List.take_of_length_le (by omega), List.take_of_length_le (by omega)] at h1
          have HV1 := Lib.hid hv1
          have HB1 : Hid (Below w.heap.size w wr) := Lib.hid (HB0.out.trans (hb3.mono (by omega)))
          have HBX3 := Lib.hid ((hb3.block w.heap.size (by omega)).trans HBX.out)
          have hBw : w.heap.size + 1 ≤ wr.heap.size := (Array.getElem?_eq_some_iff.1 HBX3.out).1
          clear hv1
          by_cases hcz : 0 < cy
          · go_wp2_with (at_builtin; refine wpList_app1 rfl _ _ 29 rfl (w.heap.size + 1) 3 i0 (.int .i64 0) 8 Try.underlying29 hi hz0 hz1 hz2 rfl (.slice ao j cap) j (xs.map (Value.int .i64)) (.int .i64 cy) rfl HOX.out rfl rfl (by omega) (by omega) hBw ?_)
            intro ao2 cap2 w2 hown2 hgrow
            have hrow2 : OwnI (w.heap.size + 1) w2 ao2 (j + 1) cap2 (xs ++ [cy]) := by
              unfold OwnI
              rw [List.map_append]
              exact hown2
            have hb2' : Below (w.heap.size + 1) wr w2 := Below.grown ((Below.refl _ _).alloc hBw _) hgrow (by simp; omega) (by intro g hg; exact (World.ownsRow.lt HOX.out g hg).1)
            have HR2 := Lib.hid hrow2
            have HB2 := Lib.hid hb2'
            clear hown2 hgrow hrow2 hb2'
            go_wp2_with fail
            go_roundw
            case rel =>
              exact ⟨k + 1, ao2, j + 1, cap2, xs ++ [cy], by omega, by go_num, rfl, HR2.out, Dig_snoc hxdig (by omega) (by omega), by rw [HST.out, HVA.out, dval_snoc, HXL.out]; exact HV1.out.symm, by omega,
                HB1.out.trans (HB2.out.mono (by omega)), (HB2.out.block w.heap.size (by omega)).trans HBX3.out⟩
            case measure => simp [intOf]; omega
          · obtain rfl : cy = 0 := by omega
            go_wp2_with fail
            go_roundw
            case rel =>
              exact ⟨k + 1, ao, j, cap, xs, by omega, by go_num, rfl, HOX.out, hxdig, by rw [HST.out, HVA.out]; have := HV1.out; omega, by omega, HB1.out, HBX3.out⟩
            case measure => simp [intOf]; omega
    · obtain rfl : k = M := by omega
      obtain ⟨c0, c1, f0, f1⟩ := blk2R HBX.out
      have hBw : w.heap.size + 1 ≤ wo.heap.size := (Array.getElem?_eq_some_iff.1 HBX.out).1
      by_cases hkT : k < T.size
      · obtain ⟨rfl, rfl⟩ := HP.out.2 hkT
        have hks : k < T.size := hkT
        have hki : (k : Int) < T.size := by omega
        obtain ⟨y, hy⟩ : ∃ y : Nat, (T.data.toList[k]'(by rw [HS.out]; exact hks)).toNat = y := ⟨_, rfl⟩
        have hd := HBAD.out hkT
        rw [List.getD_eq_getElem?_getD, List.getElem?_eq_getElem (by rw [HS.out]; exact hks), Option.getD_some, hy] at hd
        have hy255 : y ≤ 255 := by rw [← hy]; have := (T.data.toList[k]'(by rw [HS.out]; exact hks)).toNat_lt; omega
        have hidx : (T[k]'hks).toNat = y := by rw [← hy]; rfl
        have HDV := Lib.hid (fun w' => rdigit_any w' (y : Int) (by omega) (by omega))
        obtain ⟨d, hdd⟩ : ∃ d, dv (y : Int) = d := ⟨_, rfl⟩
        rw [hdd] at HDV hd
        clear hdd hy
        go_wp2_with fail
        refine (HDV.out _).mono ?_
        rintro e w1 ⟨rfl, rfl⟩
        clear hidx
        go_wp2_with fail
        refine bodyPost_ret (v := .tuple #[.agg #[.bool false, .slice none 0 0], .int .i64 2]) (by simp [results, Try.results63, go_sem, c0, c1]) rfl ?_
        exact ⟨_, _, _, _, _, rfl, ref_zero _, by omega, (hbel.setCell (p := ⟨w.heap.size, 0, none⟩) (by dsimp only; omega) _).setCell (p := ⟨w.heap.size, 1, none⟩) (by dsimp only; omega) _⟩
      · obtain rfl : k = T.size := by omega
        obtain ⟨hp1, rfl⟩ := HP.out.1 rfl
        have HPP := Lib.hid hp1
        have hval2 : pval r T.data.toList = dval 65536 zs := by have := HVA.out; rwa [List.take_of_length_le (by rw [HS.out]; exact Nat.le_refl _)] at this
        have HVAL := Lib.hid hval2
        have hji : ¬ (T.size : Int) < T.size := by omega
        clear hp1 hval2
        go_wp2_with fail
        refine (made_int _ false ao n cap zs HO.out.sl hdig rfl).mono ?_
        rintro e w2 ⟨neg', ao', n', cap', zs', rfl, hint, hn', u2⟩
        have hr4 := (u2.block _ (by omega)).trans HBX.out
        have hz4 := u2.size
        have hb4 : Below w.heap.size w w2 := hbel.trans (u2.mono hbel.size)
        obtain ⟨d0, d1, g0, g1⟩ := blk2R hr4
        have HI := Lib.hid (hint.stored hr4 (.bool neg') (.slice ao' n' cap'))
        clear hint hr4 c0 c1 f0 f1 u2
        go_wp2_with fail
        refine bodyPost_ret (v := .tuple #[.agg #[.bool neg', .slice ao' n' cap'], .int .i64 0]) (by simp [results, Try.results63, go_sem, d0, d1]) rfl ?_
        exact ⟨_, _, _, _, _, rfl, by have h := HI.out; rw [← HVAL.out, ← HPP.out] at h; exact h, by omega, (hb4.setCell (p := ⟨w.heap.size, 0, none⟩) (by dsimp only; omega) _).setCell (p := ⟨w.heap.size, 1, none⟩) (by dsimp only; omega) _⟩

theorem rparse_bad (w : World) (s : ByteArray) (r : Int) (h : r < 2 ∨ 36 < r) : Calls Try.prog 63 #[.string s, .int .i64 r] w (RetBothR w 0 1 33554432) := by
  rcases h with h | h
  · go_enter Try.func63, Try.ntmps63
    go_wp2_with fail
    have hr2 := heap_alloc_new w (.cells #[.bool false, .slice none 0 0] 31)
    obtain ⟨c0, c1, f0, f1⟩ := blk2R hr2
    refine bodyPost_ret (v := .tuple #[.agg #[.bool false, .slice none 0 0], .int .i64 1]) (by simp [results, Try.results63, go_sem, c0, c1]) rfl ?_
    exact ⟨_, _, _, _, _, rfl, ref_zero _, by omega, by go_grown⟩
  · have h0 : ¬ r < 2 := by omega
    go_enter Try.func63, Try.ntmps63
    go_wp2_with fail
    have hr2 := heap_alloc_new w (.cells #[.bool false, .slice none 0 0] 31)
    obtain ⟨c0, c1, f0, f1⟩ := blk2R hr2
    refine bodyPost_ret (v := .tuple #[.agg #[.bool false, .slice none 0 0], .int .i64 1]) (by simp [results, Try.results63, go_sem, c0, c1]) rfl ?_
    exact ⟨_, _, _, _, _, rfl, ref_zero _, by omega, by go_grown⟩

set_option maxRecDepth 100000 in
theorem rparse_none (w : World) (s : ByteArray) (r : Int) (h2 : 2 ≤ r) (h36 : r ≤ 36) (hs : s.size = 0) : Calls Try.prog 63 #[.string s, .int .i64 r] w (RetBothR w 0 2 33554432) := by
  have hr1 : ¬ 36 < r := by omega
  have hr2 : ¬ r < 2 := by omega
  have hsz : ¬ (20000 : Int) < s.size := by omega
  go_enter Try.func63, Try.ntmps63
  go_wp2_with fail
  next =>
    have hr2 := heap_alloc_new w (.cells #[.bool false, .slice none 0 0] 31)
    obtain ⟨c0, c1, f0, f1⟩ := blk2R hr2
    refine bodyPost_ret (v := .tuple #[.agg #[.bool false, .slice none 0 0], .int .i64 2]) (by simp [results, Try.results63, go_sem, c0, c1]) rfl ?_
    exact ⟨_, _, _, _, _, rfl, ref_zero _, by omega, by go_grown⟩

set_option maxRecDepth 100000 in
theorem rparse_sign (w : World) (s : ByteArray) (r : Int) (h2 : 2 ≤ r) (h36 : r ≤ 36) (hs : s.size = 1) (hs0 : 0 < s.size) (y : Nat) (hy : (s[0]'hs0).toNat = y) (hyy : y = 45 ∨ y = 43) : Calls Try.prog 63 #[.string s, .int .i64 r] w (RetBothR w 0 2 33554432) := by
  have hr1 : ¬ 36 < r := by omega
  have hr2 : ¬ r < 2 := by omega
  have hsz : ¬ (20000 : Int) < s.size := by omega
  have hss : (0 : Int) < s.size := by omega
  have hq1 : (((s.size - 1 : Nat) : Int) == 0) = true := by simp; omega
  clear hs
  rcases hyy with rfl | rfl
  · go_enter Try.func63, Try.ntmps63
    go_wp2_with fail
    have hr2 := heap_alloc_new w (.cells #[.bool false, .slice none 0 0] 31)
    obtain ⟨c0, c1, f0, f1⟩ := blk2R hr2
    refine bodyPost_ret (v := .tuple #[.agg #[.bool false, .slice none 0 0], .int .i64 2]) (by simp [results, Try.results63, go_sem, c0, c1]) rfl ?_
    exact ⟨_, _, _, _, _, rfl, ref_zero _, by omega, by go_grown⟩
  · go_enter Try.func63, Try.ntmps63
    go_wp2_with fail
    have hr2 := heap_alloc_new w (.cells #[.bool false, .slice none 0 0] 31)
    obtain ⟨c0, c1, f0, f1⟩ := blk2R hr2
    refine bodyPost_ret (v := .tuple #[.agg #[.bool false, .slice none 0 0], .int .i64 2]) (by simp [results, Try.results63, go_sem, c0, c1]) rfl ?_
    exact ⟨_, _, _, _, _, rfl, ref_zero _, by omega, by go_grown⟩
end Go.Proofs.Ytkifebmlojdjnaa
