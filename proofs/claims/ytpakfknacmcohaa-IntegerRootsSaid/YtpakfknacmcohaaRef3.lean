/- The reference's Limbs; slices.Equal; Limbs; Is. -/
import Derived.Test.YtpakfknacmcohaaRef2
namespace Go.Proofs.Ytpakfknacmcohaa
open Go.RowKit
set_option autoImplicit false
set_option linter.unusedVariables false

theorem limb_pair {ds : List Int} {out : List Int} {k : Nat} (hl : out.length = k) (h : val out = dval 65536 (ds.take (2 * k))) :
    val (out ++ [ds.getD (2 * k) 0 + ds.getD (2 * k + 1) 0 * 65536]) = dval 65536 (ds.take (2 * (k + 1))) := by
  rw [val_snoc, hl, show 2 * (k + 1) = 2 * k + 1 + 1 by omega, dval_take_succ, dval_take_succ, h, Int.pow_succ]
  have : (4294967296 : Int) ^ k = 65536 ^ (2 * k) := by rw [Int.pow_mul]; rfl
  rw [this]
  grind

theorem CellsI.at {w : World} {ao : Option Addr} {zs : List Int} (h : CellsI w ao zs) {k : Nat} (hk : k < zs.length) : ∃ b o, ao = some ⟨b, o, none⟩ ∧ w.cell? ⟨b, o + k, none⟩ = some (.int .i64 (zs.getD k 0)) := by
  rcases h with h | ⟨b, o, h1, h2⟩
  · rw [h] at hk; simp at hk
  · exact ⟨b, o, h1, h2 k hk⟩
theorem Dig_getD {r : Int} (hr : 0 < r) {ds : List Int} (h : Dig r ds) (k : Nat) : 0 ≤ ds.getD k 0 ∧ ds.getD k 0 < r := by
  by_cases hk : k < ds.length
  · rw [getD_lt hk]; exact h _ (List.getElem_mem hk)
  · rw [getD_ge (by omega)]; omega

set_option maxRecDepth 100000 in
theorem rlimbs_any (w : World) (neg : Bool) (ao : Option Addr) (n cap : Nat) (ds : List Int) (x : Int) (h : RefAt w neg ao n cap ds x) (hn : n ≤ 4294967296) :
    Calls Try.prog 76 #[.agg #[.bool neg, .slice ao n cap]] w (RetNat w (dval 65536 ds) (n + 1)) := by
  obtain ⟨i0, hi, hz0, hz1, hz2⟩ := info_parts info_u32
  have HL := Lib.hid h.sl.len
  have HC := Lib.hid h.sl.cells
  have HD := Lib.hid h.lim
  have HT := Lib.hid h.top
  clear h
  go_enter Try.func76, Try.ntmps76
  go_wp2_with fail
  go_loopw [3, 4] (fun o i wr => ∃ (k : Nat) (out : List Int), ∃ to tc, i = .int .i64 (2 * (k : Int)) ∧ 2 * k ≤ n + 1 ∧ o = .slice to k tc ∧ Own (w.heap.size + 1) wr to k tc out ∧ Lim out ∧ val out = dval 65536 (ds.take (2 * k)) ∧ (0 < k → out.getD (k - 1) 0 = ds.getD (2 * (k - 1)) 0 + ds.getD (2 * (k - 1) + 1) 0 * 65536) ∧
      Below (w.heap.size + 1) (w.alloc (.cells #[.bool neg, .slice ao n cap] 31)) wr) (fun _ i _ => n + 2 - (intOf i).toNat)
  case atStart => exact ⟨0, [], none, 0, rfl, by omega, rfl, World.ownsRow_nil _ _ _ _, Lim_nil, by simp [val, dval], by omega, Below.refl _ _⟩
  case round =>
    obtain ⟨k, out, to, tc, rfl, hk, rfl, hown, hlim, hval, hlast, hbel⟩ := hrel
    have HO := Lib.hid hown
    have HV := Lib.hid hval
    have HLA := Lib.hid hlast
    have hbk : wr.heap[w.heap.size]? = some (.cells #[.bool neg, .slice ao n cap] 31 (0, 0)) := (hbel.block _ (by omega)).trans (heap_alloc_new w _)
    obtain ⟨c0, c1, _, _⟩ := blk2 hbk
    have hb0 : Below w.heap.size w wr := ((Below.refl _ _).alloc (Nat.le_refl _) _).trans (hbel.mono (by omega))
    have hsz : w.heap.size + 1 ≤ wr.heap.size := by have := hbel.size; simpa using this
    have HB := Lib.hid hbel
    have HBK := Lib.hid hbk
    clear hown hval hlast hbel hbk
    by_cases h1 : 2 * k < n
    · obtain ⟨d, hd⟩ : ∃ d, ds.getD (2 * k) 0 = d := ⟨_, rfl⟩
      obtain ⟨e, he⟩ : ∃ e, ds.getD (2 * k + 1) 0 = e := ⟨_, rfl⟩
      have hd1 := Dig_getD (by omega) HD.out (2 * k)
      have he1 := Dig_getD (by omega) HD.out (2 * k + 1)
      obtain ⟨b, o, rfl, hcd⟩ := (HC.out.below hb0).at (k := 2 * k) (by rw [HL.out]; exact h1)
      rw [hd] at hd1 hcd
      rw [he] at he1
      obtain ⟨hd0, hd1⟩ := hd1
      obtain ⟨he0, he1⟩ := he1
      have HDD := Lib.hid hd
      have HEE := Lib.hid he
      clear hd he
      have hkn : 2 * (k : Int) < n := by omega
      have hk0 : (0 : Int) ≤ 2 * k := by omega
      by_cases h2 : 2 * k + 1 < n
      · obtain ⟨b', o', hbo, hce⟩ := (HC.out.below hb0).at (k := 2 * k + 1) (by rw [HL.out]; exact h2)
        obtain ⟨rfl, rfl⟩ : b = b' ∧ o = o' := by simpa using hbo
        rw [HEE.out] at hce
        go_wp2_with (at_builtin; refine wpList_app1 rfl _ _ 22 rfl (w.heap.size + 1) 99 i0 (.int .u32 0) 4 Try.underlying22 hi hz0 hz1 hz2 rfl (.slice to k tc) k (out.map (Value.int .u32)) (.int .u32 (d + e * 65536)) rfl HO.out rfl rfl (by omega) (by omega) hsz ?_)
        intro to2 tc2 w2 hown2 hgrow
        have hrow2 : Own (w.heap.size + 1) w2 to2 (k + 1) tc2 (out ++ [d + e * 65536]) := by
          unfold Own
          rw [List.map_append]
          exact hown2
        have hb2 : Below (w.heap.size + 1) (w.alloc (.cells #[.bool neg, .slice (some ⟨b, o, none⟩) n cap] 31)) w2 := Below.grown (HB.out.alloc hsz _) hgrow (by simp; omega) (by intro g hg; exact (World.ownsRow.lt HO.out g hg).1)
        have HR2 := Lib.hid hrow2
        have HB2 := Lib.hid hb2
        clear hown2 hgrow hrow2 hb2
        go_wp2_with fail
        go_roundw
        case rel =>
          have hol : out.length = k := HO.out.sl.len
          have hst := limb_pair hol HV.out
          rw [HDD.out, HEE.out] at hst
          refine ⟨k + 1, out ++ [d + e * 65536], to2, tc2, by go_num, by omega, rfl, HR2.out, Lim_snoc hlim (by omega) (by omega), ?_, ?_, HB2.out⟩
          · exact hst
          · intro _
            rw [show k + 1 - 1 = k by omega, HDD.out, HEE.out, getD_lt (by rw [List.length_append, hol]; simp), List.getElem_append_right (by omega)]
            simp [hol]
        case measure => simp [intOf]; omega
      · have he00 : e = 0 := by rw [← HEE.out]; exact getD_ge (by rw [HL.out]; omega)
        subst he00
        go_wp2_with (at_builtin; refine wpList_app1 rfl _ _ 22 rfl (w.heap.size + 1) 99 i0 (.int .u32 0) 4 Try.underlying22 hi hz0 hz1 hz2 rfl (.slice to k tc) k (out.map (Value.int .u32)) (.int .u32 d) rfl HO.out rfl rfl (by omega) (by omega) hsz ?_)
        intro to2 tc2 w2 hown2 hgrow
        have hrow2 : Own (w.heap.size + 1) w2 to2 (k + 1) tc2 (out ++ [d]) := by
          unfold Own
          rw [List.map_append]
          exact hown2
        have hb2 : Below (w.heap.size + 1) (w.alloc (.cells #[.bool neg, .slice (some ⟨b, o, none⟩) n cap] 31)) w2 := Below.grown (HB.out.alloc hsz _) hgrow (by simp; omega) (by intro g hg; exact (World.ownsRow.lt HO.out g hg).1)
        have HR2 := Lib.hid hrow2
        have HB2 := Lib.hid hb2
        clear hown2 hgrow hrow2 hb2
        go_wp2_with fail
        go_roundw
        case rel =>
          have hol : out.length = k := HO.out.sl.len
          have hst := limb_pair hol HV.out
          rw [HDD.out, HEE.out] at hst
          refine ⟨k + 1, out ++ [d], to2, tc2, by go_num, by omega, rfl, HR2.out, Lim_snoc hlim (by omega) (by omega), ?_, ?_, HB2.out⟩
          · simpa using hst
          · intro _
            rw [show k + 1 - 1 = k by omega, HDD.out, HEE.out, getD_lt (by rw [List.length_append, hol]; simp), List.getElem_append_right (by omega)]
            simp [hol]
        case measure => simp [intOf]; omega
    · have hv : val out = dval 65536 ds := by have := HV.out; rwa [List.take_of_length_le (by rw [HL.out]; omega)] at this
      have hol : out.length = k := HO.out.sl.len
      have htop : Top out := by
        by_cases hk0 : k = 0
        · left; exact List.eq_nil_of_length_eq_zero (by omega)
        · right
          rw [hol, HLA.out (by omega)]
          have hne : ds ≠ [] := by intro h; have := HL.out; rw [h] at this; simp at this; omega
          have h3 : ds.getD (ds.length - 1) 0 ≠ 0 := by
            rcases HT.out with h | h
            · exact absurd h hne
            · exact h
          rw [HL.out] at h3
          have h4 := Dig_getD (by omega) HD.out (2 * (k - 1))
          have h5 := Dig_getD (by omega) HD.out (2 * (k - 1) + 1)
          rcases (show n - 1 = 2 * (k - 1) ∨ n - 1 = 2 * (k - 1) + 1 by omega) with h6 | h6
          · rw [h6] at h3; omega
          · rw [h6] at h3; omega
      have HVV := Lib.hid hv
      have HTT := Lib.hid htop
      clear hv htop hol
      have hkn : (n : Int) ≤ 2 * (k : Int) := by omega
      go_wp2_with fail
      go_ret
      exact ⟨to, k, tc, out, rfl, HO.out.mono (by omega), hlim, HTT.out, HVV.out, by omega, hb0⟩
end Go.Proofs.Ytpakfknacmcohaa
