/- The reference's New and Limbs; slices.Equal; Limbs; Is. -/
import Derived.Test.YtpakfknacmcohaaRef1
import Derived.Test.YtpakfknacmcohaaText2
namespace Go.Proofs.Ytpakfknacmcohaa
open Go.RowKit
set_option autoImplicit false
set_option linter.unusedVariables false

theorem Dig_nil (r : Int) : Dig r [] := by intro d hd; cases hd

theorem own_shape {B : Nat} {w : World} {e : TypeId} {s : Nat} {v : Value} {n : Nat} {xs : List Value} (h : w.ownsRow B e s v n xs) : ∃ ao cap, v = .slice ao n cap := by
  rcases h.2 with ⟨hv, h0⟩ | ⟨g, c, cur, hv, _⟩
  · exact ⟨none, 0, by rw [hv, h0]⟩
  · exact ⟨_, _, hv⟩

theorem cell_new (w : World) (u : Value) (t : TypeId) : (w.alloc (.cells #[u] t)).cell? ⟨w.heap.size, 0, none⟩ = some u := by
  rw [cell_of_row _ w.heap.size 0 #[u] t (0, 0) (heap_alloc_new w _)]; rfl

/-- 'append(s, x)' of one value of one cell, s the call's own: the value x lies in a block that has just been laid. -/
theorem wpList_app1 {P : Program} {w : World} {ops : Array Oper} {rest : List Oper} {o : Oper} {a : Act} {Q : Exit → Act → World → Prop} (hgd : o.guard = none) (s x : Operand) (t : TypeId)
    (ho : o.op = .call { callee := .builtin .append, args := #[s, x], argTypes := #[t, t] })
    (base : Nat) (e : TypeId) (i : TypeInfo) (z : Value) (bytes : Nat) (ht : P.underlying t = some (.slice e)) (hi : P.info? e = some i) (hz : i.zero = some z)
    (hsize : i.size = 1) (hby : i.bytes = bytes) (hzs : z.cells.size = 1)
    (v : Value) (n : Nat) (xs : List Value) (u : Value) (hs : a.eval s = v) (hown : w.ownsRow base e 1 v n xs)
    (hx : a.eval x = .slice (some ⟨w.heap.size, 0, none⟩) 1 1) (h1 : u.oneCell' = true)
    (hn : n ≤ 1099511627776) (hb : bytes ≤ 64) (hbase : base ≤ w.heap.size)
    (h : ∀ ao c w', w'.ownsRow base e 1 (.slice ao (n + 1) c) (n + 1) (xs ++ [u]) → (w.alloc (.cells #[u] e)).grownBy w' v.ownBlock → wpList P ops Q rest (a.put o.dst (.slice ao (n + 1) c)) w') :
    wpList P ops Q (o :: rest) a (w.alloc (.cells #[u] e)) := by
  refine wpList_append_own _ hgd s x t ho base e i z 1 bytes ht hi hz hsize hby hzs (by decide) v n xs hs (hown.alloc _) ⟨w.heap.size, 0, none⟩ 1 1 [u] hx rfl ?_ ?_ (by unfold maxLen; omega) ?_ (by simp; omega) ?_
  · intro j v' hj
    match j, hj with
    | 0, hj =>
      simp at hj
      subst hj
      simp [Addr.add]
  · intro v' hv'
    simp at hv'
    subst hv'
    exact h1
  · have : (n + 1) * bytes ≤ (n + 1) * 64 := Nat.mul_le_mul_left _ hb
    omega
  · intro v' w' ho' hg' _
    obtain ⟨ao, c, rfl⟩ : ∃ ao c, v' = .slice ao (n + 1) c := by
      rcases ho'.2 with ⟨hv, h0⟩ | ⟨g, c, cur, hv, _⟩
      · omega
      · exact ⟨_, _, hv⟩
    exact h ao c w' ho' hg'

set_option maxRecDepth 100000 in
theorem rnew_any (w : World) (x : Int) (h0 : -9223372036854775808 ≤ x) (h1 : x ≤ 9223372036854775807) : Calls Try.prog 18 #[.int .i64 x] w (RetRef w x 4) := by
  obtain ⟨i0, hi, hz0, hz1, hz2⟩ := info_parts info_int
  obtain ⟨u, hu⟩ : ∃ u : Int, u = x.natAbs := ⟨_, rfl⟩
  have hs := sgn_abs x
  rw [← hu] at hs
  have hu0 : 0 ≤ u := by omega
  have hu1 : u < 18446744073709551616 := by omega
  have HS := Lib.hid hs
  clear hs
  have e0 : x < 0 → IntKind.u64.wrap (- IntKind.u64.wrap x) = u := fun hx => by rw [IntKind.wrap_u64, IntKind.wrap_u64]; omega
  have e1 : ¬ x < 0 → IntKind.u64.wrap x = u := fun hx => by rw [IntKind.wrap_u64]; omega
  clear hu
  by_cases hx : x < 0
  rotate_left
  have e2 := e1 hx
  rotate_left
  have e2 := e0 hx
  all_goals
    clear e0 e1
    go_enter Try.func18, Try.ntmps18
    go_wp2_with fail
    go_loopg [3, 4] u.toNat (fun gk uu d wr => ∃ (q : Int) (ds : List Int) (k : Nat), ∃ to tc, uu = .int .u64 q ∧ d = .slice to k tc ∧ gk = q.toNat ∧ 0 ≤ q ∧ k ≤ 4 ∧ q < 65536 ^ (4 - k) ∧
        OwnI (w.heap.size + 1) wr to k tc ds ∧ Dig 65536 ds ∧ dval 65536 ds + 65536 ^ k * q = u ∧ Below (w.heap.size + 1) (w.alloc (.cells #[.bool false, .slice none 0 0] 31)) wr)
    case atStart => exact ⟨u, [], 0, none, 0, rfl, rfl, rfl, hu0, by omega, by simpa using hu1, World.ownsRow_nil _ _ _ _, Dig_nil _, by simp [dval], Below.refl _ _⟩
    case round =>
      obtain ⟨q, ds, k, to, tc, rfl, rfl, hgk, hq0, hk, hqk, hown, hdig, hval, hbel⟩ := hrel
      have HO := Lib.hid hown
      have HV := Lib.hid hval
      have HG := Lib.hid hgk
      have HK := Lib.hid hqk
      have HDL : Hid (ds.length = k) := hown.sl.len
      have hsz : w.heap.size + 1 ≤ wr.heap.size := by have := hbel.size; simpa using this
      have HB := Lib.hid hbel
      clear hown hval hgk hqk hbel
      by_cases hq : 0 < q
      · have hk4 : k < 4 := by
          rcases (show k < 4 ∨ k = 4 by omega) with h | h
          · exact h
          · have := HK.out; rw [h] at this; simp at this; omega
        have hm0 : 0 ≤ q % 65536 := by omega
        have hqu : q ≤ 18446744073709551615 := by
          have h1 := HV.out
          have h2 := dval_nonneg (r := 65536) (by omega) hdig
          have h3 : (1 : Int) ≤ 65536 ^ k := by have := rpow_pos (r := 65536) (by omega) k; omega
          have h4 : 1 * q ≤ 65536 ^ k * q := Int.mul_le_mul_of_nonneg_right h3 hq0
          omega
        go_wp2_with (at_builtin; refine wpList_app1 rfl _ _ 29 rfl (w.heap.size + 1) 3 i0 (.int .i64 0) 8 Try.underlying29 hi hz0 hz1 hz2 rfl (.slice to k tc) k (ds.map (Value.int .i64)) (.int .i64 (q % 65536)) rfl HO.out rfl rfl (by omega) (by omega) hsz ?_)
        intro to2 tc2 w2 hown2 hgrow
        have hrow2 : OwnI (w.heap.size + 1) w2 to2 (k + 1) tc2 (ds ++ [q % 65536]) := by
          unfold OwnI
          rw [List.map_append]
          exact hown2
        have hb2 : Below (w.heap.size + 1) (w.alloc (.cells #[.bool false, .slice none 0 0] 31)) w2 := Below.grown (HB.out.alloc hsz _) hgrow (by simp; omega) (by intro g hg; exact (World.ownsRow.lt HO.out g hg).1)
        have HR2 := Lib.hid hrow2
        have HB2 := Lib.hid hb2
        clear hown2 hgrow hrow2 hb2
        go_wp2_with fail
        go_roundg (q / 65536).toNat
        case measure => have := HG.out; omega
        case rel =>
          have hdl := HDL.out
          have hst := dig_step (r := 65536) (q := q) (ds := ds) (S := u) (by rw [hdl]; exact HV.out)
          rw [List.length_append, hdl] at hst
          refine ⟨q / 65536, ds ++ [q % 65536], k + 1, to2, tc2, rfl, rfl, rfl, by omega, by omega, ?_, HR2.out, Dig_snoc hdig hm0 (by omega), hst, HB2.out⟩
          have h5 := HK.out
          rw [show 4 - k = (4 - (k + 1)) + 1 by omega, Int.pow_succ] at h5
          exact Int.ediv_lt_of_lt_mul (by omega) h5
      · have hq00 : q = 0 := by omega
        have hv : dval 65536 ds = u := by have := HV.out; rw [hq00] at this; simpa using this
        have HV2 := Lib.hid hv
        clear hv
        go_wp2_with fail
        refine (made_int wr _ _ _ _ ds HO.out.sl hdig rfl).mono ?_
        rintro e w2 ⟨neg', ao', n', cap', zs', rfl, hint, hn', hb3⟩
        have hr2 : w2.heap[w.heap.size]? = some (.cells #[.bool false, .slice none 0 0] 31 (0, 0)) := (hb3.block _ (by omega)).trans ((HB.out.block _ (by omega)).trans (heap_alloc_new w _))
        obtain ⟨c0, c1, f0, f1⟩ := blk2 hr2
        have HI := Lib.hid (hint.stored hr2 (.bool neg') (.slice ao' n' cap'))
        clear hint hr2
        have hb4 : Below w.heap.size w w2 := (((Below.refl _ _).alloc (Nat.le_refl _) _).trans (HB.out.mono (by omega))).trans (hb3.mono (by omega))
        go_wp2
        refine bodyPost_ret (v := .agg #[.bool neg', .slice ao' n' cap']) (by simp [results, Try.results18, go_sem, c0, c1]) rfl ?_
        exact fin_ref (Nat.le_refl _) hb4 HI.out (by have := HS.out; rw [HV2.out]; simpa [hx] using this) (Nat.le_trans hn' hk)
end Go.Proofs.Ytpakfknacmcohaa
