/- The reference's Sign, Neg, Abs, Odd. -/
import Derived.Test.YtihfokdehcdgdaaRef7
import Derived.Test.YtihfokdehcdgdaaInt2
namespace Go.Proofs.Ytihfokdehcdgdaa
open Go.RowKit
set_option autoImplicit false
set_option linter.unusedVariables false

theorem rsign_any (w : World) (nx : Bool) (ao : Option Addr) (n capa : Nat) (xs : List Int) (x : Int) (hx : RefAt w nx ao n capa xs x) :
    Calls Try.prog 23 #[.agg #[.bool nx, .slice ao n capa]] w (RetV w (.int .i64 (cmpI x 0))) := by
  have hlen := hx.sl.len
  have h0 := dval_nonneg (r := 65536) (by omega) hx.lim
  by_cases hn : n = 0
  · have hxs : xs = [] := List.eq_nil_of_length_eq_zero (by omega)
    have hx0 : cmpI x 0 = 0 := by rw [hx.val, hxs]; cases nx <;> simp [sgn, dval, cmpI]
    rw [hx0]
    subst hn
    clear hlen h0 hx hxs hx0
    go_enter Try.func23, Try.ntmps23
    go_wp2
    go_ret
    exact ⟨rfl, by go_grown⟩
  · have hne : xs ≠ [] := by intro h; rw [h] at hlen; simp at hlen; omega
    have hpos := dval_pos_of_top (r := 65536) (by omega) hx.lim hx.top hne
    have hp := rpow_pos (r := 65536) (by omega) (xs.length - 1)
    have hne0 : ((n : Int) == 0) = false := by simp; omega
    cases nx
    · have hx0 : cmpI x 0 = 1 := cmpI_gt (by rw [hx.val]; simp [sgn]; omega)
      rw [hx0]
      clear hlen h0 hx hne hpos hp hx0
      go_enter Try.func23, Try.ntmps23
      go_wp2
      go_ret
      exact ⟨rfl, by go_grown⟩
    · have hx0 : cmpI x 0 = -1 := cmpI_lt (by rw [hx.val]; simp [sgn]; omega)
      rw [hx0]
      clear hlen h0 hx hne hpos hp hx0
      go_enter Try.func23, Try.ntmps23
      go_wp2
      go_ret
      exact ⟨rfl, by go_grown⟩

theorem rneg_any (w : World) (neg : Bool) (ao : Option Addr) (n cap : Nat) (zs : List Int) (x : Int) (h : RefAt w neg ao n cap zs x) :
    Calls Try.prog 35 #[.agg #[.bool neg, .slice ao n cap]] w (RetRef w (-x) n) := by
  have hx : -x = sgn (!neg) (dval 65536 zs) := by rw [h.val]; cases neg <;> simp [sgn]
  have HC : Hid (∀ w1, Below w.heap.size w w1 → Calls Try.prog 72 #[.bool (!neg), .slice ao n cap] w1 (RetRef w1 (-x) n)) :=
    Lib.hid (fun w1 hb => made_int w1 (!neg) ao n cap zs (h.sl.below hb) h.lim hx)
  clear h hx
  go_enter Try.func35, Try.ntmps35
  go_wp2_with fail
  refine (HC.out _ (by go_grown)).mono ?_
  rintro e w2 ⟨neg', ao', n', cap', zs', rfl, hint, hn', hb1⟩
  have hr2 : w2.heap[w.heap.size + 1]? = some (.cells #[.bool false, .slice none 0 0] 31 (0, 0)) := (hb1.block _ (by simp)).trans (heap_alloc2 _ _ _).1
  obtain ⟨c0, c1, f0, f1⟩ := blk2 hr2
  have HI := Lib.hid (hint.stored hr2 (.bool neg') (.slice ao' n' cap'))
  have hb4 : Below w.heap.size w w2 := Below.trans (by go_grown) (hb1.mono (by go_size))
  clear hint hr2
  go_wp2
  refine bodyPost_ret (v := .agg #[.bool neg', .slice ao' n' cap']) (by simp [results, Try.results35, go_sem, c0, c1]) rfl ?_
  exact fin_ref (by omega) hb4 HI.out rfl hn'

theorem rabs_any (w : World) (neg : Bool) (ao : Option Addr) (n cap : Nat) (zs : List Int) (x : Int) (h : RefAt w neg ao n cap zs x) :
    Calls Try.prog 37 #[.agg #[.bool neg, .slice ao n cap]] w (RetRef w x.natAbs n) := by
  have h0 := dval_nonneg (r := 65536) (by omega) h.lim
  have hx : (x.natAbs : Int) = dval 65536 zs := by rw [h.val]; cases neg <;> simp [sgn] <;> omega
  have HX := Lib.hid hx
  have HA : Hid (∀ w1, Below w.heap.size w w1 → RefAt w1 false ao n cap zs x.natAbs) := Lib.hid (fun w1 hb => ⟨h.sl.below hb, h.lim, h.top, by intro hh; simp at hh, by rw [HX.out]; simp [sgn]⟩)
  clear hx h0 h
  go_enter Try.func37, Try.ntmps37
  go_wp2_with fail
  have hr2 := (heap_alloc2 w (.cells #[.bool neg, .slice ao n cap] 31) (.cells #[.bool false, .slice ao n cap] 31)).1
  obtain ⟨c0, c1, f0, f1⟩ := blk2 hr2
  refine bodyPost_ret (v := .agg #[.bool false, .slice ao n cap]) (by simp [results, Try.results37, go_sem, c0, c1]) rfl ?_
  exact ⟨_, _, _, _, _, rfl, HA.out _ (by go_grown), Nat.le_refl _, by go_grown⟩

theorem odd_val {neg : Bool} {d : Int} {v : Int} {k : Int} (h : v = d + 2 * k) (h0 : 0 ≤ d) : decide (sgn neg v % 2 = 1) = (d % 2 == 1) := by
  have : (sgn neg v % 2 = 1) ↔ (d % 2 = 1) := by
    cases neg <;> simp [sgn] <;> omega
  rw [Bool.eq_iff_iff]
  simpa using this

theorem rodd_any (w : World) (nx : Bool) (ao : Option Addr) (n capa : Nat) (xs : List Int) (x : Int) (hx : RefAt w nx ao n capa xs x) :
    Calls Try.prog 25 #[.agg #[.bool nx, .slice ao n capa]] w (RetV w (.bool (decide (x % 2 = 1)))) := by
  have hlen := hx.sl.len
  by_cases hn : n = 0
  · have hxs : xs = [] := List.eq_nil_of_length_eq_zero (by omega)
    have hx0 : decide (x % 2 = 1) = false := by rw [hx.val, hxs]; cases nx <;> simp [sgn, dval]
    rw [hx0]
    subst hn
    clear hlen hx hxs hx0
    go_enter Try.func25, Try.ntmps25
    go_wp2
    go_ret
    exact ⟨rfl, by go_grown⟩
  · obtain ⟨b, o, rfl, hc⟩ := hx.sl.cells.at (k := 0) (by omega)
    have hd := Dig_getD (by omega : (0 : Int) < 65536) hx.lim 0
    have hv : dval 65536 xs = xs.getD 0 0 + 2 * (32768 * dval 65536 (xs.drop 1)) := by
      have := drop_getD (a := xs) (i := 0) (by omega)
      rw [List.drop_zero, Nat.zero_add] at this
      conv => lhs; rw [this]
      simp only [dval]
      omega
    have hod := odd_val (neg := nx) hv hd.1
    rw [← hx.val] at hod
    obtain ⟨d, hdd⟩ : ∃ d, xs.getD 0 0 = d := ⟨_, rfl⟩
    rw [hdd] at hc hd hod
    simp only [Nat.add_zero] at hc
    rw [hod]
    have hcap := hx.sl.le
    have hmx : capa ≤ 9223372036854775807 := by have := hx.sl.most; unfold maxLen at this; omega
    obtain ⟨hd0, hd1⟩ := hd
    have hb := World.block_lt_of_cell? w _ hc
    have hn0 : (0 : Int) < n := by omega
    have hne := World.new_ne w _ hc
    clear hx hlen hdd hod hv
    go_enter Try.func25, Try.ntmps25
    go_wp2
    go_ret
    exact ⟨rfl, by go_grown⟩
end Go.Proofs.Ytihfokdehcdgdaa
