/- slices.Equal over limbs; Limbs; Is. -/
import Derived.Test.YtkifebmlojdjnaaRefs
namespace Go.Proofs.Ytkifebmlojdjnaa
open Go.RowKit
set_option autoImplicit false
set_option linter.unusedVariables false

set_option maxRecDepth 100000 in
theorem equal_any (w : World) (ao bo : Option Addr) (n m capa capb : Nat) (xs ys : List Int) (hx : Sl w ao n capa xs) (hy : Sl w bo m capb ys) :
    Calls Try.prog 75 #[.slice ao n capa, .slice bo m capb] w (RetQ w (.bool (decide (xs = ys)))) := by
  have HEX := Lib.hid hx.len
  have HEY := Lib.hid hy.len
  have HCX := Lib.hid hx.cells
  have HCY := Lib.hid hy.cells
  have hmost := hx.most
  have hle := hx.le
  have HB' := Lib.hid (show capb ≤ 9223372036854775807 ∧ m ≤ capb from ⟨by have := hy.most; unfold maxLen at this; omega, hy.le⟩)
  unfold maxLen at hmost
  clear hx hy
  by_cases hnm : n = m
  · subst hnm
    go_enter Try.func75, Try.ntmps75
    go_wp2_with fail
    go_loopw [13] (fun i wr => ∃ k : Nat, k ≤ n ∧ i = .int .i64 k ∧ (∀ j, j < k → xs.getD j 0 = ys.getD j 0) ∧ ∃ q, wr = w.drewN q) (fun i _ => n - (intOf i).toNat)
    case atStart => exact ⟨0, Nat.zero_le _, rfl, fun j hj => by omega, 0, rfl⟩
    case round =>
      obtain ⟨k, hk, rfl, hall, q, rfl⟩ := hrel
      have HA := Lib.hid hall
      clear hall
      by_cases hkn : k < n
      · obtain ⟨a, ha⟩ : ∃ a, xs.getD k 0 = a := ⟨_, rfl⟩
        obtain ⟨b, hb⟩ : ∃ b, ys.getD k 0 = b := ⟨_, rfl⟩
        obtain ⟨ba, oa, rfl, hca⟩ := HCX.out.at (k := k) (by rw [HEX.out]; exact hkn)
        obtain ⟨bb, ob, rfl, hcb⟩ := HCY.out.at (k := k) (by rw [HEY.out]; exact hkn)
        rw [ha] at hca
        rw [hb] at hcb
        have HX := Lib.hid ha
        have HY := Lib.hid hb
        clear ha hb
        have hk1 : (k : Int) < n := by omega
        by_cases hab : a = b
        · subst hab
          have hne : (a != a) = false := by simp
          go_wp2_with fail
          go_quiet (fail)
          go_wp2_with fail
          go_roundw
          case rel =>
            refine ⟨k + 1, by omega, by go_num, fun j hj => ?_, _, rfl⟩
            by_cases h : j = k
            · rw [h, HX.out, HY.out]
            · exact HA.out j (by omega)
          case measure => simp [intOf]; omega
        · have hne : (a != b) = true := by simpa using hab
          have hd : decide (xs = ys) = false := by
            rw [decide_eq_false_iff_not]
            intro h
            exact hab (by rw [← HX.out, ← HY.out, h])
          have HD := Lib.hid hd
          clear hd
          go_wp2_with fail
          go_quiet (fail)
          go_wp2_with fail
          go_ret
          exact ⟨by rw [HD.out]; rfl, _, by first | rfl | (rw [World.drewN_drewN])⟩
      · have hd : decide (xs = ys) = true := by
          rw [decide_eq_true_iff]
          apply List.ext_getElem
          · rw [HEX.out, HEY.out]
          · intro j h1 h2
            have h3 := HA.out j (by rw [HEX.out] at h1; omega)
            rw [getD_lt h1, getD_lt h2] at h3
            exact h3
        have HD := Lib.hid hd
        clear hd
        go_wp2_with fail
        go_ret
        exact ⟨by rw [HD.out]; rfl, q, rfl⟩
  · have hd : decide (xs = ys) = false := by
      rw [decide_eq_false_iff_not]
      intro h
      exact hnm (by rw [← HEX.out, ← HEY.out, h])
    have hmost' : capb ≤ 9223372036854775807 ∧ m ≤ capb := HB'.out
    have hne : ((n : Int) != (m : Int)) = true := by simp; omega
    rw [hd]
    clear hd
    go_enter Try.func75, Try.ntmps75
    go_wp2_with fail
    go_ret
    exact ⟨rfl, 0, rfl⟩

/-- The sign and the limbs were returned. -/
def RetLimbs (w : World) (neg : Bool) (zs : List Int) (n : Nat) (e : Ending) (w' : World) : Prop :=
  ∃ ao cap, e = .returned (.tuple #[.bool neg, .slice ao n cap]) ∧ Sl w' ao n cap zs ∧ Below w.heap.size w w'

theorem limbs_int (w : World) (neg : Bool) (ao : Option Addr) (n cap : Nat) (zs : List Int) (x : Int) (h : IntAt w neg ao n cap zs x) (hn : n ≤ 34359738368) :
    Calls Try.prog 74 #[.agg #[.bool neg, .slice ao n cap]] w (RetLimbs w neg zs n) := by
  have HC : Hid (∀ w1, Below w.heap.size w w1 → _) := fun w1 hb => clone_any w1 ao n cap zs (h.sl.below hb) hn
  clear h
  go_enter Try.func74, Try.ntmps74
  go_wp2_with fail
  go_region_held3 (fun w' => w'.cell? ⟨w.heap.size, 0, none⟩ = some (.bool neg) ∧ w'.cell? ⟨w.heap.size, 1, none⟩ = some (.slice ao n cap)) (((try dsimp only); (repeat' apply And.intro) <;> (first | (go_keep; done) | (go_split_ands; rw [hb1.cell (by go_size)]; assumption))))
    (first | (go_at_call 85; refine (HC.out _ ?_).mono ?_; (go_grown); rintro e w1 ⟨ao1, cap1, rfl, hown, hb1⟩; have HO := Lib.hid hown.sl; clear hown))
  have hb2 : Below w.heap.size w w1 := Below.trans (by go_grown) (hb1.mono (by go_size))
  go_wp2
  go_ret2
  exact ⟨_, _, rfl, HO.out, hb2⟩

theorem is_eq {nx ny : Bool} {a b : Int} (ha : 0 ≤ a) (hb : 0 ≤ b) (h1 : nx = true → 0 < a) (h2 : ny = true → 0 < b) : (sgn nx a = sgn ny b) ↔ (nx = ny ∧ a = b) := by
  cases nx <;> cases ny <;> simp [sgn] at *
  · omega
  · omega

set_option maxRecDepth 100000 in
theorem is_any (w : World) (nx ny : Bool) (ao bo : Option Addr) (n m capa capb : Nat) (xs ds : List Int) (x y : Int) (hx : IntAt w nx ao n capa xs x) (hy : RefAt w ny bo m capb ds y) (hn : n ≤ 4294967296) (hm : m ≤ 4294967296) :
    Calls Try.prog 21 #[.agg #[.bool nx, .slice ao n capa], .agg #[.bool ny, .slice bo m capb]] w (RetV w (.bool (decide (x = y)))) := by
  have HLX : Hid (∀ w1, Below w.heap.size w w1 → Calls Try.prog 74 #[.agg #[.bool nx, .slice ao n capa]] w1 (RetLimbs w1 nx xs n)) :=
    fun w1 hb => limbs_int w1 nx ao n capa xs x (hx.below hb) (by omega)
  have HLY : Hid (∀ w1, Below w.heap.size w w1 → Calls Try.prog 76 #[.agg #[.bool ny, .slice bo m capb]] w1 (RetNat w1 (dval 65536 ds) (m + 1))) :=
    fun w1 hb => rlimbs_any w1 ny bo m capb ds y (hy.below hb) hm
  have hiff : (x = y) ↔ (nx = ny ∧ val xs = dval 65536 ds) := by
    rw [hx.val, hy.val]
    refine is_eq (val_nonneg hx.lim) (dval_nonneg (by omega) hy.lim) ?_ ?_
    · intro h; have h1 := val_pos_of_top hx.lim hx.top (hx.sign h); have h2 := pow_pos (xs.length - 1); omega
    · intro h
      have hne := hy.sign h
      have ht : ds = [] ∨ ds.getD (ds.length - 1) 0 ≠ 0 := hy.top
      obtain ⟨v, h1, _, h3⟩ := digs_of (r := 65536) (by omega) hy.lim ht
      have := h3 hne
      have h1' : dval 65536 ds = (v : Int) := h1
      omega
  have HIFF := Lib.hid hiff
  have HLIM := Lib.hid hx.lim
  have HTOP := Lib.hid hx.top
  clear hx hy hiff
  by_cases hs : nx = ny
  · have hsb : (nx == ny) = true := by simp [hs]
    have HS := Lib.hid hs
    clear hs
    go_enter Try.func21, Try.ntmps21
    go_wp2_with fail
    refine (HLX.out _ (by go_grown)).mono ?_
    rintro e w1 ⟨a1, c1, rfl, hsl1, hb1⟩
    have hbk : w1.heap[w.heap.size + 1]? = some (.cells #[.bool ny, .slice bo m capb] 31 (0, 0)) := (hb1.block _ (by go_size)).trans (heap_alloc2 _ _ _).1
    obtain ⟨d0, d1, _, _⟩ := blk2 hbk
    have hb2 : Below w.heap.size w w1 := Below.trans (by go_grown) (hb1.mono (by go_size))
    have HSL := Lib.hid hsl1
    clear hsl1 hb1 hbk
    go_wp2_with fail
    refine (HLY.out w1 hb2).mono ?_
    rintro e w2 ⟨a2, n2, c2, zs, rfl, hown, hlim, htop, hval, hn2, hb3⟩
    have HV := Lib.hid hval
    have HQ := Lib.hid (equal_any w2 a1 a2 n n2 c1 c2 xs zs (HSL.out.below hb3) hown.sl)
    have hb4 : Below w.heap.size w w2 := hb2.trans (hb3.mono hb2.size)
    clear hown hval
    go_wp2_with fail
    refine HQ.out.mono ?_
    rintro e w3 ⟨rfl, q, rfl⟩
    have hfin : decide (xs = zs) = decide (x = y) := by
      rw [decide_eq_decide, HIFF.out, ← HV.out]
      constructor
      · intro h; exact ⟨HS.out, by rw [h]⟩
      · intro h; exact eq_of_val HLIM.out hlim HTOP.out htop h.2
    generalize decide (xs = zs) = bb at hfin
    have HF := Lib.hid hfin
    clear hfin
    go_wp2_with fail
    go_ret
    exact ⟨by rw [← HF.out]; rfl, below_drewN hb4 q⟩
  · have hsb : (nx == ny) = false := by simp [hs]
    have hd : decide (x = y) = false := by rw [decide_eq_false_iff_not, HIFF.out]; exact fun h => hs h.1
    rw [hd]
    clear hs hd
    go_enter Try.func21, Try.ntmps21
    go_wp2_with fail
    refine (HLX.out _ (by go_grown)).mono ?_
    rintro e w1 ⟨a1, c1, rfl, hsl1, hb1⟩
    have hbk : w1.heap[w.heap.size + 1]? = some (.cells #[.bool ny, .slice bo m capb] 31 (0, 0)) := (hb1.block _ (by go_size)).trans (heap_alloc2 _ _ _).1
    obtain ⟨d0, d1, _, _⟩ := blk2 hbk
    have hb2 : Below w.heap.size w w1 := Below.trans (by go_grown) (hb1.mono (by go_size))
    clear hsl1 hb1 hbk
    go_wp2_with fail
    go_ret
    exact ⟨rfl, hb2⟩
end Go.Proofs.Ytkifebmlojdjnaa
