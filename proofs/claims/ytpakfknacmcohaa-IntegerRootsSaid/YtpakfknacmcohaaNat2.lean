/- Contracts of the functions on limbs with loops: sum, difference, compare, product. -/
import Derived.Test.YtpakfknacmcohaaNat1
import Derived.Deep.QuietTactic
import Derived.BigQuiet
import Derived.WalkSmall
namespace Go.Proofs.Ytpakfknacmcohaa
open Go.RowKit
set_option autoImplicit false

theorem limb_at {w : World} {ao : Option Addr} {n cap : Nat} {zs : List Int} (h : Sl w ao n cap zs) (w1 : World) (hb : Below w.heap.size w w1) (k : Nat) :
    Calls Try.prog 111 #[.slice ao n cap, .int .i64 k] w1 fun e w' => e = .returned (.int .u32 (zs.getD k 0)) ∧ w1 = w' := by
  have := limb_any w1 ao n cap zs k h.len (h.cells.below hb) (by omega)
  simpa using this

/-- A row of the call's own: the limbs ys, all of them. -/
def Mine (B : Nat) (w : World) (g : Nat) (ys : List Int) : Prop := Own B w (some ⟨g, 0, none⟩) ys.length ys.length ys

theorem Mine.cell {B : Nat} {w : World} {g : Nat} {ys : List Int} (h : Mine B w g ys) (j : Nat) (hj : j < ys.length) : w.cell? ⟨g, j, none⟩ = some (.int .u32 (ys.getD j 0)) ∧ w.frozen? ⟨g, j, none⟩ = false := by
  refine ⟨?_, World.ownsRow.frozenAt h j⟩
  rw [World.ownsRow.cellAt h j (by omega), List.getElem?_map, List.getElem?_eq_getElem hj, getD_lt hj]
  rfl
theorem Mine.set {B : Nat} {w : World} {g : Nat} {ys : List Int} (h : Mine B w g ys) (j : Nat) (v : Int) : Mine B (w.setCell ⟨g, j, none⟩ (.int .u32 v)) g (ys.set j v) := by
  have := (World.ownsRow.stored h j (.int .u32 v)).1
  unfold Mine Own
  rw [List.length_set, List.map_set]
  exact this
theorem Mine.ge {B : Nat} {w : World} {g : Nat} {ys : List Int} (h : Mine B w g ys) : B ≤ g := (World.ownsRow.lt h g rfl).1

theorem sum_step' {ys a b : List Int} {k : Nat} {c : Int} (hk : k < ys.length) (h0 : ys.getD k 0 = 0) (h : val ys + 4294967296 ^ k * c = val (a.take k) + val (b.take k)) {x y : Int} (hx : a.getD k 0 = x) (hy : b.getD k 0 = y) :
    val (ys.set k ((x + y + c) % 4294967296)) + 4294967296 ^ (k + 1) * ((x + y + c) / 4294967296) = val (a.take (k + 1)) + val (b.take (k + 1)) := by
  rw [val_set _ _ _ hk, h0, val_take_succ, val_take_succ, hx, hy, Int.pow_succ]
  have := Int.emod_add_mul_ediv (x + y + c) 4294967296
  grind

theorem Own.trimmed {B : Nat} {w : World} {ao : Option Addr} {n cap : Nat} {zs : List Int} (h : Own B w ao n cap zs) (k : Nat) (hk : k ≤ n) : Own B w ao k cap (zs.take k) := by
  have hl : zs.length = n := h.sl.len
  refine ⟨by simp; omega, ?_⟩
  rcases h.2 with ⟨hv, hn⟩ | ⟨g, c, cur, hv, hb, hg, hnc, hcm, hcs, htake⟩
  · simp only [Value.slice.injEq] at hv
    obtain ⟨rfl, rfl, rfl⟩ := hv
    exact .inl ⟨by rw [show k = 0 by omega], by omega⟩
  · simp only [Value.slice.injEq] at hv
    obtain ⟨rfl, _, rfl⟩ := hv
    refine .inr ⟨g, cap, cur, rfl, hb, hg, by omega, hcm, hcs, ?_⟩
    rw [List.map_take, ← htake, List.take_take]
    congr 1
    omega

/-- Limbs of a row of the call's own were returned; their value is x, at the top stands no zero, there are at most L. -/
def RetNat (w : World) (x : Int) (L : Nat) (e : Ending) (w' : World) : Prop :=
  ∃ ao n cap zs, e = .returned (.slice ao n cap) ∧ Own w.heap.size w' ao n cap zs ∧ Lim zs ∧ Top zs ∧ val zs = x ∧ n ≤ L ∧ Below w.heap.size w w'

theorem trim_own (w0 w : World) (ao : Option Addr) (n cap : Nat) (zs : List Int) (h : Own w0.heap.size w ao n cap zs) (hl : Lim zs) (hb : Below w0.heap.size w0 w) {x : Int} (hx : val zs = x) :
    Calls Try.prog 118 #[.slice ao n cap] w (RetNat w0 x n) := by
  have hs := h.sl
  refine (trim_any w ao n cap zs hs.len hs.le hs.most hs.cells).mono ?_
  rintro e w' ⟨rfl, rfl⟩
  have ht := tl_le zs n
  have e1 : zs.take (tl zs n) = trm zs := by rw [trm, hs.len]
  refine ⟨_, _, _, trm zs, rfl, ?_, trm_lim hl, trm_top zs, (trm_val zs).trans hx, ht, hb⟩
  have := h.trimmed (tl zs n) ht
  rw [e1] at this
  exact this

theorem made_mine {B : Nat} {w : World} {g n : Nat} (h : w.ownsRow B 99 1 (.slice (some ⟨g, 0, none⟩) n n) n (madeCells #[.int .u32 0] n).toList) : Mine B w g (List.replicate n 0) := by
  rw [toList_madeCells_one] at h
  unfold Mine Own
  simpa using h

set_option maxRecDepth 100000 in
theorem sum_any (w : World) (ao bo : Option Addr) (n m capa capb : Nat) (xs ys : List Int) (hx : Sl w ao n capa xs) (hy : Sl w bo m capb ys) (lx : Lim xs) (ly : Lim ys) (hn : n ≤ 34359738368) (hm : m ≤ 34359738368) :
    Calls Try.prog 86 #[.slice ao n capa, .slice bo m capb] w (RetNat w (val xs + val ys) (max n m + 1)) := by
  have HLX := Lib.hid (limb_at hx)
  have HLY := Lib.hid (limb_at hy)
  have elx := hx.len
  have ely := hy.len
  obtain ⟨i0, hi, hz0, hz1, hz2⟩ := info_parts info_u32
  clear hx hy
  have HEX : Hid (xs.length = n) := elx
  have HEY : Hid (ys.length = m) := ely
  clear elx ely
  rcases (show (n < m ∧ max n m = m) ∨ (¬ n < m ∧ max n m = n) by omega) with ⟨hlt, hmax⟩ | ⟨hlt, hmax⟩
  obtain ⟨s, rfl⟩ : ∃ s, s = m := ⟨m, rfl⟩
  rotate_left
  obtain ⟨s, rfl⟩ : ∃ s, s = n := ⟨n, rfl⟩
  all_goals
    rw [hmax]
    clear hmax
    go_enter Try.func86, Try.ntmps86
    go_wp2_with (at_make; refine wpList_make_full _ rfl _ _ 22 rfl w.heap.size 99 i0 (.int .u32 0) 1 Try.underlying22 hi hz0 hz1 _ _ _ _ (s + 1) rfl rfl (by omega) (by omega) (by rw [hz2]; omega) (by unfold maxLen; omega) (Nat.le_refl _) ?_)
    intro w1 hown hgrow
    have hb1 : Below w.heap.size w w1 := (Below.refl _ _).grown hgrow (Nat.le_refl _) (by intro k hk; cases hk)
    have hm1 := made_mine hown
    clear hown hgrow
    go_wp2_with fail
    go_loopw [7, 19] (fun c i wr => ∃ (k : Nat) (cy : Int) (zs : List Int), k ≤ s ∧ i = .int .i64 k ∧ c = .int .u64 cy ∧ 0 ≤ cy ∧ cy ≤ 1 ∧ zs.length = s + 1 ∧ Lim zs ∧ (∀ j, k ≤ j → zs.getD j 0 = 0) ∧
        val zs + 4294967296 ^ k * cy = val (xs.take k) + val (ys.take k) ∧ Mine w.heap.size wr w.heap.size zs ∧ Below w.heap.size w wr)
      (fun _ i _ => s - (intOf i).toNat)
    case atStart => exact ⟨0, 0, _, Nat.zero_le _, rfl, rfl, by omega, by omega, List.length_replicate, Lim_replicate _, fun j _ => by simp [List.getD, List.getElem?_replicate]; split <;> rfl, by simp [val_replicate, val], hm1, hb1⟩
    case round =>
      obtain ⟨k, cy, zs, hk, rfl, rfl, hcy0, hcy1, hzl, hlim, hzero, hval, hmine, hbel⟩ := hrel
      have HZ := Lib.hid hzero
      have HV := Lib.hid hval
      have HL := Lib.hid hzl
      have HM := Lib.hid hmine
      clear hzero hval hzl hmine hm1 hb1
      by_cases hks : k < s
      · obtain ⟨a, ha⟩ : ∃ a, xs.getD k 0 = a := ⟨_, rfl⟩
        obtain ⟨b, hb⟩ : ∃ b, ys.getD k 0 = b := ⟨_, rfl⟩
        have hla := Lim_getD lx k
        have hlb := Lim_getD ly k
        have hcx := HLX.out wr hbel k
        have hcy := HLY.out wr hbel k
        rw [ha] at hla hcx
        rw [hb] at hlb hcy
        obtain ⟨ha0, ha1⟩ := hla
        obtain ⟨hb0, hb1⟩ := hlb
        have HCX := Lib.hid hcx
        have HCY := Lib.hid hcy
        have HA := Lib.hid ha
        have HB := Lib.hid hb
        clear hcx hcy ha hb
        obtain ⟨hcell, hfrz⟩ := HM.out.cell k (by rw [HL.out]; omega)
        go_wp2_with fail
        refine HCX.out.mono ?_
        rintro e w2 ⟨rfl, rfl⟩
        go_wp2_with fail
        refine HCY.out.mono ?_
        rintro e w2 ⟨rfl, rfl⟩
        go_wp2_with fail
        go_roundw
        case rel =>
          have hzl := HL.out
          exact ⟨k + 1, (a + b + cy) / 4294967296, zs.set k ((a + b + cy) % 4294967296), by omega, by go_num, rfl, by omega, by omega, by rw [List.length_set]; exact hzl, Lim_set hlim k (by omega) (by omega),
            fun j hj => by rw [getD_set_ne (by omega)]; exact HZ.out j (by omega), sum_step' (by omega) (HZ.out k (Nat.le_refl _)) HV.out HA.out HB.out, HM.out.set k _, hbel.setCell (Nat.le_refl _) _⟩
        case measure => simp [intOf]; omega
      · obtain rfl : k = s := by omega
        obtain ⟨hcell, hfrz⟩ := HM.out.cell k (by rw [HL.out]; omega)
        go_wp2_with fail
        have hzl := HL.out
        have hm3 := HM.out.set k cy
        have hl3 : Lim (zs.set k cy) := Lim_set hlim k hcy0 (by omega)
        have hv3 : val (zs.set k cy) = val xs + val ys := by
          have hv := HV.out
          have e1 := HEX.out
          have e2 := HEY.out
          rw [List.take_of_length_le (by omega), List.take_of_length_le (by omega)] at hv
          rw [val_set _ _ _ (by omega), HZ.out k (Nat.le_refl _)]
          grind
        unfold Mine at hm3
        rw [List.length_set, hzl] at hm3
        have hfin := trim_own w _ _ _ _ _ hm3 hl3 (hbel.setCell (Nat.le_refl _) _) hv3
        refine hfin.mono ?_
        rintro e w4 ⟨ao4, n4, cap4, zs4, rfl, hres⟩
        have HRES := Lib.hid hres
        clear hres
        go_wp2
        go_ret
        exact ⟨_, _, _, zs4, rfl, HRES.out⟩

theorem diff_step' {ys a b : List Int} {k : Nat} {c : Int} (hk : k < ys.length) (h0 : ys.getD k 0 = 0) (h : val ys - 4294967296 ^ k * c = val (a.take k) - val (b.take k)) {x y : Int} (hx : a.getD k 0 = x) (hy : b.getD k 0 = y) :
    val (ys.set k ((x - y - c) % 4294967296)) - 4294967296 ^ (k + 1) * (- ((x - y - c) / 4294967296)) = val (a.take (k + 1)) - val (b.take (k + 1)) := by
  rw [val_set _ _ _ hk, h0, val_take_succ, val_take_succ, hx, hy, Int.pow_succ]
  have := Int.emod_add_mul_ediv (x - y - c) 4294967296
  grind

theorem borrow_eq {a b c : Int} (ha0 : 0 ≤ a) (ha1 : a ≤ 4294967295) (hb0 : 0 ≤ b) (hb1 : b ≤ 4294967295) (hc0 : 0 ≤ c) (hc1 : c ≤ 1) :
    IntKind.u64.wrap (IntKind.u64.wrap (a - b) - c) / 9223372036854775808 = - ((a - b - c) / 4294967296) ∧ IntKind.u64.wrap (IntKind.u64.wrap (a - b) - c) % 4294967296 = (a - b - c) % 4294967296 := by
  simp only [IntKind.wrap_u64]
  omega

set_option maxRecDepth 100000 in
theorem difference_any (w : World) (ao bo : Option Addr) (n m capa capb : Nat) (xs ys : List Int) (hx : Sl w ao n capa xs) (hy : Sl w bo m capb ys) (lx : Lim xs) (ly : Lim ys) (hn : n ≤ 34359738368) (hle : m ≤ n) (hge : val ys ≤ val xs) :
    Calls Try.prog 87 #[.slice ao n capa, .slice bo m capb] w (RetNat w (val xs - val ys) n) := by
  have HLY := Lib.hid (limb_at hy)
  have HEX : Hid (xs.length = n) := hx.len
  have HEY : Hid (ys.length = m) := hy.len
  have HCX := Lib.hid hx.cells
  obtain ⟨i0, hi, hz0, hz1, hz2⟩ := info_parts info_u32
  clear hx hy
  go_enter Try.func87, Try.ntmps87
  go_wp2_with (at_make; refine wpList_make_full _ rfl _ _ 22 rfl w.heap.size 99 i0 (.int .u32 0) 1 Try.underlying22 hi hz0 hz1 _ _ _ _ n rfl rfl rfl rfl (by rw [hz2]; omega) (by unfold maxLen; omega) (Nat.le_refl _) ?_)
  intro w1 hown hgrow
  have hb1 : Below w.heap.size w w1 := (Below.refl _ _).grown hgrow (Nat.le_refl _) (by intro k hk; cases hk)
  have hm1 := made_mine (n := n) (by simpa using hown)
  clear hown hgrow
  go_wp2_with fail
  go_loopw [6, 14] (fun c i wr => ∃ (k : Nat) (cy : Int) (zs : List Int), k ≤ n ∧ i = .int .i64 k ∧ c = .int .u64 cy ∧ 0 ≤ cy ∧ cy ≤ 1 ∧ zs.length = n ∧ Lim zs ∧ (∀ j, k ≤ j → zs.getD j 0 = 0) ∧
      val zs - 4294967296 ^ k * cy = val (xs.take k) - val (ys.take k) ∧ Mine w.heap.size wr w.heap.size zs ∧ Below w.heap.size w wr)
    (fun _ i _ => n - (intOf i).toNat)
  case atStart => exact ⟨0, 0, _, Nat.zero_le _, rfl, rfl, by omega, by omega, List.length_replicate, Lim_replicate _, fun j _ => by simp [List.getD, List.getElem?_replicate]; split <;> rfl, by simp [val_replicate, val], hm1, hb1⟩
  case round =>
    obtain ⟨k, cy, zs, hk, rfl, rfl, hcy0, hcy1, hzl, hlim, hzero, hval, hmine, hbel⟩ := hrel
    have HZ := Lib.hid hzero
    have HV := Lib.hid hval
    have HL := Lib.hid hzl
    have HM := Lib.hid hmine
    clear hzero hval hzl hmine hm1 hb1
    by_cases hks : k < n
    · obtain ⟨a, ha⟩ : ∃ a, xs.getD k 0 = a := ⟨_, rfl⟩
      obtain ⟨b, hb⟩ : ∃ b, ys.getD k 0 = b := ⟨_, rfl⟩
      have hla := Lim_getD lx k
      have hlb := Lim_getD ly k
      have hcy : ∀ nq, Calls Try.prog 111 #[.slice bo m capb, .int .i64 k] (wr.drewN nq) fun e w' => e = .returned (.int .u32 b) ∧ w' = wr.drewN nq :=
        fun nq => (HLY.out (wr.drewN nq) (below_drewN hbel nq) k).mono fun _ _ h => ⟨hb ▸ h.1, h.2.symm⟩
      rw [ha] at hla
      rw [hb] at hlb
      obtain ⟨ha0, ha1⟩ := hla
      obtain ⟨hb0, hb1⟩ := hlb
      obtain ⟨ba, oa, rfl, hca⟩ : ∃ b o, ao = some ⟨b, o, none⟩ ∧ wr.cell? ⟨b, o + k, none⟩ = some (.int .u32 a) := by
        rcases HCX.out.below hbel with h | ⟨b, o, h1, h2⟩
        · have := HEX.out; rw [h] at this; simp at this; omega
        · exact ⟨b, o, h1, by rw [← ha]; exact h2 k (by rw [HEX.out]; exact hks)⟩
      have HCY := Lib.hid hcy
      have HA := Lib.hid ha
      have HB := Lib.hid hb
      clear hcy ha hb
      obtain ⟨hcell, hfrz⟩ := HM.out.cell k (by rw [HL.out]; omega)
      have hkk : (k : Int) < n := by omega
      have hk0 : (0 : Int) ≤ k := by omega
      go_wp2_with fail
      have e1 : IntKind.u64.wrap a = a := IntWalk.u64_in _ (by omega)
      have e2 : IntKind.u64.wrap b = b := IntWalk.u64_in _ (by omega)
      go_quiet ((go_at_call 111; exact Calls.quiet_of_same (HCY.out _)))
      go_wp2_with fail
      have hmq : Mine w.heap.size (wr.drewN nq) w.heap.size zs := HM.out
      obtain ⟨q1, q2⟩ := borrow_eq ha0 ha1 hb0 hb1 hcy0 hcy1
      go_roundw
      case rel =>
        have hzl := HL.out
        rw [q1, q2]
        exact ⟨k + 1, - ((a - b - cy) / 4294967296), zs.set k ((a - b - cy) % 4294967296), by omega, by go_num, rfl, by omega, by omega, by rw [List.length_set]; exact hzl, Lim_set hlim k (by omega) (by omega),
          fun j hj => by rw [getD_set_ne (by omega)]; exact HZ.out j (by omega), diff_step' (by omega) (HZ.out k (Nat.le_refl _)) HV.out HA.out HB.out, hmq.set k _, (below_drewN hbel nq).setCell (Nat.le_refl _) _⟩
      case measure => simp [intOf]; omega
    · obtain rfl : k = n := by omega
      go_wp2_with fail
      have hzl := HL.out
      have hm3 := HM.out
      have hv3 : val zs = val xs - val ys := by
        have hv := HV.out
        have e1 := HEX.out
        have e2 := HEY.out
        rw [List.take_of_length_le (by omega), List.take_of_length_le (by omega)] at hv
        have h3 := val_lt hlim
        rw [hzl] at h3
        rcases (show cy = 0 ∨ cy = 1 by omega) with rfl | rfl
        · omega
        · omega
      unfold Mine at hm3
      rw [hzl] at hm3
      have hfin := trim_own w _ _ _ _ _ hm3 hlim hbel hv3
      refine hfin.mono ?_
      rintro e w4 ⟨ao4, n4, cap4, zs4, rfl, hres⟩
      have HRES := Lib.hid hres
      clear hres
      go_wp2
      go_ret
      exact ⟨_, _, _, zs4, rfl, HRES.out⟩
end Go.Proofs.Ytpakfknacmcohaa
