/- The reference: times, Mul, Two, divided, Divide. -/
import Derived.Test.YtdfepdhflnnjpaaGreatBooA
import Derived.Test.YtdfepdhflnnjpaaGreatOf
import Derived.Test.YtdfepdhflnnjpaaGreatShiftM
import Derived.Test.YtdfepdhflnnjpaaGreatSmallM
import Derived.Deep.DeepCutAuto
import Derived.Laws.AppendOwnNone
namespace Go.Proofs.YtdfepdhflnnjpaaGreat
open Go.RowKit
set_option autoImplicit false
set_option maxHeartbeats 1000000
set_option linter.unusedVariables false

theorem dval_set (zs : List Int) (i : Nat) (v : Int) (h : i < zs.length) : dval 65536 (zs.set i v) = dval 65536 zs + 65536 ^ i * (v - zs.getD i 0) := by
  induction zs generalizing i with
  | nil => simp at h
  | cons a l ih =>
    cases i with
    | zero => simp [dval]; omega
    | succ i =>
      have := ih i (by simpa using h)
      simp only [List.set_cons_succ, dval, this, List.getD_cons_succ, Int.pow_succ]
      grind

theorem dval_replicate (n : Nat) : dval 65536 (List.replicate n 0) = 0 := by
  induction n with
  | zero => rfl
  | succ n ih => simp [List.replicate_succ, dval, ih]

theorem Dig_replicate (n : Nat) : Dig 65536 (List.replicate n 0) := by
  intro z hz
  rw [List.mem_replicate] at hz
  omega

theorem Dig_set' {zs : List Int} (h : Dig 65536 zs) (i : Nat) {v : Int} (h0 : 0 ≤ v) (h1 : v < 65536) : Dig 65536 (zs.set i v) := by
  intro z hz
  rcases List.mem_or_eq_of_mem_set hz with h2 | h2
  · exact h z h2
  · subst h2; exact ⟨h0, h1⟩

theorem rprod_step {r : List Int} {i k : Nat} {S x c y t : Int} {b : List Int} (hk : i + k < r.length) (hy : b.getD k 0 = y) (hr : r.getD (i + k) 0 = t)
    (h : dval 65536 r + 65536 ^ (i + k) * c = S + 65536 ^ i * (x * dval 65536 (b.take k))) :
    dval 65536 (r.set (i + k) ((t + x * y + c) % 65536)) + 65536 ^ (i + (k + 1)) * ((t + x * y + c) / 65536) = S + 65536 ^ i * (x * dval 65536 (b.take (k + 1))) := by
  rw [dval_set _ _ _ hk, dval_take_succ, show i + (k + 1) = i + k + 1 by omega, Int.pow_succ, Int.pow_add, hy, hr]
  rw [Int.pow_add] at h
  have := Int.emod_add_mul_ediv (t + x * y + c) 65536
  grind

theorem rprod_bound {x y r c : Int} (hx0 : 0 ≤ x) (hx : x < 65536) (hy0 : 0 ≤ y) (hy : y < 65536) (hr0 : 0 ≤ r) (hr : r < 65536) (hc0 : 0 ≤ c) (hc : c < 65536) :
    0 ≤ x * y ∧ x * y ≤ 4294836225 ∧ 0 ≤ r + x * y + c ∧ r + x * y + c ≤ 4294967295 ∧ 0 ≤ (r + x * y + c) / 65536 ∧ (r + x * y + c) / 65536 < 65536 := by
  have h1 : 0 ≤ x * y := Int.mul_nonneg hx0 hy0
  have h2 : x * y ≤ 65535 * 65535 := Int.mul_le_mul (by omega) (by omega) hy0 (by omega)
  omega

theorem rprod_end {r : List Int} {i m : Nat} {c x : Int} {a b : List Int} (hm : b.length = m) (hi : i + m < r.length) (h0 : r.getD (i + m) 0 = 0)
    (h : dval 65536 r + 65536 ^ (i + m) * c = dval 65536 (a.take i) * dval 65536 b + 65536 ^ i * (x * dval 65536 (b.take m))) (hx : x = a.getD i 0) :
    dval 65536 (r.set (i + m) c) = dval 65536 (a.take (i + 1)) * dval 65536 b := by
  rw [dval_set _ _ _ hi, h0, dval_take_succ, ← hx]
  rw [List.take_of_length_le (l := b) (by omega)] at h
  grind

/-- Digits without a zero at the top were returned. -/
def RetTrm (w : World) (x : Int) (L : Nat) (e : Ending) (w' : World) : Prop :=
  ∃ ao n cap ds, e = .returned (.slice ao n cap) ∧ OwnI w.heap.size w' ao n cap ds ∧ Dig 65536 ds ∧ Top ds ∧ dval 65536 ds = x ∧ n ≤ L ∧ Below w.heap.size w w'

theorem rtrim_ret {w w1 : World} {ao : Option Addr} {n cap : Nat} {ds : List Int} {x : Int} (h : OwnI w.heap.size w1 ao n cap ds) (hd : Dig 65536 ds) (hb : Below w.heap.size w w1) (hv : dval 65536 ds = x) :
    Calls Tryz.prog 147 #[.slice ao n cap] w1 (RetTrm w x n) := by
  refine (rtrim_own w1 ao n cap ds h).mono ?_
  rintro e w' ⟨rfl, rfl⟩
  have hl : ds.length = n := h.sl.len
  have ht := tl_le ds n
  have e1 : ds.take (tl ds n) = trm ds := by rw [trm, hl]
  refine ⟨_, _, _, trm ds, rfl, ?_, trm_dig hd, trm_top ds, (trm_dval 65536 ds).trans hv, ht, hb⟩
  have := h.trimmed (tl ds n) ht
  rwa [e1] at this

set_option maxRecDepth 100000 in
set_option maxHeartbeats 1000000 in
theorem rtimes_any (w : World) (ao bo : Option Addr) (n m capa capb : Nat) (xs ys : List Int) (hx : SlI w ao n capa xs) (hy : SlI w bo m capb ys) (lx : Dig 65536 xs) (ly : Dig 65536 ys) (hn : n ≤ 1073741824) (hm : m ≤ 1073741824) :
    Calls Tryz.prog 127 #[.slice ao n capa, .slice bo m capb] w (RetTrm w (dval 65536 xs * dval 65536 ys) (n + m + 1)) := by
  have HEX : Hid (xs.length = n) := hx.len
  have HEY : Hid (ys.length = m) := hy.len
  have HCX := Lib.hid hx.cells
  have HCY := Lib.hid hy.cells
  obtain ⟨i0, hi, hz0, hz1, hz2⟩ := info_parts info_int
  clear hx hy
  go_enter Tryz.func127, Tryz.ntmps127
  go_wp2_with (at_make; refine wpList_make_full _ rfl _ _ 32 rfl w.heap.size 3 i0 (.int .i64 0) 1 Tryz.underlying32 hi hz0 hz1 _ _ _ _ (n + m + 1) rfl rfl (by omega) (by omega) (by rw [hz2]; omega) (by unfold maxLen; omega) (Nat.le_refl _) ?_)
  intro w1 hown hgrow
  have hb1 : Below w.heap.size w w1 := (Below.refl _ _).grown hgrow (Nat.le_refl _) (by intro k hk; cases hk)
  have hm1 := made_mineI (n := n + m + 1) (by simpa using hown)
  clear hown hgrow
  go_wp2_with fail
  go_loopw [6, 8] (fun i kk wr => ∃ (k : Nat) (zs : List Int), k ≤ n ∧ i = .int .i64 k ∧ zs.length = n + m + 1 ∧ Dig 65536 zs ∧ (∀ j, k + m ≤ j → zs.getD j 0 = 0) ∧
      dval 65536 zs = dval 65536 (xs.take k) * dval 65536 ys ∧ MineI w.heap.size wr w.heap.size zs ∧ Below w.heap.size w wr)
    (fun i _ _ => n - (intOf i).toNat)
  case atStart => exact ⟨0, _, Nat.zero_le _, rfl, List.length_replicate, Dig_replicate _, fun j _ => by simp [List.getD, List.getElem?_replicate]; split <;> rfl, by simp [dval_replicate, dval], hm1, hb1⟩
  case round =>
    obtain ⟨i, zs, hk, rfl, hzl, hlim, hzero, hval, hmine, hbel⟩ := hrel
    have HZ := Lib.hid hzero
    have HV := Lib.hid hval
    have HL := Lib.hid hzl
    have HM := Lib.hid hmine
    clear hzero hval hzl hmine hm1 hb1
    by_cases hin : i < n
    · obtain ⟨x, hx⟩ : ∃ x, xs.getD i 0 = x := ⟨_, rfl⟩
      have hlx := Dig_getD (by omega : (0 : Int) < 65536) lx i
      rw [hx] at hlx
      obtain ⟨hx0, hx1⟩ := hlx
      have HX := Lib.hid hx
      clear hx
      have hini : (i : Int) < n := by omega
      go_wp2_with fail
      obtain ⟨wo, rfl⟩ : ∃ wo : World, wo = wr := ⟨_, rfl⟩
      go_loopw [7, 8] (fun c kk wi => ∃ (k : Nat) (cy : Int) (rs : List Int), k ≤ m ∧ kk = .int .i64 k ∧ c = .int .i64 cy ∧ 0 ≤ cy ∧ cy < 65536 ∧ rs.length = n + m + 1 ∧ Dig 65536 rs ∧ (∀ j, i + m ≤ j → rs.getD j 0 = 0) ∧
          dval 65536 rs + 65536 ^ (i + k) * cy = dval 65536 (xs.take i) * dval 65536 ys + 65536 ^ i * (x * dval 65536 (ys.take k)) ∧ MineI w.heap.size wi w.heap.size rs ∧ Below w.heap.size w wi)
        (fun _ kk _ => m - (intOf kk).toNat)
      case atStart => exact ⟨0, 0, zs, Nat.zero_le _, rfl, rfl, by omega, by omega, HL.out, hlim, HZ.out, by rw [HV.out]; simp [dval], HM.out, hbel⟩
      case round =>
        obtain ⟨k, cy, rs, hkm, rfl, rfl, hc0, hc1, hrl, hrlim, hrzero, hrval, hrmine, hrbel⟩ := hrel
        have HRZ := Lib.hid hrzero
        have HRV := Lib.hid hrval
        have HRL := Lib.hid hrl
        have HRM := Lib.hid hrmine
        clear hrzero hrval hrl hrmine
        by_cases hkm' : k < m
        · obtain ⟨y, hy⟩ : ∃ y, ys.getD k 0 = y := ⟨_, rfl⟩
          obtain ⟨r, hr⟩ : ∃ r, rs.getD (i + k) 0 = r := ⟨_, rfl⟩
          have hly := Dig_getD (by omega : (0 : Int) < 65536) ly k
          have hlr := Dig_getD (by omega : (0 : Int) < 65536) hrlim (i + k)
          obtain ⟨ba, oa, rfl, hca⟩ := (HCX.out.below hrbel).at (k := i) (by rw [HEX.out]; exact hin)
          obtain ⟨bb, ob, rfl, hcb⟩ := (HCY.out.below hrbel).at (k := k) (by rw [HEY.out]; exact hkm')
          obtain ⟨hcell, hfrz⟩ := HRM.out.cell (i + k) (by rw [HRL.out]; omega)
          rw [HX.out] at hca
          rw [hy] at hly hcb
          rw [hr] at hlr hcell
          obtain ⟨hy0, hy1⟩ := hly
          obtain ⟨hr0, hr1⟩ := hlr
          obtain ⟨p0, p1, p2, p3, p4, p5⟩ := rprod_bound hx0 hx1 hy0 hy1 hr0 hr1 hc0 hc1
          have HY := Lib.hid hy
          have HR := Lib.hid hr
          have hki : (k : Int) < m := by omega
          have hw1 : IntKind.i64.wrap ((i : Int) + k) = (i : Int) + k := by rw [IntKind.wrap_i64]; omega
          have hw2 : IntKind.i64.wrap (x * y) = x * y := by rw [IntKind.wrap_i64]; omega
          have hw3 : IntKind.i64.wrap (r + x * y) = r + x * y := by rw [IntKind.wrap_i64]; omega
          have hw4 : IntKind.i64.wrap (r + x * y + cy) = r + x * y + cy := by rw [IntKind.wrap_i64]; omega
          have hi0 : (0 : Int) ≤ (i : Int) + k := by omega
          have hi1 : (i : Int) + k < ((n + m + 1 : Nat) : Int) := by omega
          have hi2 : ((i : Int) + k).toNat = i + k := by omega
          clear hy hr
          go_wp2_with fail
          go_quiet (fail)
          go_wp2_with fail
          go_roundw
          case rel =>
            have hrl := HRL.out
            have hstep := rprod_step (r := rs) (i := i) (k := k) (S := dval 65536 (xs.take i) * dval 65536 ys) (x := x) (c := cy) (b := ys) (by omega) HY.out HR.out HRV.out
            exact ⟨k + 1, _, _, by omega, by go_num, rfl, p4, p5, by rw [List.length_set]; exact hrl, Dig_set' hrlim _ (by omega) (by omega),
              fun j hj => by rw [getD_set_ne (by omega)]; exact HRZ.out j hj, hstep, (show MineI w.heap.size (World.drewN _ _) w.heap.size rs from HRM.out).set _ _, (below_drewN hrbel _).setCell (Nat.le_refl _) _⟩
          case measure => simp [intOf]; omega
        · obtain rfl : k = m := by omega
          have hki : ¬ (k : Int) < k := by omega
          obtain ⟨hcell, hfrz⟩ := HRM.out.cell (i + k) (by rw [HRL.out]; omega)
          rw [HRZ.out _ (Nat.le_refl _)] at hcell
          have hi0 : (0 : Int) ≤ (i : Int) + k := by omega
          have hi1 : (i : Int) + k < ((n + k + 1 : Nat) : Int) := by omega
          go_wp2_with fail
          go_roundw
          case rel =>
            have hrl := HRL.out
            have hend := rprod_end (r := rs) (i := i) (m := k) (c := cy) (x := x) (a := xs) (b := ys) HEY.out (by omega) (HRZ.out _ (Nat.le_refl _)) HRV.out HX.out.symm
            exact ⟨i + 1, _, by omega, by go_num, by rw [List.length_set]; exact hrl, Dig_set' hrlim _ hc0 hc1,
              fun j hj => by rw [getD_set_ne (by omega)]; exact HRZ.out j (by omega), hend, HRM.out.set _ _, hrbel.setCell (Nat.le_refl _) _⟩
          case measure => simp [intOf]; omega
    · obtain rfl : i = n := by omega
      have hini : ¬ (i : Int) < i := by omega
      go_wp2_with fail
      have hzl := HL.out
      have hm3 := HM.out
      have hv3 : dval 65536 zs = dval 65536 xs * dval 65536 ys := by
        have hv := HV.out
        have e1 := HEX.out
        rwa [List.take_of_length_le (by omega)] at hv
      unfold MineI at hm3
      rw [hzl] at hm3
      refine (rtrim_ret hm3 hlim hbel hv3).mono ?_
      rintro e w4 ⟨ao4, n4, cap4, zs4, rfl, hres⟩
      have HRES := Lib.hid hres
      clear hres
      go_wp2
      go_ret
      exact ⟨_, _, _, zs4, rfl, HRES.out⟩

set_option maxRecDepth 100000 in
theorem rmul_any (w : World) (nx ny : Bool) (ao bo : Option Addr) (n m capa capb : Nat) (xs ys : List Int) (x y : Int) (hx : RefAt w nx ao n capa xs x) (hy : RefAt w ny bo m capb ys y) (hn : n ≤ 1073741824) (hm : m ≤ 1073741824) :
    Calls Tryz.prog 90 #[.agg #[.bool nx, .slice ao n capa], .agg #[.bool ny, .slice bo m capb]] w (RetRef w (x * y) (n + m + 1)) := by
  have HS : Hid (∀ w1, Below w.heap.size w w1 → Calls Tryz.prog 127 #[.slice ao n capa, .slice bo m capb] w1 (RetTrm w1 (dval 65536 xs * dval 65536 ys) (n + m + 1))) :=
    fun w1 hb => rtimes_any w1 ao bo n m capa capb xs ys (hx.sl.below hb) (hy.sl.below hb) hx.lim hy.lim hn hm
  have HX : Hid (sgn (!nx == ny) (dval 65536 xs * dval 65536 ys) = x * y) := by rw [hx.val, hy.val]; exact (sgn_mul nx ny _ _).symm
  clear hx hy
  go_enter Tryz.func90, Tryz.ntmps90
  go_wp2_with fail
  go_region_held3 (fun w' => w'.cell? ⟨w.heap.size, 0, none⟩ = some (.bool nx) ∧ w'.cell? ⟨w.heap.size + 1, 0, none⟩ = some (.bool ny) ∧ w'.cell? ⟨w.heap.size, 1, none⟩ = some (.slice ao n capa) ∧ w'.cell? ⟨w.heap.size + 1, 1, none⟩ = some (.slice bo m capb)) (((try dsimp only); (repeat' apply And.intro) <;> (first | (go_keep; done) | (go_split_ands; rw [World.cell?_setCell_far _ _ _ _ (by dsimp only; omega), World.cell?_setCell_far _ _ _ _ (by dsimp only; omega)]; assumption) | (go_split_ands; rw [hb1.cell (by go_size)]; assumption) | (go_split_ands; rw [hb3.cell (by go_size)]; assumption))))
    (first | (go_at_call 127; refine (HS.out _ ?_).mono ?_; (exact ent3D _ _ _ _); rintro e w1 ⟨ao1, n1, cap1, zs1, rfl, hown, hlim1, htop1, hval1, hn1, hb1⟩; have HV1 := Lib.hid hval1; clear hval1; obtain ⟨hz1, hr1, hb2⟩ := left3D hb1) | (go_at_call 118; refine (made_int _ _ _ _ _ _ hown.sl hlim1 rfl).mono ?_; rintro e w2 ⟨neg', ao', n', cap', zs', rfl, hint, hn', hb3⟩; have hr2 := (hb3.block _ (by omega)).trans hr1; obtain ⟨c0, c1, f0, f1⟩ := blk2 hr2; have HI := Lib.hid (hint.stored hr2 (.bool neg') (.slice ao' n' cap')); clear hint hr2 hr1))
  have hb4 : Below w.heap.size w w2 := hb2.trans (hb3.mono (by omega))
  go_wp2
  refine bodyPost_ret (v := .agg #[.bool neg', .slice ao' n' cap']) (by simp [results, Tryz.results90, go_sem, c0, c1]) rfl ?_
  exact fin_ref (by omega) hb4 HI.out (by rw [HV1.out, HX.out]) (Nat.le_trans hn' hn1)

theorem pow_lt_16 {a b : Nat} (h : (65536 : Int) ^ a < 65536 ^ b) : a < b := by
  rw [pow16, pow16] at h
  have h2 : (2 : Int) ^ (16 * a) < 2 ^ (16 * b) := by
    have := Int.ofNat_lt.1 h
    exact_mod_cast this
  have := lt_of_two_pow h2
  omega

theorem rlen_le {a b : List Int} (la : Dig 65536 a) (lb : Dig 65536 b) (ta : Top a) (h : dval 65536 a ≤ dval 65536 b) : a.length ≤ b.length := by
  rcases Nat.eq_zero_or_pos a.length with h0 | h0
  · omega
  · have h1 := dval_pos_of_top (r := 65536) (by omega) la ta (by intro hn; rw [hn] at h0; simp at h0)
    have h2 := dval_lt (r := 65536) (by omega) lb
    have := pow_lt_16 (Int.lt_of_le_of_lt (Int.le_trans h1 h) h2)
    omega

theorem rlen_lt {a : List Int} {k : Nat} (la : Dig 65536 a) (ta : Top a) (h : dval 65536 a < 65536 ^ k) : a.length ≤ k := by
  rcases Nat.eq_zero_or_pos a.length with h0 | h0
  · omega
  · have h1 := dval_pos_of_top (r := 65536) (by omega) la ta (by intro hn; rw [hn] at h0; simp at h0)
    have := pow_lt_16 (Int.lt_of_le_of_lt h1 h)
    omega

theorem OwnI.kept {B : Nat} {w w' : World} {ao : Option Addr} {n cap : Nat} {zs : List Int} (h : OwnI B w ao n cap zs) (hb : Below w.heap.size w w') : OwnI B w' ao n cap zs := by
  refine ⟨h.1, ?_⟩
  rcases h.2 with h2 | ⟨g, c, cur, hv, hbg, hg, r⟩
  · exact .inl h2
  · exact .inr ⟨g, c, cur, hv, hbg, (hb.block g (Array.getElem?_eq_some_iff.1 hg).1).trans hg, r⟩

theorem OwnI.setOther {B : Nat} {w : World} {ao : Option Addr} {n cap : Nat} {zs : List Int} (h : OwnI B w ao n cap zs) {p : Addr} (u : Value) (hp : p.block < B) : OwnI B (w.setCell p u) ao n cap zs := by
  refine ⟨h.1, ?_⟩
  rcases h.2 with h2 | ⟨g, c, cur, hv, hbg, hg, r⟩
  · exact .inl h2
  · refine .inr ⟨g, c, cur, hv, hbg, ?_, r⟩
    rw [Below.heap_setCell _ _ _ _ (by omega)]
    exact hg

theorem OwnI.lower {B B' : Nat} {w : World} {ao : Option Addr} {n cap : Nat} {zs : List Int} (h : OwnI B w ao n cap zs) (hB : B' ≤ B) : OwnI B' w ao n cap zs := ownsRow_mono h hB

theorem MineI.ofRow {B : Nat} {w : World} {g : Nat} {ys : List Int} (h : w.heap[g]? = some (.cells (ys.map (Value.int .i64)).toArray 3 (0, 0))) (hB : B ≤ g) (hm : ys.length ≤ maxLen) : MineI B w g ys :=
  ⟨by simp, .inr ⟨g, ys.length, _, rfl, hB, h, Nat.le_refl _, hm, by simp, by rw [List.take_of_length_le (by simp)]⟩⟩

theorem int_row {w : World} {B : Nat} {x : Int} (h : w.heap[B]? = some (.cells #[.int .i64 x] 3 (0, 0))) : SlI w (some ⟨B, 0, none⟩) 1 1 [x] :=
  OwnI.sl (B := B) (MineI.ofRow (ys := [x]) h (Nat.le_refl _) (by simp [maxLen]))

/-- one digit more at the low end -/
theorem SlI.src {w : World} {ad : Addr} {n cap : Nat} {zs : List Int} (h : SlI w (some ad) n cap zs) : ∀ j u, (zs.map (Value.int .i64))[j]? = some u → w.cell? (ad.add j) = some u := by
  intro j u hj
  rw [List.getElem?_map] at hj
  obtain ⟨z, hz, rfl⟩ := Option.map_eq_some_iff.1 hj
  obtain ⟨hjl, rfl⟩ := List.getElem?_eq_some_iff.1 hz
  rcases h.cells with rfl | ⟨b, o, hao, hc⟩
  · simp at hjl
  · cases hao
    have := hc j hjl
    rw [getD_lt hjl] at this
    rw [Addr.add_lit]
    exact this

/-- Quotient and rest were returned. -/
def RetDivided (w : World) (q r : Int) (L M : Nat) (e : Ending) (w' : World) : Prop :=
  ∃ qo qn qc qs ro rn rc rs, e = .returned (.tuple #[.slice qo qn qc, .slice ro rn rc]) ∧ SlI w' qo qn qc qs ∧ Dig 65536 qs ∧ dval 65536 qs = q ∧ qn ≤ L ∧ SlI w' ro rn rc rs ∧ Dig 65536 rs ∧ dval 65536 rs = r ∧ rn ≤ M ∧ Below w.heap.size w w'

/-- The next rest, with a digit behind it, was laid. -/
def Laid (w : World) (x : Int) (L : Nat) (r : Value) (wx : World) : Prop :=
  ∃ ra rn rc rs, r = .slice ra rn rc ∧ OwnI w.heap.size wx ra rn rc rs ∧ Dig 65536 rs ∧ Top rs ∧ dval 65536 rs = x ∧ rn ≤ L ∧ Below w.heap.size w wx

theorem half_lo {lo hi : Nat} (h : 1 < hi - lo) : lo < (lo + hi) / 2 ∧ (lo + hi) / 2 < hi := by omega

theorem drop_step {xs os : List Int} {j : Nat} {B R x r : Int} {q : Int} (hj : j < xs.length) (hq : j < os.length) (hx : xs.getD j 0 = x) (h : dval 65536 (xs.drop (j + 1)) = B * dval 65536 (os.drop (j + 1)) + r) (hr : x + 65536 * r = B * q + R) :
    dval 65536 (xs.drop j) = B * dval 65536 ((os.set j q).drop j) + R := by
  have e1 : xs.drop j = x :: xs.drop (j + 1) := by rw [List.drop_eq_getElem_cons hj, ← hx, getD_lt hj]
  have e2 : (os.set j q).drop j = q :: os.drop (j + 1) := by
    rw [List.drop_eq_getElem_cons (by rw [List.length_set]; exact hq), List.getElem_set_self, List.drop_set_of_lt (by omega)]
  rw [e1, e2]
  simp only [dval]
  rw [h]
  grind

set_option maxRecDepth 100000 in
set_option maxHeartbeats 4000000 in
theorem rdivided_any (w : World) (ao bo : Option Addr) (n m capa capb : Nat) (xs ys : List Int) (hx : SlI w ao n capa xs) (hy : SlI w bo m capb ys) (lx : Dig 65536 xs) (ly : Dig 65536 ys) (hn : n ≤ 1048576) (hm : m ≤ 1048576) (hB : 0 < dval 65536 ys) :
    Calls Tryz.prog 121 #[.slice ao n capa, .slice bo m capb] w (RetDivided w (dval 65536 xs / dval 65536 ys) (dval 65536 xs % dval 65536 ys) n (m + 2)) := by
  have HEX : Hid (xs.length = n) := hx.len
  have HCX := Lib.hid hx.cells
  have HY := Lib.hid hy
  have hBm := dval_lt (r := 65536) (by omega) ly
  rw [hy.len] at hBm
  obtain ⟨B, hBB⟩ : ∃ B, dval 65536 ys = B := ⟨_, rfl⟩
  rw [hBB] at hB hBm ⊢
  have HB := Lib.hid hBB
  obtain ⟨i0, hi, hz0, hz1, hz2⟩ := info_parts info_int
  clear hx hy hBB
  go_enter Tryz.func121, Tryz.ntmps121
  go_wp2_with (at_make; refine wpList_make_full _ rfl _ _ 32 rfl w.heap.size 3 i0 (.int .i64 0) 1 Tryz.underlying32 hi hz0 hz1 _ _ _ _ n rfl rfl rfl rfl (by rw [hz2]; omega) (by unfold maxLen; omega) (Nat.le_refl _) ?_)
  intro w1 hown hgrow
  have hb1 : Below w.heap.size w w1 := (Below.refl _ _).grown hgrow (Nat.le_refl _) (by intro k hk; cases hk)
  have hm1 := made_mineI (n := n) (by simpa using hown)
  have hs1 : w.heap.size < w1.heap.size := (World.ownsRow.lt hm1 _ rfl).2
  clear hown hgrow
  go_wp2_with fail
  go_loopw [7, 8, 9, 10, 11] (fun r i _ _ _ wr => ∃ (j : Nat) (ra : Option Addr) (rn rc : Nat) (rs os : List Int), j ≤ n ∧ i = .int .i64 ((j : Int) - 1) ∧ r = .slice ra rn rc ∧ OwnI (w.heap.size + 1) wr ra rn rc rs ∧ Dig 65536 rs ∧ os.length = n ∧ Dig 65536 os ∧
      dval 65536 (xs.drop j) = B * dval 65536 (os.drop j) + dval 65536 rs ∧ dval 65536 rs < B ∧ rn ≤ m + 1 ∧ MineI w.heap.size wr w.heap.size os ∧ Below w.heap.size w wr ∧ w.heap.size < wr.heap.size) (fun _ i _ _ _ _ => (intOf i + 1).toNat)
  case atStart => exact ⟨n, none, 0, 0, [], _, Nat.le_refl _, rfl, rfl, World.ownsRow_nil _ _ _ _, Dig_nil _, List.length_replicate, Dig_replicate _, by rw [List.drop_of_length_le (by rw [HEX.out]; exact Nat.le_refl _), List.drop_of_length_le (by rw [List.length_replicate]; exact Nat.le_refl _)]; simp [dval], by simpa [dval] using hB, by omega, hm1, hb1, hs1⟩
  case round =>
    obtain ⟨j, ra, rn, rc, rs, os, hj, rfl, rfl, hro, hrd, hol, hod, hval, hlt, hrn, hmo, hbel, hsz⟩ := hrel
    have HRO := Lib.hid hro
    have HOL := Lib.hid hol
    have HVAL := Lib.hid hval
    have HMO := Lib.hid hmo
    have HBEL := Lib.hid hbel
    have hr0 := dval_nonneg (r := 65536) (by omega) hrd
    obtain ⟨R0, hR0⟩ : ∃ R0, dval 65536 rs = R0 := ⟨_, rfl⟩
    rw [hR0] at hlt hr0
    have HR0 := Lib.hid hR0
    rename World => wo
    clear hro hol hval hmo hbel hR0 hm1 hb1 hs1
    by_cases hj0 : 0 < j
    · obtain ⟨k, rfl⟩ : ∃ k, j = k + 1 := ⟨j - 1, by omega⟩
      have hkj : ((k + 1 : Nat) : Int) - 1 = k := by omega
      rw [hkj]
      have hk0 : (0 : Int) ≤ k := by omega
      have hkn : (k : Int) < n := by omega
      have hkn2 : k < n := by omega
      obtain ⟨ba, oa, rfl, hca⟩ := (HCX.out.below HBEL.out).at (k := k) (by rw [HEX.out]; omega)
      obtain ⟨x, hx⟩ : ∃ x, xs.getD k 0 = x := ⟨_, rfl⟩
      have hlx := Dig_getD (by omega : (0 : Int) < 65536) lx k
      rw [hx] at hca hlx
      obtain ⟨hx0, hx1⟩ := hlx
      have HX := Lib.hid hx
      obtain ⟨R, hR⟩ : ∃ R, x + 65536 * R0 = R := ⟨_, rfl⟩
      have hRp : 0 ≤ R := by omega
      have hRB : R < B * 65536 := by omega
      have hRm : R < 65536 ^ (m + 1) := by
        rw [Int.pow_succ]
        have : B + 1 ≤ 65536 ^ m := by omega
        omega
      have HR := Lib.hid hR
      have HRM := Lib.hid hRm
      clear hx hkj hR hRm
      go_upto_region 6 with (fail)
      go_cut [7] (fun r wx => Laid wo R (m + 1) r wx)
      case first =>
        rcases ra with _ | ad
        · have hs := HRO.out.sl
          obtain rfl := hs.nil rfl
          obtain rfl : rn = 0 := by have := hs.le; omega
          obtain rfl : rs = [] := List.eq_nil_of_length_eq_zero hs.len
          have hR2 : dval 65536 [x] = R := by have h1 := HR.out; have h2 := HR0.out; simp [dval] at h2 ⊢; omega
          have hd2 : Dig 65536 [x] := by intro z hz; simp at hz; omega
          have HR2 := Lib.hid hR2
          clear hs hR2
          go_wp2_with (at_builtin; refine wpList_append_own_none rfl _ _ 32 rfl wo.heap.size 3 i0 1 Tryz.underlying32 hi _ 1 [.int .i64 x] rfl (MineI.ofRow (ys := [x]) (heap_alloc_new wo _) (Nat.le_refl _) (by simp [maxLen])) rfl ?_)
          go_wp2_with fail
          refine (rtrim_ret (w := wo) (MineI.ofRow (ys := [x]) (heap_alloc_new wo _) (Nat.le_refl _) (by simp [maxLen])) hd2 ((Below.refl _ _).alloc (Nat.le_refl _) _) HR2.out).mono ?_
          rintro e w4 ⟨a4, n4, c4, z4, rfl, hres⟩
          have HRES := Lib.hid hres
          clear hres
          go_wp2
          go_meet
          obtain ⟨r1, r2, r3, r4, r5, r6⟩ := HRES.out
          exact ⟨_, _, _, z4, rfl, r1, r2, r3, r4, by simp at r5; omega, r6⟩
        · have hs := HRO.out.sl
          have HLEN := Lib.hid hs.len
          have hrnb : rn ≤ 1048577 := by omega
          have hR2 : dval 65536 (x :: rs) = R := by simp only [dval]; rw [HR0.out]; exact HR.out
          have hd2 : Dig 65536 (x :: rs) := by
            intro z hz
            rcases List.mem_cons.1 hz with rfl | hz
            · exact ⟨hx0, hx1⟩
            · exact hrd z hz
          have HR2 := Lib.hid hR2
          have HSRC := Lib.hid ((hs.below ((Below.refl wo.heap.size wo).alloc (Nat.le_refl _) (.cells #[.int .i64 x] 3))).src)
          clear hs hR2
          go_wp2_with (at_builtin; refine wpList_append_own _ rfl _ _ 32 rfl wo.heap.size 3 i0 (.int .i64 0) 1 8 Tryz.underlying32 hi hz0 hz1 hz2 rfl (by decide) _ 1 [.int .i64 x] rfl (MineI.ofRow (ys := [x]) (heap_alloc_new wo _) (Nat.le_refl _) (by simp [maxLen])) ad rn rc (rs.map (Value.int .i64)) rfl ?c1 ?c2 ?c3 ?c4 ?c5 ?c6 ?_)
          case c1 => rw [List.length_map, HLEN.out]; omega
          case c2 => exact HSRC.out
          case c3 => exact ints_oneCell _ _
          case c4 => unfold maxLen; omega
          case c5 => omega
          case c6 => simp
          intro v' w1 hown hgrow _
          have hb : Below wo.heap.size wo w1 := Below.grown ((Below.refl _ _).alloc (Nat.le_refl _) _) hgrow (by simp) (by intro g hg; simp [Value.ownBlock] at hg; omega)
          obtain ⟨ao', cap', rfl⟩ : ∃ ao' cap', v' = .slice ao' (1 + rn) cap' := by
            rcases hown.2 with ⟨hv, h0⟩ | ⟨g, c, cur, hv, _⟩
            · omega
            · exact ⟨_, _, hv⟩
          have hown2 : OwnI wo.heap.size w1 ao' (1 + rn) cap' (x :: rs) := hown
          have HO2 := Lib.hid hown2
          clear hown hown2 hgrow
          go_wp2_with fail
          refine (rtrim_ret HO2.out hd2 hb HR2.out).mono ?_
          rintro e w4 ⟨a4, n4, c4, z4, rfl, hres⟩
          have HRES := Lib.hid hres
          clear hres
          go_wp2
          go_meet
          obtain ⟨r1, r2, r3, r4, r5, r6⟩ := HRES.out
          have hlen := rlen_lt r2 r3 (k := m + 1) (by rw [r4]; exact HRM.out)
          rw [r1.sl.len] at hlen
          exact ⟨_, _, _, z4, rfl, r1, r2, r3, r4, hlen, r6⟩
      case rest =>
        obtain ⟨ra2, rn2, rc2, rs2, rfl, ho2, hd2, ht2, hv2, hn2, hbx⟩ := hcut
        rename World => wx
        have HO2 := Lib.hid ho2
        have HV2 := Lib.hid hv2
        have hsx := hbx.size
        have HBX := Lib.hid (HBEL.out.trans (hbx.mono HBEL.out.size))
        have HMX := Lib.hid (OwnI.kept HMO.out hbx)
        clear ho2 hv2 hbx HRO HMO
        go_wp2_with fail
        go_loopw [9, 10, 11] (fun lo hi _ wi => ∃ l h : Nat, lo = .int .i64 (l : Int) ∧ hi = .int .i64 (h : Int) ∧ l < h ∧ h ≤ 65536 ∧ B * l ≤ R ∧ R < B * h ∧ Below wx.heap.size wx wi) (fun lo hi _ _ => (intOf hi - intOf lo).toNat)
        case atStart => exact ⟨0, 65536, rfl, rfl, by omega, by omega, by simpa using hRp, hRB, Below.refl _ _⟩
        case round =>
          obtain ⟨l, h, rfl, rfl, hlh, hh, hlo, hhi, hbi⟩ := hrel
          rename World => wi
          have HBI := Lib.hid hbi
          have hsi := hbi.size
          clear hbi
          by_cases hgt : 1 < h - l
          · obtain ⟨M, hM⟩ : ∃ M, (l + h) / 2 = M := ⟨_, rfl⟩
            obtain ⟨h1, h2⟩ := half_lo hgt
            rw [hM] at h1 h2
            have hMi : ((l : Int) + h) / 2 = (M : Int) := by omega
            have hgti : (1 : Int) < (h : Int) - l := by omega
            have hM0 : (0 : Int) ≤ M := by omega
            have hM1 : (M : Int) < 65536 := by omega
            have HLO := Lib.hid hlo
            have HHI := Lib.hid hhi
            clear hM hlo hhi
            go_wp2_with fail
            refine (rtimes_any _ bo _ m 1 capb 1 ys [(M : Int)] (HY.out.below ((HBX.out.trans (HBI.out.mono HBX.out.size)).trans (((Below.refl wi.heap.size wi).alloc (Nat.le_refl _) _).mono (HBX.out.trans (HBI.out.mono HBX.out.size)).size))) (int_row (heap_alloc_new wi _)) ly (by intro z hz; simp at hz; omega) (by omega) (by omega)).mono ?_
            rintro e v1 ⟨a1, n1, c1, z1, rfl, o1, d1, t1, e1, g1, u1⟩
            have X1 : Below wi.heap.size wi v1 := Below.trans (by go_grown) (u1.mono (by go_size))
            have E1 : Hid (dval 65536 z1 = B * M) := Lib.hid (by rw [e1, HB.out]; simp [dval])
            have S1 := Lib.hid o1.sl
            clear e1 o1 u1
            go_wp2_with fail
            obtain ⟨c, hc⟩ : ∃ c, cmpI (B * M) R = c := ⟨_, rfl⟩
            have hcmp := rcompare_any v1 a1 ra2 n1 rn2 c1 rc2 z1 rs2 S1.out ((HO2.out.sl.below HBI.out).below X1) d1 hd2 t1 ht2
            rw [E1.out, HV2.out, hc] at hcmp
            refine hcmp.mono ?_
            rintro e v2 ⟨rfl, q, rfl⟩
            have X2 : Below wx.heap.size wx (v1.drewN q) := below_drewN (HBI.out.trans (X1.mono HBI.out.size)) q
            clear hcmp
            by_cases hle : B * M ≤ R
            · have hc0 : c ≤ 0 := by rw [← hc]; unfold cmpI; split <;> (try split) <;> omega
              have HLE := Lib.hid hle
              clear hc hle
              go_wp2_with fail
              go_roundw
              case rel => exact ⟨M, h, rfl, rfl, h2, hh, HLE.out, HHI.out, X2⟩
              case measure => simp [intOf]; omega
            · have hc1 : ¬ c ≤ 0 := by rw [← hc]; unfold cmpI; split <;> (try split) <;> omega
              have hc0 : decide (c ≤ 0) = false := decide_eq_false hc1
              clear hc1
              have HLE : Hid (R < B * M) := Lib.hid (by omega)
              clear hc hle
              go_wp2_with fail
              go_roundw
              case rel => exact ⟨l, M, rfl, rfl, h1, by omega, HLO.out, HLE.out, X2⟩
              case measure => simp [intOf]; omega
          · have hgti : (h : Int) - l = 1 := by omega
            have HHL : Hid (h = l + 1) := Lib.hid (by omega)
            clear hgt
            have hmi : MineI w.heap.size wi w.heap.size os := OwnI.kept HMX.out HBI.out
            obtain ⟨hcell, hfrz⟩ := hmi.cell k (by rw [HOL.out]; omega)
            have HMI := Lib.hid hmi
            have hl0 : (0 : Int) ≤ l := by omega
            have hl1 : (l : Int) < 65536 := by omega
            have hRl : R - B * l < B := by
              rw [HHL.out] at hhi
              have : B * ((l + 1 : Nat) : Int) = B * l + B := by simp [Int.mul_add]
              omega
            have HLO := Lib.hid hlo
            have HRL := Lib.hid hRl
            have HROI : Hid (OwnI (w.heap.size + 1) (wi.setCell ⟨w.heap.size, k, none⟩ (.int .i64 (l : Int))) ra2 rn2 rc2 rs2) := Lib.hid ((OwnI.lower (OwnI.kept HO2.out HBI.out) (by omega)).setOther _ (by dsimp only; omega))
            have HBW : Hid (Below w.heap.size w (wi.setCell ⟨w.heap.size, k, none⟩ (.int .i64 (l : Int)))) := Lib.hid ((HBX.out.trans (HBI.out.mono HBX.out.size)).setCell (Nat.le_refl _) _)
            have HMS := Lib.hid (HMI.out.set k (l : Int))
            have HSZ : Hid (w.heap.size < (wi.setCell ⟨w.heap.size, k, none⟩ (.int .i64 (l : Int))).heap.size) := Lib.hid (by simp; omega)
            clear hmi hlo hhi hRl
            by_cases hlz : l = 0
            · subst hlz
              obtain rfl : h = 1 := by have := HHL.out; omega
              have hlf : ¬ ((0 : Nat) : Int) > 0 := by omega
              go_wp2_with fail
              go_roundw
              case rel =>
                have hol := HOL.out
                refine ⟨k, ra2, rn2, rc2, rs2, os.set k 0, by omega, by go_num, rfl, HROI.out, hd2, by rw [List.length_set]; exact hol, Dig_set' hod k (by omega) (by omega), drop_step (R := dval 65536 rs2) (q := 0) (by rw [HEX.out]; omega) (by omega) HX.out (HR0.out ▸ HVAL.out) (by rw [HV2.out, HR.out]; omega), ?_, hn2, HMS.out, HBW.out, HSZ.out⟩
                rw [HV2.out]
                have := HRL.out
                omega
              case measure => simp [intOf]; first | done | omega
            · have hlp : (0 : Int) < l := by omega
              have hlt9 : decide (0 < l) = true := decide_eq_true (by omega)
              clear hlz hlp
              obtain ⟨ws, hws⟩ : ∃ ws, ws = wi.setCell ⟨w.heap.size, k, none⟩ (.int .i64 (l : Int)) := ⟨_, rfl⟩
              rw [← hws] at HROI HBW HMS HSZ
              have HWS := Lib.hid hws
              have HL1 := Lib.hid hl1
              have hdl : Dig 65536 [(l : Int)] := by intro z hz; simp at hz; omega
              clear hws hl1 hh hlh
              go_upto_if 52 with (fail)
              rw [← HWS.out]
              clear HWS hcell hfrz hgti
              go_wp2_with fail
              refine (rtimes_any _ bo _ m 1 capb 1 ys [(l : Int)] ((HY.out.below HBW.out).below ((Below.refl ws.heap.size ws).alloc (Nat.le_refl _) _)) (int_row (heap_alloc_new ws _)) ly hdl (by omega) (by omega)).mono ?_
              rintro e v1 ⟨a1, n1, c1, z1, rfl, o1, d1, t1, e1, g1, u1⟩
              have X1 : Below ws.heap.size ws v1 := Below.trans (by go_grown) (u1.mono (by go_size))
              have E1 : Hid (dval 65536 z1 = B * l) := Lib.hid (by rw [e1, HB.out]; simp [dval])
              have S1 := Lib.hid o1.sl
              have hsm : n1 ≤ rn2 := by
                have h1 := rlen_le d1 hd2 t1 (by rw [E1.out, HV2.out]; exact HLO.out)
                rw [o1.sl.len, HO2.out.sl.len] at h1
                exact h1
              clear e1 o1 u1
              go_wp2_with fail
              refine (rminus_any v1 ra2 a1 rn2 n1 rc2 c1 rs2 z1 (HROI.out.sl.below X1) S1.out hd2 d1 (by omega) hsm (by rw [E1.out, HV2.out]; exact HLO.out)).mono ?_
              rintro e v2 ⟨a2, n2, c2, z2, rfl, o2, d2, e2, g2, u2⟩
              have X2 : Below ws.heap.size ws v2 := X1.trans (u2.mono X1.size)
              have E2 : Hid (dval 65536 z2 = R - B * l) := Lib.hid (by rw [e2, HV2.out, E1.out])
              have hsz1 := X1.size
              have hszs := HSZ.out
              have O2 := Lib.hid (OwnI.lower o2 (show w.heap.size + 1 ≤ v1.heap.size by omega))
              clear e2 o2 u2
              go_wp2_with fail
              go_roundw
              case rel =>
                have hol := HOL.out
                refine ⟨k, a2, n2, c2, z2, os.set k l, by omega, by go_num, rfl, O2.out, d2, by rw [List.length_set]; exact hol, Dig_set' hod k hl0 HL1.out, drop_step (R := dval 65536 z2) (q := l) (by rw [HEX.out]; omega) (by omega) HX.out (HR0.out ▸ HVAL.out) (by rw [E2.out, HR.out]; omega), ?_, by omega, OwnI.kept HMS.out X2, HBW.out.trans (X2.mono HBW.out.size), by have := X2.size; omega⟩
                rw [E2.out]
                exact HRL.out
              case measure => simp [intOf]; first | done | omega
    · obtain rfl : j = 0 := by omega
      go_wp2_with fail
      have hmo := HMO.out
      unfold MineI at hmo
      rw [HOL.out] at hmo
      have hv := HVAL.out
      rw [List.drop_zero, List.drop_zero, HR0.out] at hv
      obtain ⟨Q, hQ⟩ : ∃ Q, dval 65536 os = Q := ⟨_, rfl⟩
      rw [hQ] at hv
      have HD1 : Hid (dval 65536 xs / B = Q) := Lib.hid (by rw [hv, Int.add_comm, Int.add_mul_ediv_left _ _ (by omega), Int.ediv_eq_zero_of_lt hr0 hlt]; omega)
      have HD2 : Hid (dval 65536 xs % B = R0) := Lib.hid (by rw [hv, Int.add_comm, Int.add_mul_emod_self_left, Int.emod_eq_of_lt hr0 hlt])
      have HS := Lib.hid HRO.out.sl
      have ht := tl_le os n
      have e1 : os.take (tl os n) = trm os := by rw [trm, HOL.out]
      have HT := Lib.hid (hmo.trimmed (tl os n) ht).sl
      have HTD := Lib.hid (trm_dig hod)
      have HTV := Lib.hid ((trm_dval 65536 os).trans hQ)
      rw [e1] at HT
      obtain ⟨tn, htn⟩ : ∃ tn, tl os n = tn := ⟨_, rfl⟩
      have hcall := rtrim_own wo _ n n os hmo
      rw [htn] at HT hcall ht
      clear hmo hv hQ HMO HVAL HRO e1 htn
      refine hcall.mono ?_
      rintro e w4 ⟨rfl, rfl⟩
      clear hcall
      go_wp2
      go_ret2
      exact ⟨_, _, _, trm os, _, _, _, rs, rfl, HT.out, HTD.out, by rw [HD1.out, HTV.out], ht, HS.out, hrd, by rw [HD2.out, HR0.out], by omega, HBEL.out⟩

/-- Quotient and remainder were returned. -/
def RetQRem (w : World) (q r : Int) (L M : Nat) (e : Ending) (w' : World) : Prop :=
  ∃ n1 a1 k1 c1 z1 n2 a2 k2 c2 z2, e = .returned (.tuple #[.agg #[.bool n1, .slice a1 k1 c1], .agg #[.bool n2, .slice a2 k2 c2], .int .i64 0]) ∧ RefAt w' n1 a1 k1 c1 z1 q ∧ RefAt w' n2 a2 k2 c2 z2 r ∧ k1 ≤ L ∧ k2 ≤ M ∧ Below w.heap.size w w'

theorem sgn_tdiv (nx ny : Bool) {a b : Int} (ha : 0 ≤ a) : Int.tdiv (sgn nx a) (sgn ny b) = sgn (!nx == ny) (a / b) := by
  cases nx <;> cases ny <;> simp [sgn, Int.tdiv_eq_ediv_of_nonneg ha, Int.neg_tdiv, Int.tdiv_neg]

theorem sgn_tmod (nx ny : Bool) {a b : Int} (ha : 0 ≤ a) : Int.tmod (sgn nx a) (sgn ny b) = sgn nx (a % b) := by
  cases nx <;> cases ny <;> simp [sgn, Int.tmod_eq_emod_of_nonneg ha, Int.neg_tmod, Int.tmod_neg]

theorem four_rows (w : World) (a b c d : Obj) : ((((w.alloc a).alloc b).alloc c).alloc d).heap[w.heap.size]? = some a ∧ ((((w.alloc a).alloc b).alloc c).alloc d).heap[w.heap.size + 1]? = some b ∧ ((((w.alloc a).alloc b).alloc c).alloc d).heap[w.heap.size + 1 + 1]? = some c ∧ ((((w.alloc a).alloc b).alloc c).alloc d).heap[w.heap.size + 1 + 1 + 1]? = some d := by
  have h := FourO.made w a b c d
  exact ⟨h.1, h.2.1, h.2.2.1, h.2.2.2⟩

set_option maxRecDepth 100000 in
set_option maxHeartbeats 1000000 in
theorem rdivide_any (w : World) (nx ny : Bool) (ao bo : Option Addr) (n m capa capb : Nat) (xs ys : List Int) (x y : Int) (hx : RefAt w nx ao n capa xs x) (hy : RefAt w ny bo m capb ys y) (hn : n ≤ 1048576) (hm : m ≤ 1048576) (hy0 : y ≠ 0) :
    Calls Tryz.prog 81 #[.agg #[.bool nx, .slice ao n capa], .agg #[.bool ny, .slice bo m capb]] w (RetQRem w (Int.tdiv x y) (Int.tmod x y) n (m + 2)) := by
  have hxp := dval_nonneg (r := 65536) (by omega) hx.lim
  have hyp := dval_nonneg (r := 65536) (by omega) hy.lim
  have hB : 0 < dval 65536 ys := by
    have h := hy.val
    rcases Int.lt_or_eq_of_le hyp with h1 | h1
    · exact h1
    · rw [← h1] at h; exfalso; apply hy0; rw [h]; cases ny <;> simp [sgn]
  have HQ : Hid (sgn (!nx == ny) (dval 65536 xs / dval 65536 ys) = Int.tdiv x y) := Lib.hid (by rw [hx.val, hy.val]; exact (sgn_tdiv nx ny hxp).symm)
  have HR : Hid (sgn nx (dval 65536 xs % dval 65536 ys) = Int.tmod x y) := Lib.hid (by rw [hx.val, hy.val]; exact (sgn_tmod nx ny hxp).symm)
  obtain ⟨c, hc⟩ : ∃ c, cmpI y 0 = c := ⟨_, rfl⟩
  have hcn : c ≠ 0 := by rw [← hc]; unfold cmpI; split <;> (try split) <;> omega
  have hcb : (c == 0) = false := by simpa using hcn
  have HS : Hid (∀ w', Below w.heap.size w w' → Calls Tryz.prog 77 #[.agg #[.bool ny, .slice bo m capb]] w' (RetV w' (.int .i64 c))) := Lib.hid (fun w' hb => by
    rw [← hc]; exact rsign_any w' ny bo m capb ys y (hy.below hb))
  have HD : Hid (∀ w', Below w.heap.size w w' → Calls Tryz.prog 121 #[.slice ao n capa, .slice bo m capb] w' (RetDivided w' (dval 65536 xs / dval 65536 ys) (dval 65536 xs % dval 65536 ys) n (m + 2))) := Lib.hid (fun w' hb =>
    rdivided_any w' ao bo n m capa capb xs ys (hx.sl.below hb) (hy.sl.below hb) hx.lim hy.lim hn hm hB)
  clear hx hy hxp hyp hB hc hcn hy0
  go_enter Tryz.func81, Tryz.ntmps81
  go_wp2_with fail
  refine (HS.out _ (by go_grown)).mono ?_
  rintro e w1 ⟨rfl, hb1⟩
  obtain ⟨r1, r2, r3, r4⟩ := four_rows w (.cells #[.bool nx, .slice ao n capa] 34) (.cells #[.bool ny, .slice bo m capb] 34) (.cells #[.bool false, .slice none 0 0] 34) (.cells #[.bool false, .slice none 0 0] 34)
  replace r1 := (hb1.block w.heap.size (by go_size)).trans r1
  replace r2 := (hb1.block (w.heap.size + 1) (by go_size)).trans r2
  replace r3 := (hb1.block (w.heap.size + 1 + 1) (by go_size)).trans r3
  replace r4 := (hb1.block (w.heap.size + 1 + 1 + 1) (by go_size)).trans r4
  have hz1 : w.heap.size + 1 + 1 + 1 + 1 ≤ w1.heap.size := Nat.le_trans (by go_size) hb1.size
  have hb2 : Below w.heap.size w w1 := Below.trans (by go_grown) (hb1.mono (by go_size))
  obtain ⟨x0, x1, -, -⟩ := blk2 r1
  obtain ⟨y0, y1, -, -⟩ := blk2 r2
  have R3 := Lib.hid r3
  have R4 := Lib.hid r4
  clear hb1 r3 r4
  go_wp2_with fail
  refine (HD.out w1 hb2).mono ?_
  rintro e w2 ⟨qo, qn, qc, qs, ro, rn, rc, rs, rfl, sq, dq, eq, gq, sr, dr, er, gr, u2⟩
  have SQ := Lib.hid sq
  have SR := Lib.hid sr
  have EQ := Lib.hid eq
  have ER := Lib.hid er
  have hz2 := u2.size
  have hb3 : Below w.heap.size w w2 := hb2.trans (u2.mono hb2.size)
  replace x0 := (u2.cell (p := ⟨w.heap.size, 0, none⟩) (by dsimp only; omega)).trans x0
  replace y0 := (u2.cell (p := ⟨w.heap.size + 1, 0, none⟩) (by dsimp only; omega)).trans y0
  replace R3 := Lib.hid ((u2.block (w.heap.size + 1 + 1) (by omega)).trans R3.out)
  replace R4 := Lib.hid ((u2.block (w.heap.size + 1 + 1 + 1) (by omega)).trans R4.out)
  clear sq sr eq er u2 x1 y1 r1 r2 hb2
  go_wp2_with fail
  have HKP : Hid (∀ w', Below w2.heap.size w2 w' → (w'.cell? ⟨w.heap.size, 0, none⟩ = some (.bool nx) ∧ w'.cell? ⟨w.heap.size + 1, 0, none⟩ = some (.bool ny))) := Lib.hid (fun w' hb => ⟨(hb.cell (p := ⟨w.heap.size, 0, none⟩) (by dsimp only; omega)).trans x0, (hb.cell (p := ⟨w.heap.size + 1, 0, none⟩) (by dsimp only; omega)).trans y0⟩)
  go_region_held3 (fun w' => w'.cell? ⟨w.heap.size, 0, none⟩ = some (.bool nx) ∧ w'.cell? ⟨w.heap.size + 1, 0, none⟩ = some (.bool ny)) ((first | exact HKP.out _ X2 | exact HKP.out _ X1 | exact HKP.out _ (Below.refl _ _).drew | (go_split_ands; refine ⟨?_, ?_⟩ <;> (rw [World.cell?_setCell_far _ _ _ _ (by dsimp only; omega), World.cell?_setCell_far _ _ _ _ (by dsimp only; omega)]; assumption))))
    (first | (go_at_call 118; have T2 := X1; clear T2; refine (made_int v1 nx ro rn rc rs (SR.out.below X1) dr (x := Int.tmod x y) (by rw [← HR.out, ER.out])).mono ?_; rintro e v2 ⟨nB, aB, kB, cB, zB, rfl, iB, gB, uB⟩; have X2 : Below w2.heap.size w2 v2 := X1.trans (uB.mono X1.size); have r3 := (X2.block _ (by omega)).trans R3.out; have r4 := (X2.block _ (by omega)).trans R4.out; obtain ⟨c0, c1, f0, f1⟩ := blk2 r3; obtain ⟨d0, d1, g0, g1⟩ := blk2 r4; have IB := Lib.hid iB; have K3 := Lib.hid r3; have K4 := Lib.hid r4; have UB := Lib.hid uB; clear iB r3 r4 uB) | (go_at_call 118; refine (made_int _ _ qo qn qc qs (SQ.out.below (Below.refl _ _).drew) dq (x := Int.tdiv x y) (by rw [← HQ.out, EQ.out])).mono ?_; rintro e v1 ⟨nA, aA, kA, cA, zA, rfl, iA, gA, uA⟩; have X1 : Below w2.heap.size w2 v1 := (Below.refl _ _).drew.trans uA; have IA := Lib.hid iA; clear iA uA))
  go_wp2_with fail
  have hb4 : Below w.heap.size w v2 := hb3.trans (X2.mono hb3.size)
  have iA := (IA.out.below UB.out).stored K3.out (.bool nA) (.slice aA kA cA)
  have iB := IB.out.stored K3.out (.bool nA) (.slice aA kA cA)
  have k4 : ((v2.setCell ⟨w.heap.size + 1 + 1, 0, none⟩ (.bool nA)).setCell ⟨w.heap.size + 1 + 1, 1, none⟩ (.slice aA kA cA)).heap[w.heap.size + 1 + 1 + 1]? = some (.cells #[.bool false, .slice none 0 0] 34 (0, 0)) := by
    rw [Below.heap_setCell _ _ _ _ (by dsimp only; omega), Below.heap_setCell _ _ _ _ (by dsimp only; omega)]
    exact K4.out
  have IA2 := Lib.hid (iA.stored k4 (.bool nB) (.slice aB kB cB))
  have IB2 := Lib.hid (iB.stored k4 (.bool nB) (.slice aB kB cB))
  clear iA iB k4
  refine bodyPost_ret (v := .tuple #[.agg #[.bool nA, .slice aA kA cA], .agg #[.bool nB, .slice aB kB cB], .int .i64 0]) (by simp [results, Tryz.results81, go_sem, c0, c1, d0, d1]) rfl ?_
  exact ⟨_, _, _, _, _, _, _, _, _, _, rfl, IA2.out, IB2.out, by omega, by omega, (((hb4.setCell (p := ⟨w.heap.size + 1 + 1, 0, none⟩) (by dsimp only; omega) _).setCell (p := ⟨w.heap.size + 1 + 1, 1, none⟩) (by dsimp only; omega) _).setCell (p := ⟨w.heap.size + 1 + 1 + 1, 0, none⟩) (by dsimp only; omega) _).setCell (p := ⟨w.heap.size + 1 + 1 + 1, 1, none⟩) (by dsimp only; omega) _⟩
end Go.Proofs.YtdfepdhflnnjpaaGreat
