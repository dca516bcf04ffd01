/- Is, BitsA, Awakes, Made in one text. -/
import Derived.Test.YtdfepdhflnnjpaaGreatRefs
import Derived.Test.YtdfepdhflnnjpaaGreatNats
import Derived.Laws.CopyOwn
import Derived.Laws.BitsAllLaws
import Derived.StillTailTactics
import Derived.Sort.AtCall
namespace Go.Proofs.YtdfepdhflnnjpaaGreat
open Go.RowKit
set_option autoImplicit false
set_option linter.unusedVariables false

set_option maxHeartbeats 1000000
set_option linter.unusedVariables false

set_option maxRecDepth 100000 in
theorem equal_any (w : World) (ao bo : Option Addr) (n m capa capb : Nat) (xs ys : List Int) (hx : Sl w ao n capa xs) (hy : Sl w bo m capb ys) :
    Calls Tryz.prog 100 #[.slice ao n capa, .slice bo m capb] w (RetQ w (.bool (decide (xs = ys)))) := by
  have HEX := Lib.hid hx.len
  have HEY := Lib.hid hy.len
  have HCX := Lib.hid hx.cells
  have HCY := Lib.hid hy.cells
  have hmost := hx.most
  have hle := hx.le
  have HB' := Lib.hid (show capb ≤ 9223372036854775807 ∧ m ≤ capb from ⟨by have := hy.most; unfold maxLen at this; omega, hy.le⟩)
  unfold maxLen at hmost
  clear hx hy
  by_cases hnm : n = m
  · subst hnm
    go_enter Tryz.func100, Tryz.ntmps100
    go_wp2_with fail
    go_loopw [13] (fun i wr => ∃ k : Nat, k ≤ n ∧ i = .int .i64 k ∧ (∀ j, j < k → xs.getD j 0 = ys.getD j 0) ∧ ∃ q, wr = w.drewN q) (fun i _ => n - (intOf i).toNat)
    case atStart => exact ⟨0, Nat.zero_le _, rfl, fun j hj => by omega, 0, rfl⟩
    case round =>
      obtain ⟨k, hk, rfl, hall, q, rfl⟩ := hrel
      have HA := Lib.hid hall
      clear hall
      by_cases hkn : k < n
      · obtain ⟨a, ha⟩ : ∃ a, xs.getD k 0 = a := ⟨_, rfl⟩
        obtain ⟨b, hb⟩ : ∃ b, ys.getD k 0 = b := ⟨_, rfl⟩
        obtain ⟨ba, oa, rfl, hca⟩ := HCX.out.at (k := k) (by rw [HEX.out]; exact hkn)
        obtain ⟨bb, ob, rfl, hcb⟩ := HCY.out.at (k := k) (by rw [HEY.out]; exact hkn)
        rw [ha] at hca
        rw [hb] at hcb
        have HX := Lib.hid ha
        have HY := Lib.hid hb
        clear ha hb
        have hk1 : (k : Int) < n := by omega
        by_cases hab : a = b
        · subst hab
          have hne : (a != a) = false := by simp
          go_wp2_with fail
          go_quiet (fail)
          go_wp2_with fail
          go_roundw
          case rel =>
            refine ⟨k + 1, by omega, by go_num, fun j hj => ?_, _, rfl⟩
            by_cases h : j = k
            · rw [h, HX.out, HY.out]
            · exact HA.out j (by omega)
          case measure => simp [intOf]; omega
        · have hne : (a != b) = true := by simpa using hab
          have hd : decide (xs = ys) = false := by
            rw [decide_eq_false_iff_not]
            intro h
            exact hab (by rw [← HX.out, ← HY.out, h])
          have HD := Lib.hid hd
          clear hd
          go_wp2_with fail
          go_quiet (fail)
          go_wp2_with fail
          go_ret
          exact ⟨by rw [HD.out]; rfl, _, by first | rfl | (rw [World.drewN_drewN])⟩
      · have hd : decide (xs = ys) = true := by
          rw [decide_eq_true_iff]
          apply List.ext_getElem
          · rw [HEX.out, HEY.out]
          · intro j h1 h2
            have h3 := HA.out j (by rw [HEX.out] at h1; omega)
            rw [getD_lt h1, getD_lt h2] at h3
            exact h3
        have HD := Lib.hid hd
        clear hd
        go_wp2_with fail
        go_ret
        exact ⟨by rw [HD.out]; rfl, q, rfl⟩
  · have hd : decide (xs = ys) = false := by
      rw [decide_eq_false_iff_not]
      intro h
      exact hnm (by rw [← HEX.out, ← HEY.out, h])
    have hmost' : capb ≤ 9223372036854775807 ∧ m ≤ capb := HB'.out
    have hne : ((n : Int) != (m : Int)) = true := by simp; omega
    rw [hd]
    clear hd
    go_enter Tryz.func100, Tryz.ntmps100
    go_wp2_with fail
    go_ret
    exact ⟨rfl, 0, rfl⟩

/-- The sign and the limbs were returned. -/
def RetLimbs (w : World) (neg : Bool) (zs : List Int) (n : Nat) (e : Ending) (w' : World) : Prop :=
  ∃ ao cap, e = .returned (.tuple #[.bool neg, .slice ao n cap]) ∧ Sl w' ao n cap zs ∧ Below w.heap.size w w'

theorem limbs_int (w : World) (neg : Bool) (ao : Option Addr) (n cap : Nat) (zs : List Int) (x : Int) (h : IntAt w neg ao n cap zs x) (hn : n ≤ 34359738368) :
    Calls Tryz.prog 99 #[.agg #[.bool neg, .slice ao n cap]] w (RetLimbs w neg zs n) := by
  have HC : Hid (∀ w1, Below w.heap.size w w1 → _) := fun w1 hb => clone_any w1 ao n cap zs (h.sl.below hb) hn
  clear h
  go_enter Tryz.func99, Tryz.ntmps99
  go_wp2_with fail
  go_region_held3 (fun w' => w'.cell? ⟨w.heap.size, 0, none⟩ = some (.bool neg) ∧ w'.cell? ⟨w.heap.size, 1, none⟩ = some (.slice ao n cap)) (((try dsimp only); (repeat' apply And.intro) <;> (first | (go_keep; done) | (go_split_ands; rw [hb1.cell (by go_size)]; assumption))))
    (first | (go_at_call 113; refine (HC.out _ ?_).mono ?_; (go_grown); rintro e w1 ⟨ao1, cap1, rfl, hown, hb1⟩; have HO := Lib.hid hown.sl; clear hown))
  have hb2 : Below w.heap.size w w1 := Below.trans (by go_grown) (hb1.mono (by go_size))
  go_wp2
  go_ret2
  exact ⟨_, _, rfl, HO.out, hb2⟩

theorem is_eq {nx ny : Bool} {a b : Int} (ha : 0 ≤ a) (hb : 0 ≤ b) (h1 : nx = true → 0 < a) (h2 : ny = true → 0 < b) : (sgn nx a = sgn ny b) ↔ (nx = ny ∧ a = b) := by
  cases nx <;> cases ny <;> simp [sgn] at *
  · omega
  · omega

set_option maxRecDepth 100000 in
theorem is_any (w : World) (nx ny : Bool) (ao bo : Option Addr) (n m capa capb : Nat) (xs ds : List Int) (x y : Int) (hx : IntAt w nx ao n capa xs x) (hy : RefAt w ny bo m capb ds y) (hn : n ≤ 4294967296) (hm : m ≤ 4294967296) :
    Calls Tryz.prog 48 #[.agg #[.bool nx, .slice ao n capa], .agg #[.bool ny, .slice bo m capb]] w (RetV w (.bool (decide (x = y)))) := by
  have HLX : Hid (∀ w1, Below w.heap.size w w1 → Calls Tryz.prog 99 #[.agg #[.bool nx, .slice ao n capa]] w1 (RetLimbs w1 nx xs n)) :=
    fun w1 hb => limbs_int w1 nx ao n capa xs x (hx.below hb) (by omega)
  have HLY : Hid (∀ w1, Below w.heap.size w w1 → Calls Tryz.prog 101 #[.agg #[.bool ny, .slice bo m capb]] w1 (RetNat w1 (dval 65536 ds) (m + 1))) :=
    fun w1 hb => rlimbs_any w1 ny bo m capb ds y (hy.below hb) hm
  have hiff : (x = y) ↔ (nx = ny ∧ val xs = dval 65536 ds) := by
    rw [hx.val, hy.val]
    refine is_eq (val_nonneg hx.lim) (dval_nonneg (by omega) hy.lim) ?_ ?_
    · intro h; have h1 := val_pos_of_top hx.lim hx.top (hx.sign h); have h2 := pow_pos (xs.length - 1); omega
    · intro h
      have hne := hy.sign h
      have ht : ds = [] ∨ ds.getD (ds.length - 1) 0 ≠ 0 := hy.top
      obtain ⟨v, h1, _, h3⟩ := digs_of (r := 65536) (by omega) hy.lim ht
      have := h3 hne
      have h1' : dval 65536 ds = (v : Int) := h1
      omega
  have HIFF := Lib.hid hiff
  have HLIM := Lib.hid hx.lim
  have HTOP := Lib.hid hx.top
  clear hx hy hiff
  by_cases hs : nx = ny
  · have hsb : (nx == ny) = true := by simp [hs]
    have HS := Lib.hid hs
    clear hs
    go_enter Tryz.func48, Tryz.ntmps48
    go_wp2_with fail
    refine (HLX.out _ (by go_grown)).mono ?_
    rintro e w1 ⟨a1, c1, rfl, hsl1, hb1⟩
    have hbk : w1.heap[w.heap.size + 1]? = some (.cells #[.bool ny, .slice bo m capb] 34 (0, 0)) := (hb1.block _ (by go_size)).trans (heap_alloc2 _ _ _).1
    obtain ⟨d0, d1, _, _⟩ := blk2 hbk
    have hb2 : Below w.heap.size w w1 := Below.trans (by go_grown) (hb1.mono (by go_size))
    have HSL := Lib.hid hsl1
    clear hsl1 hb1 hbk
    go_wp2_with fail
    refine (HLY.out w1 hb2).mono ?_
    rintro e w2 ⟨a2, n2, c2, zs, rfl, hown, hlim, htop, hval, hn2, hb3⟩
    have HV := Lib.hid hval
    have HQ := Lib.hid (equal_any w2 a1 a2 n n2 c1 c2 xs zs (HSL.out.below hb3) hown.sl)
    have hb4 : Below w.heap.size w w2 := hb2.trans (hb3.mono hb2.size)
    clear hown hval
    go_wp2_with fail
    refine HQ.out.mono ?_
    rintro e w3 ⟨rfl, q, rfl⟩
    have hfin : decide (xs = zs) = decide (x = y) := by
      rw [decide_eq_decide, HIFF.out, ← HV.out]
      constructor
      · intro h; exact ⟨HS.out, by rw [h]⟩
      · intro h; exact eq_of_val HLIM.out hlim HTOP.out htop h.2
    generalize decide (xs = zs) = bb at hfin
    have HF := Lib.hid hfin
    clear hfin
    go_wp2_with fail
    go_ret
    exact ⟨by rw [← HF.out]; rfl, below_drewN hb4 q⟩
  · have hsb : (nx == ny) = false := by simp [hs]
    have hd : decide (x = y) = false := by rw [decide_eq_false_iff_not, HIFF.out]; exact fun h => hs h.1
    rw [hd]
    clear hs hd
    go_enter Tryz.func48, Tryz.ntmps48
    go_wp2_with fail
    refine (HLX.out _ (by go_grown)).mono ?_
    rintro e w1 ⟨a1, c1, rfl, hsl1, hb1⟩
    have hbk : w1.heap[w.heap.size + 1]? = some (.cells #[.bool ny, .slice bo m capb] 34 (0, 0)) := (hb1.block _ (by go_size)).trans (heap_alloc2 _ _ _).1
    obtain ⟨d0, d1, _, _⟩ := blk2 hbk
    have hb2 : Below w.heap.size w w1 := Below.trans (by go_grown) (hb1.mono (by go_size))
    clear hsl1 hb1 hbk
    go_wp2_with fail
    go_ret
    exact ⟨rfl, hb2⟩

set_option maxHeartbeats 1000000
set_option linter.unusedVariables false

theorem Mine.row {B : Nat} {w : World} {g : Nat} {ys : List Int} (h : Mine B w g ys) : w.heap[g]? = some (.cells (ys.map (Value.int .u32)).toArray 138 (0, 0)) := by
  rcases h.2 with ⟨hv, hn⟩ | ⟨g', c, cur, hv, hb, hg, hnc, hcm, hcs, htake⟩
  · cases hv
  · simp only [Value.slice.injEq, Option.some.injEq, Addr.mk.injEq, and_true, true_and] at hv
    obtain ⟨rfl, rfl⟩ := hv
    rw [List.take_of_length_le (by simp; omega)] at htake
    rw [hg, ← htake]

theorem Mine.ofRow {B : Nat} {w : World} {g : Nat} {ys : List Int} (h : w.heap[g]? = some (.cells (ys.map (Value.int .u32)).toArray 138 (0, 0))) (hB : B ≤ g) (hm : ys.length ≤ maxLen) : Mine B w g ys :=
  ⟨by simp, .inr ⟨g, ys.length, _, rfl, hB, h, Nat.le_refl _, hm, by simp, by rw [List.take_of_length_le (by simp)]⟩⟩

/-- Four new blocks. -/
def FourO (N : Nat) (w : World) (a b c d : Obj) : Prop := w.heap[N]? = some a ∧ w.heap[N + 1]? = some b ∧ w.heap[N + 1 + 1]? = some c ∧ w.heap[N + 1 + 1 + 1]? = some d

theorem FourO.below {N : Nat} {w w' : World} {a b c d : Obj} (h : FourO N w a b c d) (hb : Below w.heap.size w w') (hN : N + 1 + 1 + 1 + 1 ≤ w.heap.size) : FourO N w' a b c d := by
  obtain ⟨h1, h2, h3, h4⟩ := h
  exact ⟨by rw [hb.block _ (by omega)]; exact h1, by rw [hb.block _ (by omega)]; exact h2, by rw [hb.block _ (by omega)]; exact h3, by rw [hb.block _ (by omega)]; exact h4⟩

theorem FourO.made (w : World) (a b c d : Obj) : FourO w.heap.size ((((w.alloc a).alloc b).alloc c).alloc d).drew a b c d := by
  refine ⟨?_, ?_, ?_, ?_⟩
  · show ((((w.alloc a).alloc b).alloc c).alloc d).heap[w.heap.size]? = _
    rw [heap_alloc_old _ _ (by simp; omega), heap_alloc_old _ _ (by simp; omega), heap_alloc_old _ _ (by simp), heap_alloc_new]
  · show ((((w.alloc a).alloc b).alloc c).alloc d).heap[w.heap.size + 1]? = _
    rw [heap_alloc_old _ _ (by simp), heap_alloc_old _ _ (by simp)]; have := heap_alloc_new (w.alloc a) b; simpa using this
  · show ((((w.alloc a).alloc b).alloc c).alloc d).heap[w.heap.size + 1 + 1]? = _
    rw [heap_alloc_old _ _ (by simp)]; exact heap_alloc3 w _ _ _
  · exact heap_alloc4 w _ _ _ _

theorem FourO.store {N : Nat} {w : World} {a b c d : Obj} (h : FourO N w a b c d) {g j : Nat} {u : Value} (hg : N + 1 + 1 + 1 + 1 ≤ g) : FourO N (w.setCell ⟨g, j, none⟩ u) a b c d := by
  obtain ⟨h1, h2, h3, h4⟩ := h
  exact ⟨by rw [Below.heap_setCell _ _ _ _ (by dsimp only; omega)]; exact h1, by rw [Below.heap_setCell _ _ _ _ (by dsimp only; omega)]; exact h2, by rw [Below.heap_setCell _ _ _ _ (by dsimp only; omega)]; exact h3, by rw [Below.heap_setCell _ _ _ _ (by dsimp only; omega)]; exact h4⟩

set_option maxHeartbeats 1000000
set_option linter.unusedVariables false

/-- A number as it is handed in: a sign and its limbs. -/
structure Num where
  neg : Bool
  ao : Option Addr
  n : Nat
  cap : Nat

def Num.agg (x : Num) : Value := .agg #[.bool x.neg, .slice x.ao x.n x.cap]

/-- The block holds the numbers, one behind the other. -/
def Nums (w : World) (b : Nat) (l : List Num) : Prop :=
  ∀ i x, l[i]? = some x → w.cell? ⟨b, i * 2, none⟩ = some (.bool x.neg) ∧ w.cell? ⟨b, i * 2 + 1, none⟩ = some (.slice x.ao x.n x.cap)

theorem Nums.below {w w' : World} {b : Nat} {l : List Num} (h : Nums w b l) (hb : Below w.heap.size w w') (hl : b < w.heap.size) : Nums w' b l := by
  intro i x hx
  obtain ⟨h1, h2⟩ := h i x hx
  exact ⟨(hb.cell hl).trans h1, (hb.cell hl).trans h2⟩

theorem short1 (w : World) (neg : Bool) (ao : Option Addr) (n cap : Nat) (most : Int) (p : Addr) (hc : w.cell? p = some (.int .i64 most)) (hp : p.block < w.heap.size) :
    Calls Tryz.prog 71 #[.agg #[.bool neg, .slice ao n cap], .pointer (some p)] w (RetV w (.bool (decide (most < (n : Int))))) := by
  go_enter Tryz.func71, Tryz.ntmps71
  go_wp2_with fail
  go_ret
  exact ⟨rfl, by go_grown⟩

/-- The first number that is too long is found, or none is. -/
def RetFind (w : World) (l : List Num) (most : Nat) (e : Ending) (w' : World) : Prop :=
  ∃ k : Int, e = .returned (.int .i64 k) ∧ (0 ≤ k ↔ ∃ x ∈ l, most < x.n) ∧ Below w.heap.size w w'

set_option maxRecDepth 100000 in
theorem find_any (w : World) (b cap : Nat) (l : List Num) (most : Nat) (p : Addr) (hl : Nums w b l) (hb : b < w.heap.size) (hc : w.cell? p = some (.int .i64 most)) (hp : p.block < w.heap.size) (hlen : l.length ≤ cap) (hcap : cap ≤ 1000) :
    Calls Tryz.prog 116 #[.slice (some ⟨b, 0, none⟩) l.length cap, .func (Fn.func 71) #[] #[.pointer (some p)]] w (RetFind w l most) := by
  have HL := Lib.hid hl
  clear hl
  obtain ⟨n, hn⟩ : ∃ n, n = l.length := ⟨_, rfl⟩
  rw [← hn] at hlen ⊢
  have HN := Lib.hid hn
  clear hn
  go_enter Tryz.func116, Tryz.ntmps116
  go_wp2_with fail
  go_loopw [8] (fun i wr => ∃ j : Nat, j ≤ n ∧ i = .int .i64 j ∧ (∀ x ∈ l.take j, x.n ≤ most) ∧ Below w.heap.size w wr)
    (fun i _ => n - (intOf i).toNat)
  case atStart => exact ⟨0, by omega, rfl, by simp, .refl _ _⟩
  case round =>
    obtain ⟨j, hj, rfl, hall, hbel⟩ := hrel
    have HALL := Lib.hid hall
    have hc' : wr.cell? p = some (.int .i64 most) := (hbel.cell hp).trans hc
    have hp' : p.block < wr.heap.size := Nat.lt_of_lt_of_le hp hbel.size
    clear hall
    by_cases hjs : j < n
    · obtain ⟨x, hx⟩ : ∃ x, l[j]? = some x := ⟨l[j]'(by rw [← HN.out]; exact hjs), by simp⟩
      obtain ⟨x0, x1⟩ := HL.out.below hbel hb j x hx
      have HX := Lib.hid hx
      clear hx
      have hji : (j : Int) < n := by omega
      go_wp2_with fail
      by_cases hm : most < x.n
      · refine (short1 _ x.neg x.ao x.n x.cap most p hc' hp').mono ?_
        rintro e w1 ⟨rfl, hb1⟩
        have hd : decide ((most : Int) < (x.n : Int)) = true := by simp; exact hm
        rw [hd]
        clear hd
        go_wp2_with fail
        go_ret
        refine ⟨j, rfl, ⟨fun _ => ⟨x, List.mem_of_getElem? HX.out, hm⟩, fun _ => by omega⟩, hbel.trans (hb1.mono hbel.size)⟩
      · refine (short1 _ x.neg x.ao x.n x.cap most p hc' hp').mono ?_
        rintro e w1 ⟨rfl, hb1⟩
        have hd : decide ((most : Int) < (x.n : Int)) = false := by simp; omega
        rw [hd]
        clear hd
        go_wp2_with fail
        go_roundw
        case rel =>
          refine ⟨j + 1, by omega, by go_num, ?_, hbel.trans (hb1.mono hbel.size)⟩
          intro y hy
          rw [List.take_add_one, HX.out] at hy
          simp at hy
          rcases hy with hy | rfl
          · exact HALL.out y hy
          · omega
        case measure => simp [intOf]; omega
    · obtain rfl : j = n := by omega
      have hji : ¬ (j : Int) < j := by omega
      go_wp2_with fail
      go_ret
      refine ⟨-1, rfl, ⟨fun h => by omega, ?_⟩, hbel⟩
      rintro ⟨y, hy, hm⟩
      have := HALL.out y (by rw [List.take_of_length_le (by rw [← HN.out]; omega)]; exact hy)
      omega

theorem contains_any (w : World) (b cap : Nat) (l : List Num) (most : Nat) (p : Addr) (hl : Nums w b l) (hb : b < w.heap.size) (hc : w.cell? p = some (.int .i64 most)) (hp : p.block < w.heap.size) (hlen : l.length ≤ cap) (hcap : cap ≤ 1000) :
    Calls Tryz.prog 70 #[.slice (some ⟨b, 0, none⟩) l.length cap, .func (Fn.func 71) #[] #[.pointer (some p)]] w (RetV w (.bool (decide (∃ x ∈ l, most < x.n)))) := by
  have HC := Lib.hid (find_any w b cap l most p hl hb hc hp hlen hcap)
  clear hl hc
  go_enter Tryz.func70, Tryz.ntmps70
  go_wp2_with fail
  refine HC.out.mono ?_
  rintro e w1 ⟨k, rfl, hk, hb1⟩
  have HK := Lib.hid hk
  clear hk
  go_wp2_with fail
  go_ret
  refine ⟨?_, hb1⟩
  change Ending.returned (.bool (decide (0 ≤ k))) = _
  rw [decide_eq_decide.2 HK.out]

theorem short_any (w : World) (b cap : Nat) (l : List Num) (most : Nat) (hl : Nums w b l) (hb : b < w.heap.size) (hlen : l.length ≤ cap) (hcap : cap ≤ 1000) :
    Calls Tryz.prog 12 #[.int .i64 most, .slice (some ⟨b, 0, none⟩) l.length cap] w (RetV w (.bool (decide (∀ x ∈ l, x.n ≤ most)))) := by
  have HL := Lib.hid hl
  clear hl
  go_enter Tryz.func12, Tryz.ntmps12
  go_wp2_with fail
  refine (contains_any _ b cap l most ⟨w.heap.size, 0, none⟩ (HL.out.below (by go_grown) hb) (Nat.lt_of_lt_of_le hb (by go_size)) (by go_keep) (by go_size) hlen hcap).mono ?_
  rintro e w1 ⟨rfl, hb1⟩
  have hd : (!(decide (∃ x ∈ l, most < x.n))) = decide (∀ x ∈ l, x.n ≤ most) := by
    rw [← decide_not]
    apply decide_eq_decide.2
    simp
  have HD := Lib.hid hd
  clear hd
  go_wp2_with fail
  go_ret
  refine ⟨?_, Below.trans (by go_grown) (hb1.mono (by go_size))⟩
  change Ending.returned (.bool (!(decide (∃ x ∈ l, most < x.n)))) = _
  rw [HD.out]

set_option maxHeartbeats 1000000
set_option linter.unusedVariables false

/-- 'append(s, x)' of one value of two cells, s the call's own: the value x lies in a block that has just been laid. -/
theorem wpList_app2 {P : Program} {w : World} {ops : Array Oper} {rest : List Oper} {o : Oper} {a : Act} {Q : Exit → Act → World → Prop} (hgd : o.guard = none) (s x : Operand) (t : TypeId)
    (ho : o.op = .call { callee := .builtin .append, args := #[s, x], argTypes := #[t, t] })
    (base : Nat) (e : TypeId) (i : TypeInfo) (z : Value) (bytes : Nat) (ht : P.underlying t = some (.slice e)) (hi : P.info? e = some i) (hz : i.zero = some z)
    (hsize : i.size = 2) (hby : i.bytes = bytes) (hzs : z.cells.size = 2)
    (v : Value) (n : Nat) (xs : List Value) (u1 u2 : Value) (hs : a.eval s = v) (hown : w.ownsRow base e 2 v n xs)
    (hx : a.eval x = .slice (some ⟨w.heap.size, 0, none⟩) 1 1) (h1 : u1.oneCell' = true) (h2 : u2.oneCell' = true)
    (hn : n ≤ 1099511627776) (hb : bytes ≤ 64) (hbase : base ≤ w.heap.size)
    (h : ∀ ao c w', w'.ownsRow base e 2 (.slice ao (n + 1) c) (n + 1) (xs ++ [u1, u2]) → (w.alloc (.cells #[u1, u2] e)).grownBy w' v.ownBlock → wpList P ops Q rest (a.put o.dst (.slice ao (n + 1) c)) w') :
    wpList P ops Q (o :: rest) a (w.alloc (.cells #[u1, u2] e)) := by
  refine wpList_append_own _ hgd s x t ho base e i z 2 bytes ht hi hz hsize hby hzs (by decide) v n xs hs (hown.alloc _) ⟨w.heap.size, 0, none⟩ 1 1 [u1, u2] hx rfl ?_ ?_ (by unfold maxLen; omega) ?_ (by simp; omega) ?_
  · intro j v' hj
    match j, hj with
    | 0, hj =>
      simp at hj
      subst hj
      simp [Addr.add]
    | 1, hj =>
      simp at hj
      subst hj
      simp [Addr.add]
  · intro v' hv'
    simp at hv'
    rcases hv' with rfl | rfl
    · exact h1
    · exact h2
  · have : (n + 1) * bytes ≤ (n + 1) * 64 := Nat.mul_le_mul_left _ hb
    omega
  · intro v' w' ho' hg' _
    obtain ⟨ao, c, rfl⟩ : ∃ ao c, v' = .slice ao (n + 1) c := by
      rcases ho'.2 with ⟨hv, h0⟩ | ⟨g, c, cur, hv, _⟩
      · omega
      · exact ⟨_, _, hv⟩
    exact h ao c w' ho' hg'

theorem info_Int : (Tryz.prog.info? 31).map (fun i => (i.zero, i.size, i.bytes)) = some (some (.agg #[.bool false, .slice none 0 0]), 2, 32) := by kernel_rfl

theorem Own.setOther {B : Nat} {w : World} {ao : Option Addr} {n cap : Nat} {zs : List Int} (h : Own B w ao n cap zs) {p : Addr} (u : Value) (hp : p.block < B) : Own B (w.setCell p u) ao n cap zs := by
  refine ⟨h.1, ?_⟩
  rcases h.2 with h2 | ⟨g, c, cur, hv, hbg, hg, r⟩
  · exact .inl h2
  · refine .inr ⟨g, c, cur, hv, hbg, ?_, r⟩
    rw [Below.heap_setCell _ _ _ _ (by omega)]
    exact hg

/-- A row of limbs stays while a row of other elements is appended to. -/
theorem Own.grown {B : Nat} {w w' : World} {ao : Option Addr} {n cap : Nat} {zs : List Int} (h : Own B w ao n cap zs) {row : Option Nat} (hg : w.grownBy w' row) (hr : ∀ g, row = some g → ∃ cur fz, w.heap[g]? = some (.cells cur 31 fz)) : Own B w' ao n cap zs := by
  refine ⟨h.1, ?_⟩
  rcases h.2 with h2 | ⟨g, c, cur, hv, hbg, hg2, r⟩
  · exact .inl h2
  · refine .inr ⟨g, c, cur, hv, hbg, ?_, r⟩
    rw [hg.block g (Array.getElem?_eq_some_iff.1 hg2).1 ?_]
    · exact hg2
    · intro hrow
      obtain ⟨cur', fz, h3⟩ := hr g hrow.symm
      rw [hg2] at h3
      simp at h3
end Go.Proofs.YtdfepdhflnnjpaaGreat
