/- Bits1, Bits2, Bits3 in one text. -/
import Derived.Test.YtkifebmlojdjnaaNats
import Derived.Laws.CopyOwn
import Derived.Laws.BitsAllLaws
import Derived.StillTailTactics
namespace Go.Proofs.Ytkifebmlojdjnaa
open Go.RowKit
set_option autoImplicit false
set_option linter.unusedVariables false

theorem neg_step {ys a : List Int} {k : Nat} {c x : Int} (hk : k < ys.length) (hx : a.getD k 0 = x) (h0 : ys.getD k 0 = x) (h : val (ys.take k) + 4294967296 ^ k * c = 4294967296 ^ k - val (a.take k)) :
    val ((ys.set k ((4294967295 - x + c) % 4294967296)).take (k + 1)) + 4294967296 ^ (k + 1) * ((4294967295 - x + c) / 4294967296) = 4294967296 ^ (k + 1) - val (a.take (k + 1)) := by
  rw [val_take_succ, val_take_succ, hx, Int.pow_succ, getD_set_eq hk, List.take_set_of_le (by omega)]
  have := Int.emod_add_mul_ediv (4294967295 - x + c) 4294967296
  grind

theorem xor_ones (n : Nat) (h : n < 4294967296) : 4294967295 ^^^ n = 4294967295 - n := by
  have h1 := congrArg BitVec.toNat (BitVec.allOnes_xor (x := BitVec.ofNat 32 n))
  simp only [BitVec.toNat_xor, BitVec.toNat_allOnes, BitVec.toNat_ofNat, BitVec.toNat_not] at h1
  rw [Nat.mod_eq_of_lt (by omega)] at h1
  simpa using h1

theorem not_u32 (x : Int) (h0 : 0 ≤ x) (h1 : x ≤ 4294967295) : bits BinOp.xor IntKind.u32 (if IntKind.u32.signed = true then -1 else IntKind.u32.max) x = 4294967295 - x := by
  obtain ⟨n, rfl⟩ := Int.eq_ofNat_of_zero_le h0
  have e : (if IntKind.u32.signed = true then -1 else IntKind.u32.max) = ((4294967295 : Nat) : Int) := by decide
  rw [e, u32_xor_nat _ _ (by decide) (by omega), xor_ones n (by omega)]
  omega

set_option maxRecDepth 100000 in
theorem negate_any (B : Nat) (w : World) (ao : Option Addr) (n cap : Nat) (xs : List Int) (h : Own B w ao n cap xs) (lx : Lim xs) :
    Calls Try.prog 128 #[.slice ao n cap] w fun e w' => ∃ zs, e = .returned (.tuple #[]) ∧ Own B w' ao n cap zs ∧ Lim zs ∧ val zs = (- val xs) % 4294967296 ^ n ∧ w.grownBy w' (Value.slice ao n cap).ownBlock ∧ Below B w w' := by
  have HL := Lib.hid h.sl.len
  have hmost := h.sl.most
  have hle := h.sl.le
  unfold maxLen at hmost
  have H := Lib.hid h
  clear h
  go_enter Try.func128, Try.ntmps128
  go_wp2_with fail
  go_loopw [2, 7] (fun c i wr => ∃ (k : Nat) (cy : Int) (zs : List Int), k ≤ n ∧ i = .int .i64 k ∧ c = .int .u64 cy ∧ 0 ≤ cy ∧ cy ≤ 1 ∧ zs.length = n ∧ Lim zs ∧ (∀ j, k ≤ j → zs.getD j 0 = xs.getD j 0) ∧
      val (zs.take k) + 4294967296 ^ k * cy = 4294967296 ^ k - val (xs.take k) ∧ Own B wr ao n cap zs ∧ w.grownBy wr (Value.slice ao n cap).ownBlock ∧ Below B w wr) (fun _ i _ => n - (intOf i).toNat)
  case atStart => exact ⟨0, 1, xs, Nat.zero_le _, rfl, rfl, by omega, by omega, HL.out, lx, fun _ _ => rfl, by simp [val], H.out, World.grownBy.refl _ _, Below.refl _ _⟩
  case round =>
    obtain ⟨k, cy, zs, hk, rfl, rfl, hc0, hc1, hzl, hlim, hsame, hval, hown, hgr, hbel⟩ := hrel
    have HO := Lib.hid hown
    have HS := Lib.hid hsame
    have HV := Lib.hid hval
    have HZ := Lib.hid hzl
    have HG := Lib.hid hgr
    clear hown hsame hval hzl hgr
    by_cases hkn : k < n
    · obtain ⟨g, rfl, hB, hc, hf⟩ := HO.out.at (j := k) hkn
      obtain ⟨x, hx⟩ : ∃ x, xs.getD k 0 = x := ⟨_, rfl⟩
      rw [HS.out k (Nat.le_refl _), hx] at hc
      have hlx := Lim_getD lx k
      rw [hx] at hlx
      obtain ⟨hx0, hx1⟩ := hlx
      have HX := Lib.hid hx
      clear hx
      have hk2 : (k : Int) < n := by omega
      have hnot := not_u32 x hx0 hx1
      have hk1 : (4294967295 - x + cy) % 4294967296 ≤ 4294967295 := by omega
      go_wp2_with fail
      go_roundw
      case rel =>
        have hzl := HZ.out
        have hst := neg_step (ys := zs) (a := xs) (k := k) (c := cy) (x := x) (by omega) HX.out ((HS.out k (Nat.le_refl _)).trans HX.out) HV.out
        exact ⟨k + 1, (4294967295 - x + cy) / 4294967296, zs.set k ((4294967295 - x + cy) % 4294967296), by omega, by go_num, rfl, by omega, by omega, by rw [List.length_set]; exact hzl, Lim_set hlim k (by omega) (by omega),
          fun j hj => by rw [getD_set_ne (by omega)]; exact HS.out j (by omega), hst, HO.out.set k _, grownBy.setRow HG.out k _, hbel.setCell hB _⟩
      case measure => simp [intOf]; omega
    · obtain rfl : k = n := by omega
      have hv : val zs = (- val xs) % 4294967296 ^ k := by
        have hv := HV.out
        have e1 := HZ.out
        have e2 := HL.out
        rw [List.take_of_length_le (by omega), List.take_of_length_le (by omega)] at hv
        have hz1 := val_lt hlim
        have hz0 := val_nonneg hlim
        have hx1 := val_lt lx
        have hx0 := val_nonneg lx
        rw [e1] at hz1
        rw [e2] at hx1
        rcases (show cy = 0 ∨ cy = 1 by omega) with rfl | rfl
        · have : - val xs = val zs + 4294967296 ^ k * (-1) := by omega
          rw [this, Int.add_mul_emod_self_left, Int.emod_eq_of_lt hz0 hz1]
        · have hz : val zs = 0 := by omega
          have hx : val xs = 0 := by omega
          rw [hz, hx]; simp
      have HVV := Lib.hid hv
      clear hv
      go_wp2_with fail
      go_end0
      exact ⟨zs, rfl, HO.out, hlim, HVV.out, HG.out, hbel⟩

theorem neg_mod (a m : Int) : (-(a % m)) % m = (-a) % m := by
  have h := Int.emod_add_mul_ediv a m
  have e : -a = -(a % m) + m * (-(a / m)) := by grind
  rw [e, Int.add_mul_emod_self_left]

theorem Mine.row {B : Nat} {w : World} {g : Nat} {ys : List Int} (h : Mine B w g ys) : w.heap[g]? = some (.cells (ys.map (Value.int .u32)).toArray 99 (0, 0)) := by
  rcases h.2 with ⟨hv, hn⟩ | ⟨g', c, cur, hv, hb, hg, hnc, hcm, hcs, htake⟩
  · cases hv
  · simp only [Value.slice.injEq, Option.some.injEq, Addr.mk.injEq, and_true, true_and] at hv
    obtain ⟨rfl, rfl⟩ := hv
    rw [List.take_of_length_le (by simp; omega)] at htake
    rw [hg, ← htake]

theorem Mine.ofRow {B : Nat} {w : World} {g : Nat} {ys : List Int} (h : w.heap[g]? = some (.cells (ys.map (Value.int .u32)).toArray 99 (0, 0))) (hB : B ≤ g) (hm : ys.length ≤ maxLen) : Mine B w g ys :=
  ⟨by simp, .inr ⟨g, ys.length, _, rfl, hB, h, Nat.le_refl _, hm, by simp, by rw [List.take_of_length_le (by simp)]⟩⟩

theorem val_pad (xs : List Int) (lx : Lim xs) (k : Nat) : val (xs.take k ++ List.replicate (k - xs.length) 0) = val xs % 4294967296 ^ k := by
  rw [val_append, val_replicate]
  by_cases h : k ≤ xs.length
  · have h1 := val_split xs k
    rw [List.length_take, Nat.min_eq_left h] at h1
    have h2 := val_lt (Lim_take lx k)
    have h3 := val_nonneg (Lim_take lx k)
    rw [List.length_take, Nat.min_eq_left h] at h2
    rw [h1, Int.add_mul_emod_self_left, Int.emod_eq_of_lt h3 h2]
    omega
  · rw [List.take_of_length_le (by omega)]
    have h2 := val_lt lx
    have h3 := val_nonneg lx
    have h4 := pow_le (show xs.length ≤ k by omega)
    rw [Int.emod_eq_of_lt h3 (by omega)]
    omega

/-- Words of two's complement were returned. -/
def RetWords (w : World) (x : Int) (k : Nat) (e : Ending) (w' : World) : Prop :=
  ∃ g zs, e = .returned (.slice (some ⟨g, 0, none⟩) k k) ∧ Mine w.heap.size w' g zs ∧ zs.length = k ∧ Lim zs ∧ val zs = x % 4294967296 ^ k ∧ Below w.heap.size w w'

set_option maxRecDepth 100000 in
theorem words_any (w : World) (nx : Bool) (ao : Option Addr) (n cap : Nat) (xs : List Int) (x : Int) (k : Nat) (hx : IntAt w nx ao n cap xs x) (hk : k ≤ 34359738368) :
    Calls Try.prog 101 #[.agg #[.bool nx, .slice ao n cap], .int .i64 k] w (RetWords w x k) := by
  have HL := Lib.hid hx.sl.len
  have HCX := Lib.hid hx.sl.cells
  have HLX := Lib.hid hx.lim
  have HV := Lib.hid hx.val
  have hmost := hx.sl.most
  have hle := hx.sl.le
  unfold maxLen at hmost
  obtain ⟨i0, hi, hz0, hz1, hz2⟩ := info_parts info_u32
  have hinf : (Try.prog.info? 99).map (·.size) = some 1 := by rw [hi]; simp [hz1]
  clear hx
  go_enter Try.func101, Try.ntmps101
  go_wp2_with (at_make; refine wpList_make_full _ rfl _ _ 22 rfl w.heap.size 99 i0 (.int .u32 0) 1 Try.underlying22 hi hz0 hz1 _ _ _ _ k rfl rfl (by omega) (by omega) (by rw [hz2]; omega) (by unfold maxLen; omega) (by simp) ?_)
  intro w1 hown hgrow
  have hm1 := made_mine (n := k) (by simpa using hown)
  have hb1 : Below w.heap.size w w1 := Below.grown ((Below.refl _ _).alloc (Nat.le_refl _) _) hgrow (by simp) (by intro g hg; cases hg)
  have hk0 : w1.heap[w.heap.size]? = some (.cells #[.bool nx, .slice ao n cap] 28 (0, 0)) := (hgrow.block _ (by simp) (by simp)).trans (heap_alloc_new w _)
  obtain ⟨c0, c1, _, _⟩ := blk2 hk0
  have hrow := hm1.row
  have hge := hm1.ge
  have hsz1 := hgrow.size
  simp at hsz1
  have HM := Lib.hid hm1
  have HROW := Lib.hid hrow
  have HB := Lib.hid hk0
  clear hown hgrow hm1 hrow hk0
  obtain ⟨cs, hcs⟩ : ∃ cs, cs = (xs.take k).map (Value.int .u32) := ⟨_, rfl⟩
  have HCS := Lib.hid hcs
  have hcl : cs.length = Nat.min n k := by rw [hcs, List.length_map, List.length_take, HL.out]; exact Nat.min_comm _ _
  have h1c : ∀ v ∈ cs, v.oneCell' = true := by rw [hcs]; exact ints_oneCell _ _
  have hpos : 0 < cs.length → (some (⟨w.heap.size + 1, 0, none⟩ : Addr)) = some ⟨w.heap.size + 1, 0, none⟩ ∧ ∃ ad, ao = some ad ∧ ∀ j v, cs[j]? = some v → w1.cell? (ad.add j) = some v := by
    intro hp
    refine ⟨rfl, ?_⟩
    rcases HCX.out.below hb1 with h | ⟨b, o, h1, h2⟩
    · rw [hcs, h] at hp; simp at hp
    · refine ⟨_, h1, fun j v hj => ?_⟩
      rw [hcs, List.getElem?_map] at hj
      obtain ⟨z, hz, rfl⟩ := Option.map_eq_some_iff.1 hj
      rw [List.getElem?_take] at hz
      split at hz
      · obtain ⟨hjl, rfl⟩ := List.getElem?_eq_some_iff.1 hz
        have := h2 j hjl
        rw [getD_lt hjl] at this
        rw [Addr.add_lit]
        exact this
      · cases hz
  have HCL := Lib.hid hcl
  have H1C := Lib.hid h1c
  have HPOS := Lib.hid hpos
  clear hcs hcl h1c hpos
  go_wp2_with (with_reducible refine wpList_copy_splice (o := ⟨some 11, _, _, _, _, _⟩) rfl (.tmp 8) (.tmp 10) 22 22 rfl 99 Try.underlying22 hinf _ _ _ _ _ _ rfl rfl (w.heap.size + 1) 0 _ 99 HROW.out cs HCL.out HPOS.out ?hf H1C.out (w.heap.size + 1) w1 (Below.refl _ _) (Nat.le_refl _) ?_)
  case hf =>
    have h2 := HCL.out
    have h3 : Nat.min n k ≤ k := Nat.min_le_right _ _
    (try simp only [List.length_map, List.length_replicate])
    omega
  intro w2 hrow2 hb2
  have hk2 : w2.heap[w.heap.size]? = some (.cells #[.bool nx, .slice ao n cap] 28 (0, 0)) := (hb2.block _ (by omega)).trans HB.out
  have hb3 : Below w.heap.size w w2 := hb1.trans (hb2.mono (by omega))
  have hm2 : Mine w.heap.size w2 (w.heap.size + 1) (xs.take k ++ List.replicate (k - n) 0) := by
    refine Mine.ofRow ?_ (by omega) ?_
    · have h1 := hrow2.out
      rw [h1]
      congr 3
      have e : (List.replicate k (Value.int .u32 0)).drop (0 + ((xs.take k).map (Value.int .u32)).length) = (List.replicate (k - n) (0 : Int)).map (Value.int .u32) := by
        rw [List.map_replicate, List.drop_replicate, List.length_map, List.length_take, HL.out]
        congr 1
        omega
      rw [HCS.out, splice, List.map_append, e]
      rfl
    · rw [List.length_append, List.length_take, List.length_replicate, HL.out]; unfold maxLen; omega
  have hl2 : Lim (xs.take k ++ List.replicate (k - n) 0) := Lim_append (Lim_take HLX.out k) (Lim_replicate _)
  have hv2 : val (xs.take k ++ List.replicate (k - n) 0) = val xs % 4294967296 ^ k := by rw [← HL.out]; exact val_pad xs HLX.out k
  have hlen2 : (xs.take k ++ List.replicate (k - n) 0).length = k := by rw [List.length_append, List.length_take, List.length_replicate, HL.out]; omega
  obtain ⟨d0, d1, _, _⟩ := blk2 hk2
  generalize xs.take k ++ List.replicate (k - n) 0 = ys at hm2 hl2 hv2 hlen2
  have HM2 := Lib.hid hm2
  have HV2 := Lib.hid hv2
  have HL2 := Lib.hid hlen2
  clear hm2 hv2 hlen2 hrow2 hb2 hk2 c0 c1 HM HROW HB HCL H1C HPOS
  cases nx
  · go_wp2_with fail
    go_ret
    exact ⟨_, ys, rfl, HM2.out, HL2.out, hl2, by rw [HV2.out, HV.out]; rfl, hb3⟩
  · go_wp2_with fail
    have hown := HM2.out
    unfold Mine at hown
    rw [HL2.out] at hown
    refine (negate_any _ w2 _ k k ys hown hl2).mono ?_
    rintro e w3 ⟨zs, rfl, ho3, hl3, hv3, -, hb4⟩
    have HO3 := Lib.hid ho3
    have HV3 := Lib.hid hv3
    clear ho3 hv3 hown
    go_wp2_with fail
    go_ret
    have hzl : zs.length = k := HO3.out.sl.len
    refine ⟨_, zs, rfl, ?_, hzl, hl3, ?_, hb3.trans hb4⟩
    · unfold Mine; rw [hzl]; exact HO3.out
    · rw [HV3.out, HV2.out, HV.out, neg_mod]; simp [sgn]

/-- The number that n words of two's complement are. -/
def sval (n : Nat) (v : Int) : Int := if 4294967296 ^ n ≤ 2 * v then v - 4294967296 ^ n else v

theorem sval_top {zs : List Int} {k : Nat} (lz : Lim zs) (hl : zs.length = k + 1) : 4294967296 ^ (k + 1) ≤ 2 * val zs ↔ 2147483648 ≤ zs.getD k 0 := by
  have h1 := val_take_succ zs k
  rw [List.take_of_length_le (by omega)] at h1
  have h2 := val_lt (Lim_take lz k)
  have h3 := val_nonneg (Lim_take lz k)
  rw [List.length_take, Nat.min_eq_left (by omega)] at h2
  rw [h1, Int.pow_succ]
  generalize zs.getD k 0 = z
  have hp := pow_pos k
  generalize (4294967296 : Int) ^ k = p at *
  constructor
  · intro h
    rcases (show 2147483648 ≤ z ∨ z ≤ 2147483647 by omega) with h4 | h4
    · exact h4
    · have : p * z ≤ p * 2147483647 := Int.mul_le_mul_of_nonneg_left h4 (by omega)
      omega
  · intro h
    have : p * 2147483648 ≤ p * z := Int.mul_le_mul_of_nonneg_left h (by omega)
    omega

/-- An integer was returned; below block B all is as it was. -/
def RetIntB (B : Nat) (w : World) (x : Int) (L : Nat) (e : Ending) (w' : World) : Prop :=
  ∃ neg ao n cap zs, e = .returned (.agg #[.bool neg, .slice ao n cap]) ∧ IntAt w' neg ao n cap zs x ∧ n ≤ L ∧ Below B w w'

set_option maxRecDepth 100000 in
theorem signed_any (B : Nat) (w : World) (ao : Option Addr) (n cap : Nat) (zs : List Int) (h : Own B w ao (n + 1) cap zs) (lz : Lim zs) (hB : B ≤ w.heap.size) :
    Calls Try.prog 102 #[.slice ao (n + 1) cap] w (RetIntB B w (sval (n + 1) (val zs)) (n + 1)) := by
  have hlen := h.sl.len
  obtain ⟨g, rfl, hg, hc, hf⟩ := h.at (j := n) (by omega)
  have hgl : g < w.heap.size := by have := World.block_lt_of_cell? w _ hc; exact this
  have htop := sval_top lz hlen
  have hzn := Lim_getD lz n
  have hmost := h.sl.most
  have hle := h.sl.le
  unfold maxLen at hmost
  have hbw : Below B w (w.alloc (.cells #[.bool false, .slice none 0 0] 28)) := (Below.refl _ _).alloc hB _
  have ho1 : Own B (w.alloc (.cells #[.bool false, .slice none 0 0] 28)) (some ⟨g, 0, none⟩) (n + 1) cap zs := World.ownsRow.alloc h _
  have HO := Lib.hid ho1
  obtain ⟨z, hz⟩ : ∃ z, zs.getD n 0 = z := ⟨_, rfl⟩
  rw [hz] at hc htop hzn
  have HT := Lib.hid htop
  obtain ⟨hz0, hz1⟩ := hzn
  have HL := Lib.hid hlen
  clear h hlen htop hz ho1
  by_cases hneg : 2147483648 ≤ z
  · have hq : z / 2147483648 = 1 := by omega
    have hsv : sval (n + 1) (val zs) = val zs - 4294967296 ^ (n + 1) := by unfold sval; rw [if_pos (HT.out.2 hneg)]
    rw [hsv]
    have hqb : (z / 2147483648 == 1) = true := by rw [hq]; rfl
    have HQ := Lib.hid hq
    clear hq hsv
    go_enter Try.func102, Try.ntmps102
    go_wp2_with fail
    refine (negate_any B _ _ _ _ _ HO.out lz).mono ?_
    rintro e w1 ⟨ys, rfl, ho2, hl2, hv2, hgr, hb1⟩
    have hr1 : w1.heap[w.heap.size]? = some (.cells #[.bool false, .slice none 0 0] 28 (0, 0)) := (hgr.block _ (by simp) (by simp [Value.ownBlock]; omega)).trans (heap_alloc_new w _)
    have hz1' : w.heap.size + 1 ≤ w1.heap.size := by have := hgr.size; simp at this; omega
    have HO2 := Lib.hid ho2
    have HV2 := Lib.hid hv2
    have HR := Lib.hid hr1
    clear ho2 hv2 hr1 hgr
    go_wp2_with fail
    refine (wrap_int w1 true _ _ _ ys HO2.out.sl hl2 rfl).mono ?_
    rintro e w2 ⟨neg', ao', n', cap', zs', rfl, hint, hn', hb3⟩
    have hr2 := (hb3.block _ (by omega)).trans HR.out
    obtain ⟨c0, c1, f0, f1⟩ := blk2 hr2
    have HI := Lib.hid (hint.stored hr2 (.bool neg') (.slice ao' n' cap'))
    clear hint hr2
    have hb4 : Below B w w2 := (hbw.trans hb1).trans (hb3.mono (by omega))
    go_wp2
    refine bodyPost_ret (v := .agg #[.bool neg', .slice ao' n' cap']) (by simp [results, Try.results102, go_sem, c0, c1]) rfl ?_
    have hx : sgn true (val ys) = val zs - 4294967296 ^ (n + 1) := by
      have h1 := val_lt lz
      rw [HL.out] at h1
      have h2 := HT.out.2 hneg
      have h3 := pow_pos (n + 1)
      rw [HV2.out, show - val zs = (4294967296 ^ (n + 1) - val zs) + 4294967296 ^ (n + 1) * (-1) by omega, Int.add_mul_emod_self_left, Int.emod_eq_of_lt (by omega) (by omega)]
      simp [sgn]
      omega
    exact ⟨_, _, _, _, _, rfl, hx ▸ HI.out, hn', (hb4.setCell (p := ⟨w.heap.size, 0, none⟩) hB _).setCell (p := ⟨w.heap.size, 1, none⟩) hB _⟩
  · have hq : z / 2147483648 = 0 := by omega
    have hsv : sval (n + 1) (val zs) = val zs := by unfold sval; rw [if_neg (fun h => hneg (HT.out.1 h))]
    rw [hsv]
    have hqb : (z / 2147483648 == 1) = false := by rw [hq]; rfl
    clear hq hsv
    go_enter Try.func102, Try.ntmps102
    go_wp2_with fail
    refine (wrap_int _ false _ _ _ zs HO.out.sl lz rfl).mono ?_
    rintro e w2 ⟨neg', ao', n', cap', zs', rfl, hint, hn', hb3⟩
    obtain ⟨hz2, hr2, hb2⟩ := left1 hb3
    obtain ⟨c0, c1, f0, f1⟩ := blk2 hr2
    have HI := Lib.hid (hint.stored hr2 (.bool neg') (.slice ao' n' cap'))
    clear hint hr2
    have hb4 : Below B w w2 := hb2.mono hB
    go_wp2
    refine bodyPost_ret (v := .agg #[.bool neg', .slice ao' n' cap']) (by simp [results, Try.results102, go_sem, c0, c1]) rfl ?_
    exact ⟨_, _, _, _, _, rfl, HI.out, hn', (hb4.setCell (p := ⟨w.heap.size, 0, none⟩) hB _).setCell (p := ⟨w.heap.size, 1, none⟩) hB _⟩

/-- The word whose bits are set where those of a are as said. -/
def mat (a : Int) (b : Bool) : Int := if b then a else 4294967295 - a

theorem matching_0 (w : World) (a : Int) (h0 : 0 ≤ a) (h1 : a ≤ 4294967295) : Calls Try.prog 127 #[.int .u32 a, .int .i64 0] w fun e w' => e = .returned (.int .u32 (mat a false)) ∧ w = w' := by
  have hnot := not_u32 a h0 h1
  go_enter Try.func127, Try.ntmps127
  go_wp2
  go_ret
  exact ⟨rfl, rfl⟩

theorem matching_1 (w : World) (a : Int) : Calls Try.prog 127 #[.int .u32 a, .int .i64 1] w fun e w' => e = .returned (.int .u32 (mat a true)) ∧ w = w' := by
  go_enter Try.func127, Try.ntmps127
  go_wp2
  go_ret
  exact ⟨rfl, rfl⟩

/-- The places of the table below p, word by word. -/
def combTo (op : Int) (a b : Int) : Nat → Int
  | 0 => 0
  | p + 1 => if op / 2 ^ p % 2 = 1 then bits .or .u32 (combTo op a b p) (bits .and .u32 (mat a (decide (p / 2 % 2 = 1))) (mat b (decide (p % 2 = 1)))) else combTo op a b p

def comb (op a b : Int) : Int := combTo op a b 4

theorem and1_all : ∀ k : Fin 16, bits .and .i64 (k.val : Int) 1 = (k.val : Int) % 2 := by decide +kernel

theorem and1_i64 (x : Int) (h0 : 0 ≤ x) (h1 : x ≤ 15) : bits BinOp.and IntKind.i64 x 1 = x % 2 := by
  obtain ⟨k, rfl⟩ := Int.eq_ofNat_of_zero_le h0
  exact and1_all ⟨k, by omega⟩

set_option maxRecDepth 100000 in
theorem comb_any (w : World) (a b op : Int) (p : Addr) (hc : w.cell? p = some (.int .i64 op)) (ho0 : 0 ≤ op) (ho1 : op ≤ 15) (ha0 : 0 ≤ a) (ha1 : a ≤ 4294967295) (hb0 : 0 ≤ b) (hb1 : b ≤ 4294967295) :
    Calls Try.prog 126 #[.int .u32 a, .int .u32 b, .pointer (some p)] w fun e w' => e = .returned (.int .u32 (comb op a b)) ∧ w = w' := by
  go_enter Try.func126, Try.ntmps126
  go_wp2_with fail
  go_loop [6, 8] (fun r i => ∃ k : Nat, k ≤ 4 ∧ i = .int .i64 k ∧ r = .int .u32 (combTo op a b k)) (fun _ i => 4 - (intOf i).toNat)
  case atStart => exact ⟨0, by omega, rfl, rfl⟩
  case round =>
    obtain ⟨k, hk, rfl, rfl⟩ := hrel
    rcases (show k = 0 ∨ k = 1 ∨ k = 2 ∨ k = 3 ∨ k = 4 by omega) with rfl | rfl | rfl | rfl | rfl
    · have hb := and1_i64 (op) (by omega) (by omega)
      by_cases hbit : (op) % 2 = 1
      · have hbb : (bits BinOp.and IntKind.i64 (op) 1 == 1) = true := by rw [hb, hbit]; rfl
        have hst : combTo op a b (0 + 1) = bits .or .u32 (combTo op a b 0) (bits .and .u32 (mat a false) (mat b false)) := by
          show (if op / 2 ^ 0 % 2 = 1 then _ else _) = _
          rw [if_pos (by simpa using hbit)]; rfl
        have HST := Lib.hid hst
        clear hst hb hbit
        go_wp2_with fail
        refine (matching_0 w a ha0 ha1).mono ?_
        rintro e w1 ⟨rfl, rfl⟩
        go_wp2_with fail
        refine (matching_0 w b hb0 hb1).mono ?_
        rintro e w1 ⟨rfl, rfl⟩
        go_wp2_with fail
        go_round
        case rel => exact ⟨1, by omega, rfl, by rw [HST.out]⟩
        case measure => simp [intOf]
      · have hbb : (bits BinOp.and IntKind.i64 (op) 1 == 1) = false := by rw [hb]; simpa using hbit
        have hst : combTo op a b (0 + 1) = combTo op a b 0 := by
          show (if op / 2 ^ 0 % 2 = 1 then _ else _) = _
          rw [if_neg (by simpa using hbit)]
        have HST := Lib.hid hst
        clear hst hb hbit
        go_wp2_with fail
        go_round
        case rel => exact ⟨1, by omega, rfl, by rw [HST.out]⟩
        case measure => simp [intOf]
    · have hb := and1_i64 (op / 2) (by omega) (by omega)
      by_cases hbit : (op / 2) % 2 = 1
      · have hbb : (bits BinOp.and IntKind.i64 (op / 2) 1 == 1) = true := by rw [hb, hbit]; rfl
        have hst : combTo op a b (1 + 1) = bits .or .u32 (combTo op a b 1) (bits .and .u32 (mat a false) (mat b true)) := by
          show (if op / 2 ^ 1 % 2 = 1 then _ else _) = _
          rw [if_pos (by simpa using hbit)]; rfl
        have HST := Lib.hid hst
        clear hst hb hbit
        go_wp2_with fail
        refine (matching_0 w a ha0 ha1).mono ?_
        rintro e w1 ⟨rfl, rfl⟩
        go_wp2_with fail
        refine (matching_1 w b).mono ?_
        rintro e w1 ⟨rfl, rfl⟩
        go_wp2_with fail
        go_round
        case rel => exact ⟨2, by omega, rfl, by rw [HST.out]⟩
        case measure => simp [intOf]
      · have hbb : (bits BinOp.and IntKind.i64 (op / 2) 1 == 1) = false := by rw [hb]; simpa using hbit
        have hst : combTo op a b (1 + 1) = combTo op a b 1 := by
          show (if op / 2 ^ 1 % 2 = 1 then _ else _) = _
          rw [if_neg (by simpa using hbit)]
        have HST := Lib.hid hst
        clear hst hb hbit
        go_wp2_with fail
        go_round
        case rel => exact ⟨2, by omega, rfl, by rw [HST.out]⟩
        case measure => simp [intOf]
    · have hb := and1_i64 (op / 4) (by omega) (by omega)
      by_cases hbit : (op / 4) % 2 = 1
      · have hbb : (bits BinOp.and IntKind.i64 (op / 4) 1 == 1) = true := by rw [hb, hbit]; rfl
        have hst : combTo op a b (2 + 1) = bits .or .u32 (combTo op a b 2) (bits .and .u32 (mat a true) (mat b false)) := by
          show (if op / 2 ^ 2 % 2 = 1 then _ else _) = _
          rw [if_pos (by simpa using hbit)]; rfl
        have HST := Lib.hid hst
        clear hst hb hbit
        go_wp2_with fail
        refine (matching_1 w a).mono ?_
        rintro e w1 ⟨rfl, rfl⟩
        go_wp2_with fail
        refine (matching_0 w b hb0 hb1).mono ?_
        rintro e w1 ⟨rfl, rfl⟩
        go_wp2_with fail
        go_round
        case rel => exact ⟨3, by omega, rfl, by rw [HST.out]⟩
        case measure => simp [intOf]
      · have hbb : (bits BinOp.and IntKind.i64 (op / 4) 1 == 1) = false := by rw [hb]; simpa using hbit
        have hst : combTo op a b (2 + 1) = combTo op a b 2 := by
          show (if op / 2 ^ 2 % 2 = 1 then _ else _) = _
          rw [if_neg (by simpa using hbit)]
        have HST := Lib.hid hst
        clear hst hb hbit
        go_wp2_with fail
        go_round
        case rel => exact ⟨3, by omega, rfl, by rw [HST.out]⟩
        case measure => simp [intOf]
    · have hb := and1_i64 (op / 8) (by omega) (by omega)
      by_cases hbit : (op / 8) % 2 = 1
      · have hbb : (bits BinOp.and IntKind.i64 (op / 8) 1 == 1) = true := by rw [hb, hbit]; rfl
        have hst : combTo op a b (3 + 1) = bits .or .u32 (combTo op a b 3) (bits .and .u32 (mat a true) (mat b true)) := by
          show (if op / 2 ^ 3 % 2 = 1 then _ else _) = _
          rw [if_pos (by simpa using hbit)]; rfl
        have HST := Lib.hid hst
        clear hst hb hbit
        go_wp2_with fail
        refine (matching_1 w a).mono ?_
        rintro e w1 ⟨rfl, rfl⟩
        go_wp2_with fail
        refine (matching_1 w b).mono ?_
        rintro e w1 ⟨rfl, rfl⟩
        go_wp2_with fail
        go_round
        case rel => exact ⟨4, by omega, rfl, by rw [HST.out]⟩
        case measure => simp [intOf]
      · have hbb : (bits BinOp.and IntKind.i64 (op / 8) 1 == 1) = false := by rw [hb]; simpa using hbit
        have hst : combTo op a b (3 + 1) = combTo op a b 3 := by
          show (if op / 2 ^ 3 % 2 = 1 then _ else _) = _
          rw [if_neg (by simpa using hbit)]
        have HST := Lib.hid hst
        clear hst hb hbit
        go_wp2_with fail
        go_round
        case rel => exact ⟨4, by omega, rfl, by rw [HST.out]⟩
        case measure => simp [intOf]
    · go_wp2_with fail
      go_ret
      exact ⟨rfl, rfl⟩

theorem bits_range (o : BinOp) (x y : Int) : 0 ≤ bits o .u32 x y ∧ bits o .u32 x y ≤ 4294967295 := by
  unfold bits
  simp only [IntKind.wrap_u32]
  omega

theorem comb_range (op a b : Int) : 0 ≤ comb op a b ∧ comb op a b ≤ 4294967295 := by
  have h : ∀ p, 0 ≤ combTo op a b p ∧ combTo op a b p ≤ 4294967295 := by
    intro p
    induction p with
    | zero => simp [combTo]
    | succ p ih =>
      unfold combTo
      split
      · exact bits_range _ _ _
      · exact ih
  exact h 4

theorem combiner_any (w : World) (op : Int) : Calls Try.prog 100 #[.int .i64 op] w fun e w' => e = .returned (.func (Fn.func 126) #[] #[.pointer (some ⟨w.heap.size, 0, none⟩)]) ∧ w' = w.alloc (.cells #[.int .i64 op] 3) := by
  go_enter Try.func100, Try.ntmps100
  go_wp2
  go_ret
  exact ⟨rfl, rfl⟩

/-- Four new blocks. -/
def FourO (N : Nat) (w : World) (a b c d : Obj) : Prop := w.heap[N]? = some a ∧ w.heap[N + 1]? = some b ∧ w.heap[N + 1 + 1]? = some c ∧ w.heap[N + 1 + 1 + 1]? = some d

theorem FourO.below {N : Nat} {w w' : World} {a b c d : Obj} (h : FourO N w a b c d) (hb : Below w.heap.size w w') (hN : N + 1 + 1 + 1 + 1 ≤ w.heap.size) : FourO N w' a b c d := by
  obtain ⟨h1, h2, h3, h4⟩ := h
  exact ⟨by rw [hb.block _ (by omega)]; exact h1, by rw [hb.block _ (by omega)]; exact h2, by rw [hb.block _ (by omega)]; exact h3, by rw [hb.block _ (by omega)]; exact h4⟩

theorem FourO.made (w : World) (a b c d : Obj) : FourO w.heap.size ((((w.alloc a).alloc b).alloc c).alloc d).drew a b c d := by
  refine ⟨?_, ?_, ?_, ?_⟩
  · show ((((w.alloc a).alloc b).alloc c).alloc d).heap[w.heap.size]? = _
    rw [heap_alloc_old _ _ (by simp; omega), heap_alloc_old _ _ (by simp; omega), heap_alloc_old _ _ (by simp), heap_alloc_new]
  · show ((((w.alloc a).alloc b).alloc c).alloc d).heap[w.heap.size + 1]? = _
    rw [heap_alloc_old _ _ (by simp), heap_alloc_old _ _ (by simp)]; have := heap_alloc_new (w.alloc a) b; simpa using this
  · show ((((w.alloc a).alloc b).alloc c).alloc d).heap[w.heap.size + 1 + 1]? = _
    rw [heap_alloc_old _ _ (by simp)]; exact heap_alloc3 w _ _ _
  · exact heap_alloc4 w _ _ _ _

theorem ent4D (w : World) (a b c d : Obj) : Below w.heap.size w ((((w.alloc a).alloc b).alloc c).alloc d).drew := ((ent3 w a b c).alloc (by simp; omega) _).drew

theorem size4D (w : World) (a b c d : Obj) : w.heap.size + 1 + 1 + 1 + 1 ≤ ((((w.alloc a).alloc b).alloc c).alloc d).drew.heap.size := by
  show _ ≤ ((((w.alloc a).alloc b).alloc c).alloc d).heap.size
  simp

theorem FourO.store {N : Nat} {w : World} {a b c d : Obj} (h : FourO N w a b c d) {g j : Nat} {u : Value} (hg : N + 1 + 1 + 1 + 1 ≤ g) : FourO N (w.setCell ⟨g, j, none⟩ u) a b c d := by
  obtain ⟨h1, h2, h3, h4⟩ := h
  exact ⟨by rw [Below.heap_setCell _ _ _ _ (by dsimp only; omega)]; exact h1, by rw [Below.heap_setCell _ _ _ _ (by dsimp only; omega)]; exact h2, by rw [Below.heap_setCell _ _ _ _ (by dsimp only; omega)]; exact h3, by rw [Below.heap_setCell _ _ _ _ (by dsimp only; omega)]; exact h4⟩

theorem cell_of_one' {w : World} {B : Nat} {v : Value} {t : TypeId} (h : w.heap[B]? = some (.cells #[v] t (0, 0))) : w.cell? ⟨B, 0, none⟩ = some v := by rw [cell_of_row w B 0 _ t (0, 0) h]; rfl

/-- The integer that the words of both make, combined word by word. -/
def RetBoole (w : World) (x y op : Int) (k : Nat) (e : Ending) (w' : World) : Prop :=
  ∃ neg ao n cap zs As Bs, e = .returned (.tuple #[.agg #[.bool neg, .slice ao n cap], .int .i64 0]) ∧ As.length = k ∧ Lim As ∧ val As = x % 4294967296 ^ k ∧ Bs.length = k ∧ Lim Bs ∧ val Bs = y % 4294967296 ^ k ∧
    IntAt w' neg ao n cap zs (sval k (val (List.zipWith (comb op) As Bs))) ∧ n ≤ k ∧ Below w.heap.size w w'

set_option maxRecDepth 100000 in
theorem boole_ge (w : World) (nx ny : Bool) (ao bo : Option Addr) (n m capa capb : Nat) (xs ys : List Int) (x y op : Int) (hx : IntAt w nx ao n capa xs x) (hy : IntAt w ny bo m capb ys y) (ho0 : 0 ≤ op) (ho1 : op ≤ 15) (hlt : ¬ n < m) (hn : n ≤ 4294967296) (hm : m ≤ 4294967296) :
    Calls Try.prog 51 #[.agg #[.bool nx, .slice ao n capa], .int .i64 op, .agg #[.bool ny, .slice bo m capb]] w (RetBoole w x y op (n + 1)) := by
  have HWX : Hid (∀ w1, Below w.heap.size w w1 → Calls Try.prog 101 #[.agg #[.bool nx, .slice ao n capa], .int .i64 ((n + 1 : Nat) : Int)] w1 (RetWords w1 x (n + 1))) :=
    fun w1 hb => words_any w1 nx ao n capa xs x (n + 1) (hx.below hb) (by omega)
  have HWY : Hid (∀ w1, Below w.heap.size w w1 → Calls Try.prog 101 #[.agg #[.bool ny, .slice bo m capb], .int .i64 ((n + 1 : Nat) : Int)] w1 (RetWords w1 y (n + 1))) :=
    fun w1 hb => words_any w1 ny bo m capb ys y (n + 1) (hy.below hb) (by omega)
  have hmx : n ≤ 4294967296 ∧ m ≤ 4294967296 := ⟨hn, hm⟩
  go_enter Try.func51, Try.ntmps51
  go_wp2_with fail
  refine (combiner_any _ op).mono ?_
  rintro e w1 ⟨rfl, rfl⟩
  go_wp2_with fail
  go_region_held3 (fun w' => w'.cell? ⟨w.heap.size, 0, none⟩ = some (.bool nx) ∧ w'.cell? ⟨w.heap.size, 1, none⟩ = some (.slice ao n capa) ∧ w'.cell? ⟨w.heap.size + 1, 0, none⟩ = some (.bool ny) ∧ w'.cell? ⟨w.heap.size + 1, 1, none⟩ = some (.slice bo m capb)) (((try dsimp only); (repeat' apply And.intro) <;> (first | (go_keep; done) | (go_split_ands; rw [hb1.cell (by go_size)]; assumption) | (go_split_ands; rw [hb3.cell (by go_size)]; assumption))))
    (first | (go_at_call_of 101 nx; refine (HWX.out _ ?_).mono ?_; (exact ent4D _ _ _ _ _); rintro e w1 ⟨g1, As, rfl, hm1, hl1, hlim1, hv1, hb1⟩; have hz1 := Nat.le_trans (size4D _ _ _ _ _) hb1.size; have hfo1 := FourO.below (FourO.made _ _ _ _ _) hb1 (size4D _ _ _ _ _); have hbw1 := (ent4D _ _ _ _ _).trans (hb1.mono (Nat.le_trans (by omega) (size4D _ _ _ _ _))); have HF1 := Lib.hid hfo1; have HM1 := Lib.hid hm1; have HL1 := Lib.hid hl1; have HV1 := Lib.hid hv1; clear hfo1 hm1 hl1 hv1) | (go_at_call_of 101 ny; refine (HWY.out _ hbw1).mono ?_; rintro e w2 ⟨g2, Bs, rfl, hm2, hl2, hlim2, hv2, hb3⟩; have HF2 := Lib.hid (FourO.below HF1.out hb3 hz1); have HM2 := Lib.hid hm2; have HL2 := Lib.hid hl2; have HV2 := Lib.hid hv2; clear hm2 hl2 hv2))
  go_wp2_with fail
  have hg1 : w.heap.size + 1 + 1 + 1 + 1 ≤ g1 := Nat.le_trans (size4D _ _ _ _ _) HM1.out.ge
  have hg1' : g1 < w1.heap.size := World.block_lt_of_cell? w1 _ (HM1.out.cell 0 (by rw [HL1.out]; omega)).1
  have hg2 : w1.heap.size ≤ g2 := HM2.out.ge
  have hm1 : Mine w.heap.size w2 g1 As := by
    have := HM1.out.kept hb3
    exact Own.mono this (Nat.le_trans (by omega) (size4D _ _ _ _ _))
  have hm2 : Mine w.heap.size w2 g2 Bs := Own.mono HM2.out (by omega)
  have hbw2 : Below w.heap.size w w2 := hbw1.trans (hb3.mono (Nat.le_trans (by omega) hz1))
  have HM1' := Lib.hid hm1
  have HM2' := Lib.hid hm2
  clear hm1 hm2 hb1 hb3 HF1 HWX HWY
  obtain ⟨cs0, hcs0⟩ : ∃ cs0, cs0 = As := ⟨_, rfl⟩
  go_loopw [38] (fun i wr => ∃ (j : Nat) (cs : List Int), j ≤ n + 1 ∧ i = .int .i64 j ∧ cs.length = n + 1 ∧ Lim cs ∧ (∀ t, cs.getD t 0 = if t < j then comb op (As.getD t 0) (Bs.getD t 0) else As.getD t 0) ∧
      Mine w.heap.size wr g1 cs ∧ Mine w.heap.size wr g2 Bs ∧ FourO w.heap.size wr (.cells #[.bool nx, .slice ao n capa] 28) (.cells #[.bool ny, .slice bo m capb] 28) (.cells #[.bool false, .slice none 0 0] 28) (.cells #[.int .i64 op] 3) ∧ Below w.heap.size w wr)
    (fun i _ => n + 1 - (intOf i).toNat)
  case atStart => exact ⟨0, As, Nat.zero_le _, rfl, HL1.out, hlim1, fun t => by rw [if_neg (by omega)], HM1'.out, HM2'.out, HF2.out, hbw2⟩
  case round =>
    obtain ⟨j, cs, hj, rfl, hcl, hcl2, hall, hmc, hmb, hfo, hbel⟩ := hrel
    have HCL := Lib.hid hcl
    have HALL := Lib.hid hall
    have HMC := Lib.hid hmc
    have HMB := Lib.hid hmb
    have HFO := Lib.hid hfo
    clear hcl hall hmc hmb hfo
    by_cases hjs : j < n + 1
    · obtain ⟨a, ha⟩ : ∃ a, As.getD j 0 = a := ⟨_, rfl⟩
      obtain ⟨b, hb⟩ : ∃ b, Bs.getD j 0 = b := ⟨_, rfl⟩
      have hla := Lim_getD hlim1 j
      have hlb := Lim_getD hlim2 j
      obtain ⟨ca, fa⟩ := HMC.out.cell j (by rw [HCL.out]; exact hjs)
      obtain ⟨cb, _⟩ := HMB.out.cell j (by rw [HL2.out]; exact hjs)
      rw [HALL.out j, if_neg (by omega), ha] at ca
      rw [hb] at cb hlb
      rw [ha] at hla
      have co : wr.cell? ⟨w.heap.size + 1 + 1 + 1, 0, none⟩ = some (.int .i64 op) := cell_of_one' HFO.out.2.2.2
      have HA := Lib.hid ha
      have HB := Lib.hid hb
      clear ha hb
      have hj1 : (j : Int) < n + 1 := by omega
      obtain ⟨ha0, ha1⟩ := hla
      obtain ⟨hb0, hb1⟩ := hlb
      have HC : Hid (Calls Try.prog 126 #[.int .u32 a, .int .u32 b, .pointer (some ⟨w.heap.size + 1 + 1 + 1, 0, none⟩)] { wr with drawn := wr.drawn + 1 } fun e w' => e = .returned (.int .u32 (comb op a b)) ∧ w' = { wr with drawn := wr.drawn + 1 }) :=
        (comb_any { wr with drawn := wr.drawn + 1 } a b op _ co ho0 ho1 ha0 ha1 hb0 hb1).mono fun _ _ h => ⟨h.1, h.2.symm⟩
      go_wp2_with fail
      go_still_tail 12, (by kernel_rfl)
      still_call HC.out
      repeat still_step
      refine wpStill_nil ?_
      change wpList _ _ _ _ _ wr.drew
      have hcr := comb_range op a b
      obtain ⟨cab, hcab⟩ : ∃ cab, comb op a b = cab := ⟨_, rfl⟩
      rw [hcab] at hcr ⊢
      have HCAB := Lib.hid hcab
      clear hcab
      go_wp2_with fail
      go_roundw
      case rel =>
        have hmc2 : Mine w.heap.size (wr.setCell ⟨g1, j, none⟩ (.int .u32 cab)) g1 (cs.set j cab) := HMC.out.set j cab
        have hb2 : (wr.setCell ⟨g1, j, none⟩ (.int .u32 cab)).heap[g2]? = wr.heap[g2]? := Below.heap_setCell _ _ _ _ (by dsimp only; omega)
        have hmb2 : Mine w.heap.size (wr.setCell ⟨g1, j, none⟩ (.int .u32 cab)) g2 Bs := Mine.ofRow (hb2.trans HMB.out.row) (by omega) (by rw [HL2.out]; unfold maxLen; omega)
        have hfo2 := FourO.store HFO.out (g := g1) (j := j) (u := .int .u32 cab) hg1
        have hcl := HCL.out
        refine ⟨j + 1, cs.set j cab, by omega, by go_num, by rw [List.length_set]; exact hcl, Lim_set hcl2 j hcr.1 hcr.2, ?_, hmc2, hmb2, hfo2, (hbel.setCell (p := ⟨g1, j, none⟩) (by dsimp only; omega) _).drew⟩
        intro t
        by_cases ht : t = j
        · subst ht
          rw [getD_set_eq (by omega), if_pos (by omega), HA.out, HB.out, HCAB.out]
        · rw [getD_set_ne (by omega), HALL.out t]
          by_cases h2 : t < j
          · rw [if_pos h2, if_pos (by omega)]
          · rw [if_neg h2, if_neg (by omega)]
      case measure => simp [intOf]; omega
    · obtain rfl : j = n + 1 := by omega
      have hmc3 : Mine (w.heap.size + 1 + 1 + 1 + 1) wr g1 cs := Mine.ofRow HMC.out.row hg1 (by rw [HCL.out]; unfold maxLen; omega)
      have hgw : g1 < wr.heap.size := World.block_lt_of_cell? wr _ (HMC.out.cell 0 (by rw [HCL.out]; omega)).1
      unfold Mine at hmc3
      rw [HCL.out] at hmc3
      have hcs : cs = List.zipWith (comb op) As Bs := by
        have h1 := HCL.out
        have h2 := HL1.out
        have h3 := HL2.out
        apply List.ext_getElem
        · rw [List.length_zipWith]; omega
        · intro t ht1 ht2
          have h4 := HALL.out t
          rw [getD_lt ht1, if_pos (by omega), getD_lt (by omega), getD_lt (by omega)] at h4
          rw [h4, List.getElem_zipWith]
      have HCS := Lib.hid hcs
      have HM3 := Lib.hid hmc3
      clear hcs hmc3
      have hbs := hbel.size
      go_wp2_with fail
      refine (signed_any (w.heap.size + 1 + 1 + 1 + 1) wr _ _ _ cs HM3.out hcl2 (by omega)).mono ?_
      rintro e w5 ⟨neg', ao', n', cap', zs', rfl, hint, hn', hb5⟩
      have hr5 : w5.heap[w.heap.size + 1 + 1]? = some (.cells #[.bool false, .slice none 0 0] 28 (0, 0)) := (hb5.block _ (by omega)).trans HFO.out.2.2.1
      obtain ⟨c0, c1, f0, f1⟩ := blk2 hr5
      have HI := Lib.hid (hint.stored hr5 (.bool neg') (.slice ao' n' cap'))
      have hb6 : Below w.heap.size w w5 := hbel.trans (hb5.mono (by omega))
      clear hint hr5
      go_wp2
      refine bodyPost_ret (v := .tuple #[.agg #[.bool neg', .slice ao' n' cap'], .int .i64 0]) (by simp [results, Try.results51, go_sem, c0, c1]) rfl ?_
      exact ⟨neg', ao', n', cap', zs', As, Bs, rfl, HL1.out, hlim1, HV1.out, HL2.out, hlim2, HV2.out, HCS.out ▸ HI.out, hn', (hb6.setCell (p := ⟨w.heap.size + 1 + 1, 0, none⟩) (by dsimp only; omega) _).setCell (p := ⟨w.heap.size + 1 + 1, 1, none⟩) (by dsimp only; omega) _⟩

set_option maxRecDepth 100000 in
theorem boole_lt (w : World) (nx ny : Bool) (ao bo : Option Addr) (n m capa capb : Nat) (xs ys : List Int) (x y op : Int) (hx : IntAt w nx ao n capa xs x) (hy : IntAt w ny bo m capb ys y) (ho0 : 0 ≤ op) (ho1 : op ≤ 15) (hlt : n < m) (hn : n ≤ 4294967296) (hm : m ≤ 4294967296) :
    Calls Try.prog 51 #[.agg #[.bool nx, .slice ao n capa], .int .i64 op, .agg #[.bool ny, .slice bo m capb]] w (RetBoole w x y op (m + 1)) := by
  have HWX : Hid (∀ w1, Below w.heap.size w w1 → Calls Try.prog 101 #[.agg #[.bool nx, .slice ao n capa], .int .i64 ((m + 1 : Nat) : Int)] w1 (RetWords w1 x (m + 1))) :=
    fun w1 hb => words_any w1 nx ao n capa xs x (m + 1) (hx.below hb) (by omega)
  have HWY : Hid (∀ w1, Below w.heap.size w w1 → Calls Try.prog 101 #[.agg #[.bool ny, .slice bo m capb], .int .i64 ((m + 1 : Nat) : Int)] w1 (RetWords w1 y (m + 1))) :=
    fun w1 hb => words_any w1 ny bo m capb ys y (m + 1) (hy.below hb) (by omega)
  have hmx : n ≤ 4294967296 ∧ m ≤ 4294967296 := ⟨hn, hm⟩
  go_enter Try.func51, Try.ntmps51
  go_wp2_with fail
  refine (combiner_any _ op).mono ?_
  rintro e w1 ⟨rfl, rfl⟩
  go_wp2_with fail
  go_region_held3 (fun w' => w'.cell? ⟨w.heap.size, 0, none⟩ = some (.bool nx) ∧ w'.cell? ⟨w.heap.size, 1, none⟩ = some (.slice ao n capa) ∧ w'.cell? ⟨w.heap.size + 1, 0, none⟩ = some (.bool ny) ∧ w'.cell? ⟨w.heap.size + 1, 1, none⟩ = some (.slice bo m capb)) (((try dsimp only); (repeat' apply And.intro) <;> (first | (go_keep; done) | (go_split_ands; rw [hb1.cell (by go_size)]; assumption) | (go_split_ands; rw [hb3.cell (by go_size)]; assumption))))
    (first | (go_at_call_of 101 nx; refine (HWX.out _ ?_).mono ?_; (exact ent4D _ _ _ _ _); rintro e w1 ⟨g1, As, rfl, hm1, hl1, hlim1, hv1, hb1⟩; have hz1 := Nat.le_trans (size4D _ _ _ _ _) hb1.size; have hfo1 := FourO.below (FourO.made _ _ _ _ _) hb1 (size4D _ _ _ _ _); have hbw1 := (ent4D _ _ _ _ _).trans (hb1.mono (Nat.le_trans (by omega) (size4D _ _ _ _ _))); have HF1 := Lib.hid hfo1; have HM1 := Lib.hid hm1; have HL1 := Lib.hid hl1; have HV1 := Lib.hid hv1; clear hfo1 hm1 hl1 hv1) | (go_at_call_of 101 ny; refine (HWY.out _ hbw1).mono ?_; rintro e w2 ⟨g2, Bs, rfl, hm2, hl2, hlim2, hv2, hb3⟩; have HF2 := Lib.hid (FourO.below HF1.out hb3 hz1); have HM2 := Lib.hid hm2; have HL2 := Lib.hid hl2; have HV2 := Lib.hid hv2; clear hm2 hl2 hv2))
  go_wp2_with fail
  have hg1 : w.heap.size + 1 + 1 + 1 + 1 ≤ g1 := Nat.le_trans (size4D _ _ _ _ _) HM1.out.ge
  have hg1' : g1 < w1.heap.size := World.block_lt_of_cell? w1 _ (HM1.out.cell 0 (by rw [HL1.out]; omega)).1
  have hg2 : w1.heap.size ≤ g2 := HM2.out.ge
  have hm1 : Mine w.heap.size w2 g1 As := by
    have := HM1.out.kept hb3
    exact Own.mono this (Nat.le_trans (by omega) (size4D _ _ _ _ _))
  have hm2 : Mine w.heap.size w2 g2 Bs := Own.mono HM2.out (by omega)
  have hbw2 : Below w.heap.size w w2 := hbw1.trans (hb3.mono (Nat.le_trans (by omega) hz1))
  have HM1' := Lib.hid hm1
  have HM2' := Lib.hid hm2
  clear hm1 hm2 hb1 hb3 HF1 HWX HWY
  obtain ⟨cs0, hcs0⟩ : ∃ cs0, cs0 = As := ⟨_, rfl⟩
  go_loopw [38] (fun i wr => ∃ (j : Nat) (cs : List Int), j ≤ m + 1 ∧ i = .int .i64 j ∧ cs.length = m + 1 ∧ Lim cs ∧ (∀ t, cs.getD t 0 = if t < j then comb op (As.getD t 0) (Bs.getD t 0) else As.getD t 0) ∧
      Mine w.heap.size wr g1 cs ∧ Mine w.heap.size wr g2 Bs ∧ FourO w.heap.size wr (.cells #[.bool nx, .slice ao n capa] 28) (.cells #[.bool ny, .slice bo m capb] 28) (.cells #[.bool false, .slice none 0 0] 28) (.cells #[.int .i64 op] 3) ∧ Below w.heap.size w wr)
    (fun i _ => m + 1 - (intOf i).toNat)
  case atStart => exact ⟨0, As, Nat.zero_le _, rfl, HL1.out, hlim1, fun t => by rw [if_neg (by omega)], HM1'.out, HM2'.out, HF2.out, hbw2⟩
  case round =>
    obtain ⟨j, cs, hj, rfl, hcl, hcl2, hall, hmc, hmb, hfo, hbel⟩ := hrel
    have HCL := Lib.hid hcl
    have HALL := Lib.hid hall
    have HMC := Lib.hid hmc
    have HMB := Lib.hid hmb
    have HFO := Lib.hid hfo
    clear hcl hall hmc hmb hfo
    by_cases hjs : j < m + 1
    · obtain ⟨a, ha⟩ : ∃ a, As.getD j 0 = a := ⟨_, rfl⟩
      obtain ⟨b, hb⟩ : ∃ b, Bs.getD j 0 = b := ⟨_, rfl⟩
      have hla := Lim_getD hlim1 j
      have hlb := Lim_getD hlim2 j
      obtain ⟨ca, fa⟩ := HMC.out.cell j (by rw [HCL.out]; exact hjs)
      obtain ⟨cb, _⟩ := HMB.out.cell j (by rw [HL2.out]; exact hjs)
      rw [HALL.out j, if_neg (by omega), ha] at ca
      rw [hb] at cb hlb
      rw [ha] at hla
      have co : wr.cell? ⟨w.heap.size + 1 + 1 + 1, 0, none⟩ = some (.int .i64 op) := cell_of_one' HFO.out.2.2.2
      have HA := Lib.hid ha
      have HB := Lib.hid hb
      clear ha hb
      have hj1 : (j : Int) < m + 1 := by omega
      obtain ⟨ha0, ha1⟩ := hla
      obtain ⟨hb0, hb1⟩ := hlb
      have HC : Hid (Calls Try.prog 126 #[.int .u32 a, .int .u32 b, .pointer (some ⟨w.heap.size + 1 + 1 + 1, 0, none⟩)] { wr with drawn := wr.drawn + 1 } fun e w' => e = .returned (.int .u32 (comb op a b)) ∧ w' = { wr with drawn := wr.drawn + 1 }) :=
        (comb_any { wr with drawn := wr.drawn + 1 } a b op _ co ho0 ho1 ha0 ha1 hb0 hb1).mono fun _ _ h => ⟨h.1, h.2.symm⟩
      go_wp2_with fail
      go_still_tail 12, (by kernel_rfl)
      still_call HC.out
      repeat still_step
      refine wpStill_nil ?_
      change wpList _ _ _ _ _ wr.drew
      have hcr := comb_range op a b
      obtain ⟨cab, hcab⟩ : ∃ cab, comb op a b = cab := ⟨_, rfl⟩
      rw [hcab] at hcr ⊢
      have HCAB := Lib.hid hcab
      clear hcab
      go_wp2_with fail
      go_roundw
      case rel =>
        have hmc2 : Mine w.heap.size (wr.setCell ⟨g1, j, none⟩ (.int .u32 cab)) g1 (cs.set j cab) := HMC.out.set j cab
        have hb2 : (wr.setCell ⟨g1, j, none⟩ (.int .u32 cab)).heap[g2]? = wr.heap[g2]? := Below.heap_setCell _ _ _ _ (by dsimp only; omega)
        have hmb2 : Mine w.heap.size (wr.setCell ⟨g1, j, none⟩ (.int .u32 cab)) g2 Bs := Mine.ofRow (hb2.trans HMB.out.row) (by omega) (by rw [HL2.out]; unfold maxLen; omega)
        have hfo2 := FourO.store HFO.out (g := g1) (j := j) (u := .int .u32 cab) hg1
        have hcl := HCL.out
        refine ⟨j + 1, cs.set j cab, by omega, by go_num, by rw [List.length_set]; exact hcl, Lim_set hcl2 j hcr.1 hcr.2, ?_, hmc2, hmb2, hfo2, (hbel.setCell (p := ⟨g1, j, none⟩) (by dsimp only; omega) _).drew⟩
        intro t
        by_cases ht : t = j
        · subst ht
          rw [getD_set_eq (by omega), if_pos (by omega), HA.out, HB.out, HCAB.out]
        · rw [getD_set_ne (by omega), HALL.out t]
          by_cases h2 : t < j
          · rw [if_pos h2, if_pos (by omega)]
          · rw [if_neg h2, if_neg (by omega)]
      case measure => simp [intOf]; omega
    · obtain rfl : j = m + 1 := by omega
      have hmc3 : Mine (w.heap.size + 1 + 1 + 1 + 1) wr g1 cs := Mine.ofRow HMC.out.row hg1 (by rw [HCL.out]; unfold maxLen; omega)
      have hgw : g1 < wr.heap.size := World.block_lt_of_cell? wr _ (HMC.out.cell 0 (by rw [HCL.out]; omega)).1
      unfold Mine at hmc3
      rw [HCL.out] at hmc3
      have hcs : cs = List.zipWith (comb op) As Bs := by
        have h1 := HCL.out
        have h2 := HL1.out
        have h3 := HL2.out
        apply List.ext_getElem
        · rw [List.length_zipWith]; omega
        · intro t ht1 ht2
          have h4 := HALL.out t
          rw [getD_lt ht1, if_pos (by omega), getD_lt (by omega), getD_lt (by omega)] at h4
          rw [h4, List.getElem_zipWith]
      have HCS := Lib.hid hcs
      have HM3 := Lib.hid hmc3
      clear hcs hmc3
      have hbs := hbel.size
      go_wp2_with fail
      refine (signed_any (w.heap.size + 1 + 1 + 1 + 1) wr _ _ _ cs HM3.out hcl2 (by omega)).mono ?_
      rintro e w5 ⟨neg', ao', n', cap', zs', rfl, hint, hn', hb5⟩
      have hr5 : w5.heap[w.heap.size + 1 + 1]? = some (.cells #[.bool false, .slice none 0 0] 28 (0, 0)) := (hb5.block _ (by omega)).trans HFO.out.2.2.1
      obtain ⟨c0, c1, f0, f1⟩ := blk2 hr5
      have HI := Lib.hid (hint.stored hr5 (.bool neg') (.slice ao' n' cap'))
      have hb6 : Below w.heap.size w w5 := hbel.trans (hb5.mono (by omega))
      clear hint hr5
      go_wp2
      refine bodyPost_ret (v := .tuple #[.agg #[.bool neg', .slice ao' n' cap'], .int .i64 0]) (by simp [results, Try.results51, go_sem, c0, c1]) rfl ?_
      exact ⟨neg', ao', n', cap', zs', As, Bs, rfl, HL1.out, hlim1, HV1.out, HL2.out, hlim2, HV2.out, HCS.out ▸ HI.out, hn', (hb6.setCell (p := ⟨w.heap.size + 1 + 1, 0, none⟩) (by dsimp only; omega) _).setCell (p := ⟨w.heap.size + 1 + 1, 1, none⟩) (by dsimp only; omega) _⟩

theorem boole_any (w : World) (nx ny : Bool) (ao bo : Option Addr) (n m capa capb : Nat) (xs ys : List Int) (x y op : Int) (hx : IntAt w nx ao n capa xs x) (hy : IntAt w ny bo m capb ys y) (ho0 : 0 ≤ op) (ho1 : op ≤ 15) (hn : n ≤ 4294967296) (hm : m ≤ 4294967296) :
    Calls Try.prog 51 #[.agg #[.bool nx, .slice ao n capa], .int .i64 op, .agg #[.bool ny, .slice bo m capb]] w (RetBoole w x y op (max n m + 1)) := by
  by_cases h : n < m
  · rw [Nat.max_eq_right (by omega)]
    exact boole_lt w nx ny ao bo n m capa capb xs ys x y op hx hy ho0 ho1 h hn hm
  · rw [Nat.max_eq_left (by omega)]
    exact boole_ge w nx ny ao bo n m capa capb xs ys x y op hx hy ho0 ho1 h hn hm
end Go.Proofs.Ytkifebmlojdjnaa
