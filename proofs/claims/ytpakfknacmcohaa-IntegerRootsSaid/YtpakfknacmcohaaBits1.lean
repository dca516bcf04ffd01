/- Contracts of negate, words, signed: two's complement in words. -/
import Derived.Test.YtpakfknacmcohaaNat5
import Derived.Laws.CopyOwn
import Derived.Laws.BitsAllLaws
namespace Go.Proofs.Ytpakfknacmcohaa
open Go.RowKit
set_option autoImplicit false
set_option linter.unusedVariables false

theorem neg_step {ys a : List Int} {k : Nat} {c x : Int} (hk : k < ys.length) (hx : a.getD k 0 = x) (h0 : ys.getD k 0 = x) (h : val (ys.take k) + 4294967296 ^ k * c = 4294967296 ^ k - val (a.take k)) :
    val ((ys.set k ((4294967295 - x + c) % 4294967296)).take (k + 1)) + 4294967296 ^ (k + 1) * ((4294967295 - x + c) / 4294967296) = 4294967296 ^ (k + 1) - val (a.take (k + 1)) := by
  rw [val_take_succ, val_take_succ, hx, Int.pow_succ, getD_set_eq hk, List.take_set_of_le (by omega)]
  have := Int.emod_add_mul_ediv (4294967295 - x + c) 4294967296
  grind

theorem xor_ones (n : Nat) (h : n < 4294967296) : 4294967295 ^^^ n = 4294967295 - n := by
  have h1 := congrArg BitVec.toNat (BitVec.allOnes_xor (x := BitVec.ofNat 32 n))
  simp only [BitVec.toNat_xor, BitVec.toNat_allOnes, BitVec.toNat_ofNat, BitVec.toNat_not] at h1
  rw [Nat.mod_eq_of_lt (by omega)] at h1
  simpa using h1

theorem not_u32 (x : Int) (h0 : 0 ≤ x) (h1 : x ≤ 4294967295) : bits BinOp.xor IntKind.u32 (if IntKind.u32.signed = true then -1 else IntKind.u32.max) x = 4294967295 - x := by
  obtain ⟨n, rfl⟩ := Int.eq_ofNat_of_zero_le h0
  have e : (if IntKind.u32.signed = true then -1 else IntKind.u32.max) = ((4294967295 : Nat) : Int) := by decide
  rw [e, u32_xor_nat _ _ (by decide) (by omega), xor_ones n (by omega)]
  omega

set_option maxRecDepth 100000 in
theorem negate_any (B : Nat) (w : World) (ao : Option Addr) (n cap : Nat) (xs : List Int) (h : Own B w ao n cap xs) (lx : Lim xs) :
    Calls Try.prog 128 #[.slice ao n cap] w fun e w' => ∃ zs, e = .returned (.tuple #[]) ∧ Own B w' ao n cap zs ∧ Lim zs ∧ val zs = (- val xs) % 4294967296 ^ n ∧ w.grownBy w' (Value.slice ao n cap).ownBlock ∧ Below B w w' := by
  have HL := Lib.hid h.sl.len
  have hmost := h.sl.most
  have hle := h.sl.le
  unfold maxLen at hmost
  have H := Lib.hid h
  clear h
  go_enter Try.func128, Try.ntmps128
  go_wp2_with fail
  go_loopw [2, 7] (fun c i wr => ∃ (k : Nat) (cy : Int) (zs : List Int), k ≤ n ∧ i = .int .i64 k ∧ c = .int .u64 cy ∧ 0 ≤ cy ∧ cy ≤ 1 ∧ zs.length = n ∧ Lim zs ∧ (∀ j, k ≤ j → zs.getD j 0 = xs.getD j 0) ∧
      val (zs.take k) + 4294967296 ^ k * cy = 4294967296 ^ k - val (xs.take k) ∧ Own B wr ao n cap zs ∧ w.grownBy wr (Value.slice ao n cap).ownBlock ∧ Below B w wr) (fun _ i _ => n - (intOf i).toNat)
  case atStart => exact ⟨0, 1, xs, Nat.zero_le _, rfl, rfl, by omega, by omega, HL.out, lx, fun _ _ => rfl, by simp [val], H.out, World.grownBy.refl _ _, Below.refl _ _⟩
  case round =>
    obtain ⟨k, cy, zs, hk, rfl, rfl, hc0, hc1, hzl, hlim, hsame, hval, hown, hgr, hbel⟩ := hrel
    have HO := Lib.hid hown
    have HS := Lib.hid hsame
    have HV := Lib.hid hval
    have HZ := Lib.hid hzl
    have HG := Lib.hid hgr
    clear hown hsame hval hzl hgr
    by_cases hkn : k < n
    · obtain ⟨g, rfl, hB, hc, hf⟩ := HO.out.at (j := k) hkn
      obtain ⟨x, hx⟩ : ∃ x, xs.getD k 0 = x := ⟨_, rfl⟩
      rw [HS.out k (Nat.le_refl _), hx] at hc
      have hlx := Lim_getD lx k
      rw [hx] at hlx
      obtain ⟨hx0, hx1⟩ := hlx
      have HX := Lib.hid hx
      clear hx
      have hk2 : (k : Int) < n := by omega
      have hnot := not_u32 x hx0 hx1
      have hk1 : (4294967295 - x + cy) % 4294967296 ≤ 4294967295 := by omega
      go_wp2_with fail
      go_roundw
      case rel =>
        have hzl := HZ.out
        have hst := neg_step (ys := zs) (a := xs) (k := k) (c := cy) (x := x) (by omega) HX.out ((HS.out k (Nat.le_refl _)).trans HX.out) HV.out
        exact ⟨k + 1, (4294967295 - x + cy) / 4294967296, zs.set k ((4294967295 - x + cy) % 4294967296), by omega, by go_num, rfl, by omega, by omega, by rw [List.length_set]; exact hzl, Lim_set hlim k (by omega) (by omega),
          fun j hj => by rw [getD_set_ne (by omega)]; exact HS.out j (by omega), hst, HO.out.set k _, grownBy.setRow HG.out k _, hbel.setCell hB _⟩
      case measure => simp [intOf]; omega
    · obtain rfl : k = n := by omega
      have hv : val zs = (- val xs) % 4294967296 ^ k := by
        have hv := HV.out
        have e1 := HZ.out
        have e2 := HL.out
        rw [List.take_of_length_le (by omega), List.take_of_length_le (by omega)] at hv
        have hz1 := val_lt hlim
        have hz0 := val_nonneg hlim
        have hx1 := val_lt lx
        have hx0 := val_nonneg lx
        rw [e1] at hz1
        rw [e2] at hx1
        rcases (show cy = 0 ∨ cy = 1 by omega) with rfl | rfl
        · have : - val xs = val zs + 4294967296 ^ k * (-1) := by omega
          rw [this, Int.add_mul_emod_self_left, Int.emod_eq_of_lt hz0 hz1]
        · have hz : val zs = 0 := by omega
          have hx : val xs = 0 := by omega
          rw [hz, hx]; simp
      have HVV := Lib.hid hv
      clear hv
      go_wp2_with fail
      go_end0
      exact ⟨zs, rfl, HO.out, hlim, HVV.out, HG.out, hbel⟩

theorem neg_mod (a m : Int) : (-(a % m)) % m = (-a) % m := by
  have h := Int.emod_add_mul_ediv a m
  have e : -a = -(a % m) + m * (-(a / m)) := by grind
  rw [e, Int.add_mul_emod_self_left]

theorem Mine.row {B : Nat} {w : World} {g : Nat} {ys : List Int} (h : Mine B w g ys) : w.heap[g]? = some (.cells (ys.map (Value.int .u32)).toArray 99 (0, 0)) := by
  rcases h.2 with ⟨hv, hn⟩ | ⟨g', c, cur, hv, hb, hg, hnc, hcm, hcs, htake⟩
  · cases hv
  · simp only [Value.slice.injEq, Option.some.injEq, Addr.mk.injEq, and_true, true_and] at hv
    obtain ⟨rfl, rfl⟩ := hv
    rw [List.take_of_length_le (by simp; omega)] at htake
    rw [hg, ← htake]
theorem Mine.ofRow {B : Nat} {w : World} {g : Nat} {ys : List Int} (h : w.heap[g]? = some (.cells (ys.map (Value.int .u32)).toArray 99 (0, 0))) (hB : B ≤ g) (hm : ys.length ≤ maxLen) : Mine B w g ys :=
  ⟨by simp, .inr ⟨g, ys.length, _, rfl, hB, h, Nat.le_refl _, hm, by simp, by rw [List.take_of_length_le (by simp)]⟩⟩

theorem val_pad (xs : List Int) (lx : Lim xs) (k : Nat) : val (xs.take k ++ List.replicate (k - xs.length) 0) = val xs % 4294967296 ^ k := by
  rw [val_append, val_replicate]
  by_cases h : k ≤ xs.length
  · have h1 := val_split xs k
    rw [List.length_take, Nat.min_eq_left h] at h1
    have h2 := val_lt (Lim_take lx k)
    have h3 := val_nonneg (Lim_take lx k)
    rw [List.length_take, Nat.min_eq_left h] at h2
    rw [h1, Int.add_mul_emod_self_left, Int.emod_eq_of_lt h3 h2]
    omega
  · rw [List.take_of_length_le (by omega)]
    have h2 := val_lt lx
    have h3 := val_nonneg lx
    have h4 := pow_le (show xs.length ≤ k by omega)
    rw [Int.emod_eq_of_lt h3 (by omega)]
    omega

/-- Words of two's complement were returned. -/
def RetWords (w : World) (x : Int) (k : Nat) (e : Ending) (w' : World) : Prop :=
  ∃ g zs, e = .returned (.slice (some ⟨g, 0, none⟩) k k) ∧ Mine w.heap.size w' g zs ∧ zs.length = k ∧ Lim zs ∧ val zs = x % 4294967296 ^ k ∧ Below w.heap.size w w'

set_option maxRecDepth 100000 in
theorem words_any (w : World) (nx : Bool) (ao : Option Addr) (n cap : Nat) (xs : List Int) (x : Int) (k : Nat) (hx : IntAt w nx ao n cap xs x) (hk : k ≤ 34359738368) :
    Calls Try.prog 101 #[.agg #[.bool nx, .slice ao n cap], .int .i64 k] w (RetWords w x k) := by
  have HL := Lib.hid hx.sl.len
  have HCX := Lib.hid hx.sl.cells
  have HLX := Lib.hid hx.lim
  have HV := Lib.hid hx.val
  have hmost := hx.sl.most
  have hle := hx.sl.le
  unfold maxLen at hmost
  obtain ⟨i0, hi, hz0, hz1, hz2⟩ := info_parts info_u32
  have hinf : (Try.prog.info? 99).map (·.size) = some 1 := by rw [hi]; simp [hz1]
  clear hx
  go_enter Try.func101, Try.ntmps101
  go_wp2_with (at_make; refine wpList_make_full _ rfl _ _ 22 rfl w.heap.size 99 i0 (.int .u32 0) 1 Try.underlying22 hi hz0 hz1 _ _ _ _ k rfl rfl (by omega) (by omega) (by rw [hz2]; omega) (by unfold maxLen; omega) (by simp) ?_)
  intro w1 hown hgrow
  have hm1 := made_mine (n := k) (by simpa using hown)
  have hb1 : Below w.heap.size w w1 := Below.grown ((Below.refl _ _).alloc (Nat.le_refl _) _) hgrow (by simp) (by intro g hg; cases hg)
  have hk0 : w1.heap[w.heap.size]? = some (.cells #[.bool nx, .slice ao n cap] 28 (0, 0)) := (hgrow.block _ (by simp) (by simp)).trans (heap_alloc_new w _)
  obtain ⟨c0, c1, _, _⟩ := blk2 hk0
  have hrow := hm1.row
  have hge := hm1.ge
  have hsz1 := hgrow.size
  simp at hsz1
  have HM := Lib.hid hm1
  have HROW := Lib.hid hrow
  have HB := Lib.hid hk0
  clear hown hgrow hm1 hrow hk0
  obtain ⟨cs, hcs⟩ : ∃ cs, cs = (xs.take k).map (Value.int .u32) := ⟨_, rfl⟩
  have HCS := Lib.hid hcs
  have hcl : cs.length = Nat.min n k := by rw [hcs, List.length_map, List.length_take, HL.out]; exact Nat.min_comm _ _
  have h1c : ∀ v ∈ cs, v.oneCell' = true := by rw [hcs]; exact ints_oneCell _ _
  have hpos : 0 < cs.length → (some (⟨w.heap.size + 1, 0, none⟩ : Addr)) = some ⟨w.heap.size + 1, 0, none⟩ ∧ ∃ ad, ao = some ad ∧ ∀ j v, cs[j]? = some v → w1.cell? (ad.add j) = some v := by
    intro hp
    refine ⟨rfl, ?_⟩
    rcases HCX.out.below hb1 with h | ⟨b, o, h1, h2⟩
    · rw [hcs, h] at hp; simp at hp
    · refine ⟨_, h1, fun j v hj => ?_⟩
      rw [hcs, List.getElem?_map] at hj
      obtain ⟨z, hz, rfl⟩ := Option.map_eq_some_iff.1 hj
      rw [List.getElem?_take] at hz
      split at hz
      · obtain ⟨hjl, rfl⟩ := List.getElem?_eq_some_iff.1 hz
        have := h2 j hjl
        rw [getD_lt hjl] at this
        rw [Addr.add_lit]
        exact this
      · cases hz
  have HCL := Lib.hid hcl
  have H1C := Lib.hid h1c
  have HPOS := Lib.hid hpos
  clear hcs hcl h1c hpos
  go_wp2_with (with_reducible refine wpList_copy_splice (o := ⟨some 11, _, _, _, _, _⟩) rfl (.tmp 8) (.tmp 10) 22 22 rfl 99 Try.underlying22 hinf _ _ _ _ _ _ rfl rfl (w.heap.size + 1) 0 _ 99 HROW.out cs HCL.out HPOS.out ?hf H1C.out (w.heap.size + 1) w1 (Below.refl _ _) (Nat.le_refl _) ?_)
  case hf =>
    have h2 := HCL.out
    have h3 : Nat.min n k ≤ k := Nat.min_le_right _ _
    (try simp only [List.length_map, List.length_replicate])
    omega
  intro w2 hrow2 hb2
  have hk2 : w2.heap[w.heap.size]? = some (.cells #[.bool nx, .slice ao n cap] 28 (0, 0)) := (hb2.block _ (by omega)).trans HB.out
  have hb3 : Below w.heap.size w w2 := hb1.trans (hb2.mono (by omega))
  have hm2 : Mine w.heap.size w2 (w.heap.size + 1) (xs.take k ++ List.replicate (k - n) 0) := by
    refine Mine.ofRow ?_ (by omega) ?_
    · have h1 := hrow2.out
      rw [h1]
      congr 3
      have e : (List.replicate k (Value.int .u32 0)).drop (0 + ((xs.take k).map (Value.int .u32)).length) = (List.replicate (k - n) (0 : Int)).map (Value.int .u32) := by
        rw [List.map_replicate, List.drop_replicate, List.length_map, List.length_take, HL.out]
        congr 1
        omega
      rw [HCS.out, splice, List.map_append, e]
      rfl
    · rw [List.length_append, List.length_take, List.length_replicate, HL.out]; unfold maxLen; omega
  have hl2 : Lim (xs.take k ++ List.replicate (k - n) 0) := Lim_append (Lim_take HLX.out k) (Lim_replicate _)
  have hv2 : val (xs.take k ++ List.replicate (k - n) 0) = val xs % 4294967296 ^ k := by rw [← HL.out]; exact val_pad xs HLX.out k
  have hlen2 : (xs.take k ++ List.replicate (k - n) 0).length = k := by rw [List.length_append, List.length_take, List.length_replicate, HL.out]; omega
  obtain ⟨d0, d1, _, _⟩ := blk2 hk2
  generalize xs.take k ++ List.replicate (k - n) 0 = ys at hm2 hl2 hv2 hlen2
  have HM2 := Lib.hid hm2
  have HV2 := Lib.hid hv2
  have HL2 := Lib.hid hlen2
  clear hm2 hv2 hlen2 hrow2 hb2 hk2 c0 c1 HM HROW HB HCL H1C HPOS
  cases nx
  · go_wp2_with fail
    go_ret
    exact ⟨_, ys, rfl, HM2.out, HL2.out, hl2, by rw [HV2.out, HV.out]; rfl, hb3⟩
  · go_wp2_with fail
    have hown := HM2.out
    unfold Mine at hown
    rw [HL2.out] at hown
    refine (negate_any _ w2 _ k k ys hown hl2).mono ?_
    rintro e w3 ⟨zs, rfl, ho3, hl3, hv3, -, hb4⟩
    have HO3 := Lib.hid ho3
    have HV3 := Lib.hid hv3
    clear ho3 hv3 hown
    go_wp2_with fail
    go_ret
    have hzl : zs.length = k := HO3.out.sl.len
    refine ⟨_, zs, rfl, ?_, hzl, hl3, ?_, hb3.trans hb4⟩
    · unfold Mine; rw [hzl]; exact HO3.out
    · rw [HV3.out, HV2.out, HV.out, neg_mod]; simp [sgn]
end Go.Proofs.Ytpakfknacmcohaa
