/- Contracts of split, join, divideSmall. -/
import Derived.Test.YtpakfknacmcohaaNat3
import Derived.Laws.BitsAllLaws
namespace Go.Proofs.Ytpakfknacmcohaa
open Go.RowKit
set_option autoImplicit false
set_option linter.unusedVariables false

theorem Own.set {B : Nat} {w : World} {g n cap : Nat} {zs : List Int} (h : Own B w (some ⟨g, 0, none⟩) n cap zs) (j : Nat) (v : Int) : Own B (w.setCell ⟨g, j, none⟩ (.int .u32 v)) (some ⟨g, 0, none⟩) n cap (zs.set j v) := by
  have := (World.ownsRow.stored h j (.int .u32 v)).1
  unfold Own
  rw [List.map_set]
  exact this
theorem Own.at {B : Nat} {w : World} {ao : Option Addr} {n cap : Nat} {zs : List Int} (h : Own B w ao n cap zs) {j : Nat} (hj : j < n) :
    ∃ g, ao = some ⟨g, 0, none⟩ ∧ B ≤ g ∧ w.cell? ⟨g, j, none⟩ = some (.int .u32 (zs.getD j 0)) ∧ w.frozen? ⟨g, j, none⟩ = false := by
  have h' := h
  rcases h'.2 with ⟨hv, hn⟩ | ⟨g, c, cur, hv, hb, hg, hnc, hcm, hcs, htake⟩
  · omega
  · simp only [Value.slice.injEq] at hv
    obtain ⟨rfl, _, rfl⟩ := hv
    have hl := h.sl.len
    refine ⟨g, rfl, hb, ?_, World.ownsRow.frozenAt h j⟩
    rw [World.ownsRow.cellAt h j (by omega), List.getElem?_map, List.getElem?_eq_getElem (by omega), getD_lt (by omega)]
    rfl

theorem split_any (w : World) (u : Int) (h0 : 0 ≤ u) (h1 : u ≤ 18446744073709551615) : Calls Try.prog 71 #[.int .u64 u] w (RetNat w u 2) := by
  have hown : Own w.heap.size (w.alloc (.cells #[.int .u32 (u % 4294967296), .int .u32 (u / 4294967296)] 99)) (some ⟨w.heap.size, 0, none⟩) 2 2 [u % 4294967296, u / 4294967296] := by
    have := World.ownsRow_lit (base := w.heap.size) (e := 99) (size := 1) w #[.int .u32 (u % 4294967296), .int .u32 (u / 4294967296)] 2 (Nat.le_refl _) (by unfold maxLen; omega) rfl
    exact this
  have hl : Lim [u % 4294967296, u / 4294967296] := by intro z hz; simp at hz; omega
  have hv : val [u % 4294967296, u / 4294967296] = u := by simp [val]; omega
  have ht := trim_own w _ _ _ _ _ hown hl ((Below.refl _ _).alloc (Nat.le_refl _) _) hv
  have HT := Lib.hid ht
  clear hown hl hv ht
  go_enter Try.func71, Try.ntmps71
  go_wp2_with fail
  refine HT.out.mono ?_
  rintro e w1 ⟨ao, n, cap, zs, rfl, hres⟩
  have HR := Lib.hid hres
  clear hres
  go_wp2
  go_ret
  exact ⟨_, _, _, zs, rfl, HR.out⟩

theorem or_low (a b : Int) (ha0 : 0 ≤ a) (ha1 : a ≤ 4294967295) (hb0 : 0 ≤ b) (hb1 : b ≤ 4294967295) : bits BinOp.or IntKind.u64 (a * 4294967296) b = a * 4294967296 + b := by
  obtain ⟨x, rfl⟩ := Int.eq_ofNat_of_zero_le ha0
  obtain ⟨y, rfl⟩ := Int.eq_ofNat_of_zero_le hb0
  have e : ((x : Int) * 4294967296) = ((x * 4294967296 : Nat) : Int) := by omega
  have e2 : x * 4294967296 ||| y = x * 4294967296 + y := by
    rw [show 4294967296 = 2 ^ 32 from rfl, ← Nat.shiftLeft_eq, Nat.shiftLeft_add_eq_or_of_lt (by omega)]
  rw [e, u64_or_nat _ _ (by omega) (by omega), e2]
  omega

theorem dsm_step {xs zs : List Int} {j : Nat} {d rest t : Int} (hj : j < xs.length) (hl : zs.length = xs.length) (hsame : zs.getD j 0 = xs.getD j 0) (h : val (xs.drop (j + 1)) = d * val (zs.drop (j + 1)) + rest) (ht : t = rest * 4294967296 + xs.getD j 0) :
    val (xs.drop j) = d * val ((zs.set j (t / d)).drop j) + t % d := by
  rw [drop_getD hj, drop_getD (a := zs.set j (t / d)) (by rw [List.length_set]; omega), getD_set_eq (by omega), List.drop_set_of_lt (by omega)]
  simp only [val]
  rw [h]
  have := Int.emod_add_mul_ediv t d
  grind

theorem grownBy.setRow {w wr : World} {g : Nat} (h : w.grownBy wr (some g)) (j : Nat) (u : Value) : w.grownBy (wr.setCell ⟨g, j, none⟩ u) (some g) :=
  ⟨h.os, h.tape, h.output, by simpa [World.setCell] using h.size, fun k hk hne => by rw [Below.heap_setCell _ _ _ _ (by intro e; exact hne (by rw [e]))]; exact h.block k hk hne⟩

/-- Quotient and remainder of a small division. -/
def RetSmall (B : Nat) (w : World) (ao : Option Addr) (cap : Nat) (q r : Int) (L : Nat) (e : Ending) (w' : World) : Prop :=
  ∃ n zs, e = .returned (.tuple #[.slice ao n cap, .int .u32 r]) ∧ Own B w' ao n cap zs ∧ Lim zs ∧ Top zs ∧ val zs = q ∧ n ≤ L ∧ w.grownBy w' (Value.slice ao L cap).ownBlock ∧ Below B w w'

set_option maxRecDepth 100000 in
theorem divideSmall_any (B : Nat) (w : World) (ao : Option Addr) (n cap : Nat) (xs : List Int) (d : Int) (hx : Own B w ao n cap xs) (lx : Lim xs) (hd0 : 0 < d) (hd1 : d ≤ 4294967295) :
    Calls Try.prog 120 #[.slice ao n cap, .int .u32 d] w (RetSmall B w ao cap (val xs / d) (val xs % d) n) := by
  have HL : Hid (xs.length = n) := hx.sl.len
  have hmost := hx.sl.most
  have hle := hx.sl.le
  unfold maxLen at hmost
  have HX := Lib.hid hx
  clear hx
  go_enter Try.func120, Try.ntmps120
  go_wp2_with fail
  go_loopw [6, 7] (fun r i wr => ∃ (p rest : Int) (zs : List Int), -1 ≤ p ∧ p < n ∧ i = .int .i64 p ∧ r = .int .u64 rest ∧ 0 ≤ rest ∧ rest < d ∧ zs.length = xs.length ∧ Lim zs ∧ (∀ i : Nat, (i : Int) ≤ p → zs.getD i 0 = xs.getD i 0) ∧
      val (xs.drop (p + 1).toNat) = d * val (zs.drop (p + 1).toNat) + rest ∧ Own B wr ao n cap zs ∧ w.grownBy wr (Value.slice ao n cap).ownBlock ∧ Below B w wr) (fun _ i _ => (intOf i + 1).toNat)
  case atStart =>
    have e1 := HL.out
    exact ⟨(n : Int) - 1, 0, xs, by omega, by omega, rfl, rfl, by omega, hd0, rfl, lx, fun _ _ => rfl, by rw [List.drop_of_length_le (by omega)]; simp [val], HX.out, World.grownBy.refl _ _, Below.refl _ _⟩
  case round =>
    obtain ⟨p, rest, zs, hp0, hp1, rfl, rfl, hr0, hr1, hzl, hlim, hsame, hval, hown, hgr, hbel⟩ := hrel
    have HO := Lib.hid hown
    have HG := Lib.hid hgr
    have HS := Lib.hid hsame
    have HV := Lib.hid hval
    have HZ := Lib.hid hzl
    clear hown hsame hval hzl hgr
    by_cases hp : p < 0
    · obtain rfl : p = -1 := by omega
      have hv : val xs = d * val zs + rest := by have := HV.out; simpa using this
      have hq : val zs = val xs / d := by rw [hv, Int.mul_comm, Int.add_comm, Int.add_mul_ediv_right _ _ (by omega), Int.ediv_eq_zero_of_lt hr0 hr1]; omega
      have hrr : rest = val xs % d := by rw [hv, Int.add_comm, Int.add_mul_emod_self_left, Int.emod_eq_of_lt hr0 hr1]
      have HQ := Lib.hid hq
      have HR := Lib.hid hrr
      have hs := HO.out.sl
      have ht := trim_any wr ao n cap zs hs.len hs.le hs.most hs.cells
      have htop : zs.take (tl zs n) = trm zs := by rw [trm, hs.len]
      have HT := Lib.hid ht
      have HP := Lib.hid htop
      clear hv hq hrr hs ht htop
      go_wp2_with fail
      refine HT.out.mono ?_
      rintro e w1 ⟨rfl, rfl⟩
      go_wp2
      go_ret2
      have hown := HO.out.trimmed (tl zs n) (tl_le zs n)
      rw [HP.out] at hown
      refine ⟨tl zs n, trm zs, ?_, hown, trm_lim hlim, trm_top zs, (trm_val zs).trans HQ.out, tl_le zs n, HG.out, hbel⟩
      rw [← HR.out]
      rfl
    · obtain ⟨j, rfl⟩ := Int.eq_ofNat_of_zero_le (show 0 ≤ p by omega)
      obtain ⟨g, rfl, hB, hc, hf⟩ := HO.out.at (j := j) (by omega)
      obtain ⟨a, ha⟩ : ∃ a, xs.getD j 0 = a := ⟨_, rfl⟩
      rw [HS.out j (Int.le_refl _), ha] at hc
      have hla := Lim_getD lx j
      rw [ha] at hla
      obtain ⟨ha0, ha1⟩ := hla
      obtain ⟨t, ht⟩ : ∃ t, rest * 4294967296 + a = t := ⟨_, rfl⟩
      have hor : bits BinOp.or IntKind.u64 (rest * 4294967296) a = t := by rw [or_low rest a hr0 (by omega) ha0 ha1, ht]
      have ht0 : 0 ≤ t := by omega
      have ht1 : t ≤ 18446744073709551615 := by omega
      have hq0 : 0 ≤ t / d := Int.ediv_nonneg ht0 (by omega)
      have hq1 : t / d ≤ 4294967295 := by
        have : t / d < 4294967296 := Int.ediv_lt_of_lt_mul hd0 (by
          have : rest + 1 ≤ d := by omega
          have h2 : (rest + 1) * 4294967296 ≤ d * 4294967296 := Int.mul_le_mul_of_nonneg_right this (by omega)
          rw [Int.mul_comm 4294967296 d]; omega)
        omega
      have hm0 : 0 ≤ t % d := Int.emod_nonneg _ (by omega)
      have hm1 : t % d < d := Int.emod_lt_of_pos _ hd0
      have HA := Lib.hid ha
      have HT := Lib.hid ht
      clear ha ht
      go_wp2_with fail
      go_roundw
      case rel =>
        have hzl := HZ.out
        have hlx := HL.out
        have hstep := dsm_step (xs := xs) (zs := zs) (j := j) (d := d) (rest := rest) (t := t) (by omega) hzl (HS.out j (Int.le_refl _)) (by have := HV.out; rwa [show ((j : Int) + 1).toNat = j + 1 by omega] at this) (by rw [HA.out]; exact HT.out.symm)
        exact ⟨(j : Int) - 1, t % d, zs.set j (t / d), by omega, by omega, rfl, rfl, hm0, hm1, by rw [List.length_set]; exact hzl, Lim_set hlim j hq0 hq1,
          fun i hi => by rw [getD_set_ne (by omega)]; exact HS.out i (by omega), by rw [show ((j : Int) - 1 + 1).toNat = j by omega]; exact hstep, HO.out.set j _, grownBy.setRow HG.out j _, hbel.setCell hB _⟩
      case measure => simp [intOf]
end Go.Proofs.Ytpakfknacmcohaa
