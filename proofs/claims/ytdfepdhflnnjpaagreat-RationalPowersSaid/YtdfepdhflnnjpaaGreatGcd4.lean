/- Gcd: take. -/
import Derived.Test.YtdfepdhflnnjpaaGreatGcdM
namespace Go.Proofs.YtdfepdhflnnjpaaGreat
open Go.RowKit
set_option autoImplicit false
set_option maxHeartbeats 1000000
set_option linter.unusedVariables false

theorem mixed_step {D Bi up dn b hi lo c up' dn' b' : Int} {cs : List Int} {i : Nat} (hl : cs.length = i) (hB : (4294967296 : Int) ^ i = Bi) (h : D = val cs + Bi * (up - dn - b)) (hc : (hi + up) - (lo + dn) - b = c + 4294967296 * (up' - dn' - b')) :
    D + Bi * (hi - lo) = val (cs ++ [c]) + 4294967296 ^ (i + 1) * (up' - dn' - b') := by
  rw [val_snoc, hl, Int.pow_succ, hB, h]
  have e : Bi * (hi - lo) = Bi * ((hi + up) - (lo + dn) - b) - Bi * (up - dn - b) := by grind
  rw [e, hc]
  grind

theorem mixed_end {X P k : Int} {v : Int} (h : X = v + P * k) (h0 : 0 ≤ X) (h1 : X < P) (v0 : 0 ≤ v) (v1 : v < P) : X = v := by
  have hP : 0 < P := by omega
  have hk : k = 0 := by
    rcases Int.lt_trichotomy k 0 with hk | hk | hk
    · have : P * k ≤ P * (-1) := Int.mul_le_mul_of_nonneg_left (by omega) (by omega)
      omega
    · exact hk
    · have : P * 1 ≤ P * k := Int.mul_le_mul_of_nonneg_left (by omega) (by omega)
      omega
  rw [h, hk]; simp

theorem row_step1 {cs xs : List Int} {i : Nat} (hl : cs.length = i) (hi : i < xs.length) (c : Int) : (cs ++ xs.drop i).set i c = (cs ++ [c]) ++ xs.drop (i + 1) := by
  subst hl
  rw [List.set_append_right _ _ (Nat.le_refl _), Nat.sub_self, List.drop_eq_getElem_cons hi, List.set_cons_zero]
  simp

theorem row_step2 {ds ys : List Int} {i m : Nat} (hl : ds.length = i) (hm : ys.length = m) (hi : i < m) (d : Int) : (ds.take m ++ ys.drop i).set i d = (ds ++ [d]).take m ++ ys.drop (i + 1) := by
  have e1 : ds.take m = ds := List.take_of_length_le (by omega)
  have e2 : (ds ++ [d]).take m = ds ++ [d] := List.take_of_length_le (by simp; omega)
  rw [e1, e2, row_step1 hl (by omega)]

theorem row_step3 {ds ys : List Int} {i m : Nat} (hl : ds.length = i) (hm : ys.length = m) (hi : m ≤ i) (d : Int) : ds.take m ++ ys.drop i = (ds ++ [d]).take m ++ ys.drop (i + 1) := by
  rw [List.drop_eq_nil_of_le (by omega), List.drop_eq_nil_of_le (by omega), List.take_append_of_le_length (by omega)]

theorem row_get1 {cs xs : List Int} {i : Nat} (hl : cs.length = i) : (cs ++ xs.drop i).getD i 0 = xs.getD i 0 := by
  subst hl
  simp [List.getD, List.getElem?_append_right]

theorem row_get2 {ds ys : List Int} {i m : Nat} (hl : ds.length = i) (hm : ys.length = m) : (ds.take m ++ ys.drop i).getD i 0 = ys.getD i 0 := by
  by_cases h : i < m
  · rw [List.take_of_length_le (by omega)]; exact row_get1 hl
  · rw [getD_ge (by simp; omega), getD_ge (by omega)]

theorem Own.lim_at {B : Nat} {w : World} {g n cap : Nat} {zs : List Int} (h : Own B w (some ⟨g, 0, none⟩) n cap zs) {j : Nat} (hj : j < n) : w.cell? ⟨g, j, none⟩ = some (.int .u32 (zs.getD j 0)) ∧ w.frozen? ⟨g, j, none⟩ = false := by
  have hl := h.sl.len
  refine ⟨?_, World.ownsRow.frozenAt h j⟩
  rw [World.ownsRow.cellAt h j (by omega), List.getElem?_map, List.getElem?_eq_getElem (by omega), getD_lt (by omega)]
  rfl

theorem Own.framed {ks : List (Option Nat)} {w w' : World} {B g n cap : Nat} {zs : List Int} (h : Own B w (some ⟨g, 0, none⟩) n cap zs) (hF : Frame ks w w') (hg : some g ∉ ks) : Own B w' (some ⟨g, 0, none⟩) n cap zs :=
  row_frame hF h (by intro k hk; simp [Value.ownBlock] at hk; subst hk; exact hg)

theorem Own.block_lt {B : Nat} {w : World} {g n cap : Nat} {zs : List Int} (h : Own B w (some ⟨g, 0, none⟩) n cap zs) : B ≤ g ∧ g < w.heap.size := World.ownsRow.lt h g rfl

theorem MixAt.framed {ks : List (Option Nat)} {w w' : World} {M a b c d e : Nat} (h : MixAt w M a b c d e) (hF : Frame ks w w') (hg : some M ∉ ks) : MixAt w' M a b c d e := by
  unfold MixAt at h ⊢
  exact (hF.block M (Array.getElem?_eq_some_iff.1 h).1 hg).trans h

/-- The loop of take behind i limbs; sg is the sign. -/
structure TakeAt (w : World) (Bb g1 g2 n m capa capb M1 M2 p0 : Nat) (xs ys : List Int) (u0 v0 u1 v1 : Nat) (sg : Int) (rs : Obj) (i : Nat) (wr : World) (cs ds : List Int) (up1 dn1 b1 up2 dn2 b2 : Nat) : Prop where
  lc : cs.length = i
  ld : ds.length = i
  limc : Lim cs
  limd : Lim ds
  bu1 : up1 < 4294967296
  bd1 : dn1 < 4294967296
  bb1 : b1 ≤ 1
  bu2 : up2 < 4294967296
  bd2 : dn2 < 4294967296
  bb2 : b2 ≤ 1
  eq1 : sg * ((u0 : Int) * val (xs.take i) - v0 * val (ys.take i)) = val cs + 4294967296 ^ i * ((up1 : Int) - dn1 - b1)
  eq2 : sg * ((v1 : Int) * val (ys.take i) - u1 * val (xs.take i)) = val ds + 4294967296 ^ i * ((up2 : Int) - dn2 - b2)
  rowa : Own Bb wr (some ⟨g1, 0, none⟩) n capa (cs ++ xs.drop i)
  rowb : Own Bb wr (some ⟨g2, 0, none⟩) m capb (ds.take m ++ ys.drop i)
  mix1 : MixAt wr M1 u0 v0 up1 dn1 b1
  mix2 : MixAt wr M2 v1 u1 up2 dn2 b2
  box : wr.heap[p0]? = some rs
  fr : Frame [some g1, some g2] w wr

theorem mix_end {w wr : World} {Bb g1 g2 n m capa capb M1 M2 p0 : Nat} {xs ys : List Int} {u0 v0 u1 v1 : Nat} (sg : Int) {rs : Obj} {cs ds : List Int} {up1 dn1 b1 up2 dn2 b2 A B X Y : Nat} {odd : Bool} (lx : Lim xs) (ly : Lim ys)
    (h : TakeAt w Bb g1 g2 n m capa capb M1 M2 p0 xs ys u0 v0 u1 v1 sg rs n wr cs ds up1 dn1 b1 up2 dn2 b2) (hx : xs.length = n) (hy : ys.length = m) (hmn : m ≤ n) (hA : val xs = (A : Int)) (hB : val ys = (B : Int)) (hs : Steps A B u0 v0 u1 v1 odd X Y)
    (hX : (X : Int) = sg * ((u0 : Int) * A - v0 * B)) (hY : (Y : Int) = sg * ((v1 : Int) * B - u1 * A)) : val cs = (X : Int) ∧ val (ds.take m) = (Y : Int) ∧ Own Bb wr (some ⟨g1, 0, none⟩) n capa cs ∧ Own Bb wr (some ⟨g2, 0, none⟩) m capb (ds.take m) := by
  have e1 := h.eq1
  have e2 := h.eq2
  rw [List.take_of_length_le (by omega), List.take_of_length_le (by omega), hA, hB] at e1 e2
  rw [← hX] at e1
  rw [← hY] at e2
  have ra := h.rowa
  have rb := h.rowb
  rw [List.drop_eq_nil_of_le (by omega), List.append_nil] at ra rb
  have hXA : X ≤ A := by
    have h1 := hs.a
    have h2 : X ≤ v1 * X := Nat.le_mul_of_pos_left _ hs.nil
    omega
  have hXB : X ≤ B := by
    have h1 := hs.b
    have h2 : X ≤ u1 * X := Nat.le_mul_of_pos_left _ hs.one
    omega
  have hYX := hs.lt
  have lA : (A : Int) < 4294967296 ^ n := by rw [← hA, ← hx]; exact val_lt lx
  have lB : (B : Int) < 4294967296 ^ m := by rw [← hB, ← hy]; exact val_lt ly
  have c0 := val_nonneg h.limc
  have c1 := val_lt h.limc
  rw [h.lc] at c1
  have d0 := val_nonneg h.limd
  have d1 := val_lt h.limd
  rw [h.ld] at d1
  have f1 := mixed_end e1 (by omega) (by omega) c0 c1
  have f2 := mixed_end e2 (by omega) (by omega) d0 d1
  have g0 := val_nonneg (Lim_take h.limd m)
  have g1' := val_lt (Lim_take h.limd m)
  have hlm : (ds.take m).length = m := by rw [List.length_take, h.ld]; omega
  rw [hlm] at g1'
  have e3 : (Y : Int) = val (ds.take m) + 4294967296 ^ m * val (ds.drop m) := by rw [f2]; have := val_split ds m; rwa [hlm] at this
  have f3 := mixed_end e3 (by omega) (by omega) g0 g1'
  exact ⟨f1.symm, f3.symm, ra, rb⟩

/-- What take returns. -/
def RetTake (w : World) (Bb g1 g2 n m capa capb X Y : Nat) (e : Ending) (w' : World) : Prop :=
  ∃ zs ts : List Int, e = .returned (.tuple #[.slice (some ⟨g1, 0, none⟩) zs.length capa, .slice (some ⟨g2, 0, none⟩) ts.length capb]) ∧ Own Bb w' (some ⟨g1, 0, none⟩) zs.length capa zs ∧ Own Bb w' (some ⟨g2, 0, none⟩) ts.length capb ts ∧
    Lim zs ∧ Lim ts ∧ Top zs ∧ Top ts ∧ val zs = (X : Int) ∧ val ts = (Y : Int) ∧ zs.length ≤ n ∧ ts.length ≤ m ∧ Frame [some g1, some g2] w w'

set_option maxRecDepth 100000 in
set_option maxHeartbeats 4000000 in
theorem take_even (w : World) (Bb g1 g2 n m capa capb : Nat) (xs ys : List Int) (A B u0 v0 u1 v1 X Y : Nat) (ha : Own Bb w (some ⟨g1, 0, none⟩) n capa xs) (hb : Own Bb w (some ⟨g2, 0, none⟩) m capb ys) (hne : g1 ≠ g2) (lx : Lim xs) (ly : Lim ys)
    (hA : val xs = (A : Int)) (hB : val ys = (B : Int)) (hmn : m ≤ n) (hn : n ≤ 1073741824) (hs : Steps A B u0 v0 u1 v1 false X Y) :
    Calls Tryz.prog 166 #[.agg #[.int .u64 (u0 : Int), .int .u64 (v0 : Int), .int .u64 (u1 : Int), .int .u64 (v1 : Int), .bool false], .slice (some ⟨g1, 0, none⟩) n capa, .slice (some ⟨g2, 0, none⟩) m capb] w (RetTake w Bb g1 g2 n m capa capb X Y) := by
  have hlx := ha.sl.len
  have hly := hb.sl.len
  obtain ⟨gl1, gh1⟩ := ha.block_lt
  obtain ⟨gl2, gh2⟩ := hb.block_lt
  have HA := Lib.hid ha
  have HB := Lib.hid hb
  have HS := Lib.hid hs
  have HLX := Lib.hid hlx
  have HLY := Lib.hid hly
  have HVA := Lib.hid hA
  have HVB := Lib.hid hB
  clear ha hb hs hlx hly hA hB
  go_enter Tryz.func166, Tryz.ntmps166
  go_wp2_with fail
  obtain ⟨rs, hrs⟩ : ∃ rs, rs = Obj.cells #[.int .u64 (u0 : Int), .int .u64 (v0 : Int), .int .u64 (u1 : Int), .int .u64 (v1 : Int), .bool false] 195 (0, 0) := ⟨_, rfl⟩
  obtain ⟨w3, hw3⟩ : ∃ w3, w3 = ((w.alloc (.cells #[.int .u64 (u0 : Int), .int .u64 (v0 : Int), .int .u64 (u1 : Int), .int .u64 (v1 : Int), .bool false] 195)).alloc (.cells #[.int .u64 (u0 : Int), .int .u64 (v0 : Int), .int .u64 0, .int .u64 0, .int .u64 0] 204)).alloc (.cells #[.int .u64 (v1 : Int), .int .u64 (u1 : Int), .int .u64 0, .int .u64 0, .int .u64 0] 204) := ⟨_, rfl⟩
  have hF3 : Frame [] w w3 := by rw [hw3]; exact (((Frame.refl _ _).alloc _).alloc _).alloc _
  have hr0 : w3.heap[w.heap.size]? = some rs := by rw [hw3, heap_alloc_old _ _ (by simp; omega), heap_alloc_old _ _ (by simp), hrs]; exact heap_alloc_new w _
  have hr1 : MixAt w3 (w.heap.size + 1) u0 v0 0 0 0 := by
    unfold MixAt
    rw [hw3, heap_alloc_old _ _ (by simp)]
    have := heap_alloc_new (w.alloc (.cells #[.int .u64 (u0 : Int), .int .u64 (v0 : Int), .int .u64 (u1 : Int), .int .u64 (v1 : Int), .bool false] 195)) (.cells #[.int .u64 (u0 : Int), .int .u64 (v0 : Int), .int .u64 0, .int .u64 0, .int .u64 0] 204)
    simpa using this
  have hr2 : MixAt w3 (w.heap.size + 1 + 1) v1 u1 0 0 0 := by
    unfold MixAt
    rw [hw3]
    have := heap_alloc_new ((w.alloc (.cells #[.int .u64 (u0 : Int), .int .u64 (v0 : Int), .int .u64 (u1 : Int), .int .u64 (v1 : Int), .bool false] 195)).alloc (.cells #[.int .u64 (u0 : Int), .int .u64 (v0 : Int), .int .u64 0, .int .u64 0, .int .u64 0] 204)) (.cells #[.int .u64 (v1 : Int), .int .u64 (u1 : Int), .int .u64 0, .int .u64 0, .int .u64 0] 204)
    simpa using this
  have HT0 : Hid (TakeAt w Bb g1 g2 n m capa capb (w.heap.size + 1) (w.heap.size + 1 + 1) w.heap.size xs ys u0 v0 u1 v1 (1) rs 0 w3 [] [] 0 0 0 0 0 0) := Lib.hid
    ⟨rfl, rfl, Lim_nil, Lim_nil, by omega, by omega, by omega, by omega, by omega, by omega, by simp [val], by simp [val], by simpa using HA.out.framed hF3 (by simp), by simpa using HB.out.framed hF3 (by simp), hr1, hr2, hr0, hF3.mono (by simp)⟩
  rw [← hw3]
  have HRS := Lib.hid hrs
  clear hw3 hF3 hr0 hr1 hr2 hrs
  go_loopw [31] (fun iv wr => ∃ (i : Nat) (cs ds : List Int) (up1 dn1 b1 up2 dn2 b2 : Nat), i ≤ n ∧ iv = .int .i64 (i : Int) ∧ TakeAt w Bb g1 g2 n m capa capb (w.heap.size + 1) (w.heap.size + 1 + 1) w.heap.size xs ys u0 v0 u1 v1 (1) rs i wr cs ds up1 dn1 b1 up2 dn2 b2) (fun iv _ => n - (intOf iv).toNat)
  case atStart => exact ⟨0, [], [], 0, 0, 0, 0, 0, 0, Nat.zero_le _, rfl, HT0.out⟩
  case round =>
    obtain ⟨i, cs, ds, up1, dn1, b1, up2, dn2, b2, hi, rfl, hT⟩ := hrel
    have HT := Lib.hid hT
    clear hT
    by_cases hin : i < n
    · have hiI : (i : Int) < (n : Int) := by omega
      obtain ⟨q1, qf1⟩ := HT.out.rowa.lim_at hin
      rw [row_get1 HT.out.lc] at q1
      have hxl := Lim_getD lx i
      have hyl := Lim_getD ly i
      obtain ⟨x, hx⟩ : ∃ x : Nat, xs.getD i 0 = (x : Int) := ⟨(xs.getD i 0).toNat, by omega⟩
      obtain ⟨y, hy⟩ : ∃ y : Nat, ys.getD i 0 = (y : Int) := ⟨(ys.getD i 0).toNat, by omega⟩
      rw [hx] at q1 hxl
      rw [hy] at hyl
      have HLM : Hid (Calls Tryz.prog 159 #[.slice (some ⟨g2, 0, none⟩) m capb, .int .i64 (i : Int)] wr fun e w' => e = .returned (.int .u32 (y : Int)) ∧ wr = w') := Lib.hid (by
        have := limb_any wr (some ⟨g2, 0, none⟩) m capb _ (i : Int) HT.out.rowb.sl.len HT.out.rowb.sl.cells (by omega)
        rwa [show ((i : Int)).toNat = i by omega, row_get2 HT.out.ld HLY.out, hy] at this)
      have hbx := HT.out.box
      rw [HRS.out] at hbx
      obtain ⟨-, -, -, -, o4, -⟩ := cells5 hbx
      have HX := Lib.hid hx
      have HY := Lib.hid hy
      have hz : w.heap.size ≤ wr.heap.size := HT.out.fr.size
      have hM1 := (Array.getElem?_eq_some_iff.1 HT.out.mix1).1
      have hM2 := (Array.getElem?_eq_some_iff.1 HT.out.mix2).1
      have N1 := Lib.hid (mnext_any wr (w.heap.size + 1) u0 v0 up1 dn1 b1 x y HT.out.mix1 HS.out.ul HS.out.vl HT.out.bu1 HT.out.bd1 (by omega) (by omega) HT.out.bb1)
      clear hbx hx hy
      go_wp2_with fail
      refine HLM.out.mono ?_
      rintro e w4 ⟨rfl, rfl⟩
      clear HLM
      go_wp2_with fail
      refine N1.out.mono ?_
      rintro e w5 ⟨c, up1', dn1', b1', rfl, k1, k2, k3, k4, k5, k6, k7⟩
      have K5 := Lib.hid k5
      have K6 := Lib.hid k6
      have K7 := Lib.hid k7
      have N2 := Lib.hid (mnext_any w5 (w.heap.size + 1 + 1) v1 u1 up2 dn2 b2 y x (HT.out.mix2.framed k7 (by simp)) HS.out.vr HS.out.ur HT.out.bu2 HT.out.bd2 (by omega) (by omega) HT.out.bb2)
      clear N1 k5 k6 k7 q1 qf1 o4
      go_wp2_with fail
      refine N2.out.mono ?_
      rintro e w6 ⟨d, up2', dn2', b2', rfl, l1, l2, l3, l4, l5, l6, l7⟩
      have L5 := Lib.hid l5
      have hF6 : Frame [some (w.heap.size + 1), some (w.heap.size + 1 + 1)] wr w6 := (K7.out.mono (fun k _ hm => by simp at hm; subst hm; simp)).trans l7 (fun k _ hm => by simp at hm; subst hm; simp)
      have ra := (HT.out.rowa.framed hF6 (by simp; omega)).set i (c : Int)
      rw [row_step1 HT.out.lc (by rw [HLX.out]; exact hin)] at ra
      have rb := (HT.out.rowb.framed hF6 (by simp; omega))
      obtain ⟨q1, qf1⟩ := (HT.out.rowa.framed hF6 (by simp; omega)).lim_at hin
      have rb2 := rb.framed (frame_set w6 g1 i (.int .u32 (c : Int))) (by simpa using hne.symm)
      have m1 := (K6.out.framed l7 (by simp)).framed (frame_set w6 g1 i (.int .u32 (c : Int))) (by simp; omega)
      have m2 := l6.framed (frame_set w6 g1 i (.int .u32 (c : Int))) (by simp; omega)
      have bx := ((frame_set w6 g1 i (.int .u32 (c : Int))).block w.heap.size (by have := hF6.size; omega) (by simp; omega)).trans ((hF6.block w.heap.size (by omega) (by simp; omega)).trans HT.out.box)
      have fr := ((HT.out.fr.trans hF6 (by intro k hk hm; simp at hm; omega)).trans (frame_set w6 g1 i (.int .u32 (c : Int))) (fun k _ hm => by simp at hm; subst hm; simp))
      have eq1 := mixed_step (hi := (u0 : Int) * (x : Int)) (lo := (v0 : Int) * (y : Int)) HT.out.lc rfl HT.out.eq1 (by have := K5.out; push_cast at this; exact this)
      have eq2 := mixed_step (hi := (v1 : Int) * (y : Int)) (lo := (u1 : Int) * (x : Int)) HT.out.ld rfl HT.out.eq2 (by have := L5.out; push_cast at this; exact this)
      have EQ1 : Hid ((1) * ((u0 : Int) * val (xs.take (i + 1)) - v0 * val (ys.take (i + 1))) = val (cs ++ [(c : Int)]) + 4294967296 ^ (i + 1) * ((up1' : Int) - dn1' - b1')) := Lib.hid (by
        rw [val_take_succ, val_take_succ, HX.out, HY.out, ← eq1]; grind)
      have EQ2 : Hid ((1) * ((v1 : Int) * val (ys.take (i + 1)) - u1 * val (xs.take (i + 1))) = val (ds ++ [(d : Int)]) + 4294967296 ^ (i + 1) * ((up2' : Int) - dn2' - b2')) := Lib.hid (by
        rw [val_take_succ, val_take_succ, HX.out, HY.out, ← eq2]; grind)
      have lc2 : (cs ++ [(c : Int)]).length = i + 1 := by simp [HT.out.lc]
      have ld2 : (ds ++ [(d : Int)]).length = i + 1 := by simp [HT.out.ld]
      have lm1 : Lim (cs ++ [(c : Int)]) := Lim_snoc HT.out.limc (by omega) (by omega)
      have lm2 : Lim (ds ++ [(d : Int)]) := Lim_snoc HT.out.limd (by omega) (by omega)
      have HALL := Lib.hid (And.intro ra (And.intro rb2 (And.intro m1 (And.intro m2 (And.intro bx (And.intro fr (And.intro lc2 (And.intro ld2 (And.intro lm1 lm2)))))))))
      clear N2 l5 l6 l7 ra rb m1 m2 bx fr eq1 eq2 lc2 ld2 lm1 lm2
      by_cases him : i < m
      · have himI : (i : Int) < (m : Int) := by omega
        obtain ⟨t1, tf1⟩ := rb2.lim_at him
        clear rb2
        go_wp2_with fail
        go_roundw
        case rel =>
          obtain ⟨ra, rb2, m1, m2, bx, fr, lc2, ld2, lm1, lm2⟩ := HALL.out
          have rb3 := rb2.set i (d : Int)
          rw [row_step2 HT.out.ld HLY.out him] at rb3
          refine ⟨i + 1, _, _, up1', dn1', b1', up2', dn2', b2', by omega, by go_num, ⟨lc2, ld2, lm1, lm2, k2, k3, k4, l2, l3, l4, EQ1.out, EQ2.out, ra.framed (frame_set _ g2 i _) (by simpa using hne), rb3, m1.framed (frame_set _ g2 i _) (by simp; omega), m2.framed (frame_set _ g2 i _) (by simp; omega), ?_, ?_⟩⟩
          · rw [Below.heap_setCell _ _ _ _ (by simp; omega)]; exact bx
          · exact fr.trans (frame_set _ g2 i _) (fun k _ hm => by simp at hm; subst hm; simp)
        case measure => simp [intOf]; omega
      · have himI : ¬ (i : Int) < (m : Int) := by omega
        clear rb2
        go_wp2_with fail
        go_roundw
        case rel =>
          obtain ⟨ra, rb2, m1, m2, bx, fr, lc2, ld2, lm1, lm2⟩ := HALL.out
          rw [row_step3 HT.out.ld HLY.out (by omega) (d : Int)] at rb2
          exact ⟨i + 1, _, _, up1', dn1', b1', up2', dn2', b2', by omega, by go_num, ⟨lc2, ld2, lm1, lm2, k2, k3, k4, l2, l3, l4, EQ1.out, EQ2.out, ra, rb2, m1, m2, bx, fr⟩⟩
        case measure => simp [intOf]; omega
    · obtain rfl : i = n := by omega
      have hiI : ¬ (i : Int) < (i : Int) := by omega
      obtain ⟨e1, e2, r1, r2⟩ := mix_end (1) lx ly HT.out HLX.out HLY.out hmn HVA.out HVB.out HS.out (by simpa using HS.out.hX) (by simpa using HS.out.hY)
      have s1 := r1.sl
      have s2 := r2.sl
      have T1 := Lib.hid (trim_any wr (some ⟨g1, 0, none⟩) i capa cs s1.len s1.le s1.most s1.cells)
      have T2 := Lib.hid (trim_any wr (some ⟨g2, 0, none⟩) m capb (ds.take m) s2.len s2.le s2.most s2.cells)
      have E1 := Lib.hid e1
      have E2 := Lib.hid e2
      have R1 := Lib.hid r1
      have R2 := Lib.hid r2
      have L1 := Lib.hid s1.len
      have L2 := Lib.hid s2.len
      clear e1 e2 r1 r2 s1 s2
      go_wp2_with fail
      refine T1.out.mono ?_
      rintro e w4 ⟨rfl, rfl⟩
      go_wp2_with fail
      refine T2.out.mono ?_
      rintro e w5 ⟨rfl, rfl⟩
      go_wp2_with fail
      go_ret2
      have h1 : tl cs i = (trm cs).length := by rw [trm_length, L1.out]
      have h2 : tl (ds.take m) m = (trm (ds.take m)).length := by rw [trm_length, L2.out]
      have o1 := R1.out.trimmed (tl cs i) (tl_le _ _)
      have o2 := R2.out.trimmed (tl (ds.take m) m) (tl_le _ _)
      have t1 : cs.take (tl cs i) = trm cs := by rw [trm, L1.out]
      have t2 : (ds.take m).take (tl (ds.take m) m) = trm (ds.take m) := by rw [trm, L2.out]
      rw [t1, h1] at o1
      rw [t2, h2] at o2
      refine ⟨trm cs, trm (ds.take m), by rw [h1, h2]; rfl, o1, o2, trm_lim HT.out.limc, trm_lim (Lim_take HT.out.limd m), trm_top _, trm_top _, by rw [trm_val]; exact E1.out, by rw [trm_val]; exact E2.out, by rw [← h1]; exact tl_le _ _, by rw [← h2]; exact tl_le _ _, HT.out.fr⟩

set_option maxRecDepth 100000 in
set_option maxHeartbeats 4000000 in
theorem take_odd (w : World) (Bb g1 g2 n m capa capb : Nat) (xs ys : List Int) (A B u0 v0 u1 v1 X Y : Nat) (ha : Own Bb w (some ⟨g1, 0, none⟩) n capa xs) (hb : Own Bb w (some ⟨g2, 0, none⟩) m capb ys) (hne : g1 ≠ g2) (lx : Lim xs) (ly : Lim ys)
    (hA : val xs = (A : Int)) (hB : val ys = (B : Int)) (hmn : m ≤ n) (hn : n ≤ 1073741824) (hs : Steps A B u0 v0 u1 v1 true X Y) :
    Calls Tryz.prog 166 #[.agg #[.int .u64 (u0 : Int), .int .u64 (v0 : Int), .int .u64 (u1 : Int), .int .u64 (v1 : Int), .bool true], .slice (some ⟨g1, 0, none⟩) n capa, .slice (some ⟨g2, 0, none⟩) m capb] w (RetTake w Bb g1 g2 n m capa capb X Y) := by
  have hlx := ha.sl.len
  have hly := hb.sl.len
  obtain ⟨gl1, gh1⟩ := ha.block_lt
  obtain ⟨gl2, gh2⟩ := hb.block_lt
  have HA := Lib.hid ha
  have HB := Lib.hid hb
  have HS := Lib.hid hs
  have HLX := Lib.hid hlx
  have HLY := Lib.hid hly
  have HVA := Lib.hid hA
  have HVB := Lib.hid hB
  clear ha hb hs hlx hly hA hB
  go_enter Tryz.func166, Tryz.ntmps166
  go_wp2_with fail
  obtain ⟨rs, hrs⟩ : ∃ rs, rs = Obj.cells #[.int .u64 (u0 : Int), .int .u64 (v0 : Int), .int .u64 (u1 : Int), .int .u64 (v1 : Int), .bool true] 195 (0, 0) := ⟨_, rfl⟩
  obtain ⟨w3, hw3⟩ : ∃ w3, w3 = ((w.alloc (.cells #[.int .u64 (u0 : Int), .int .u64 (v0 : Int), .int .u64 (u1 : Int), .int .u64 (v1 : Int), .bool true] 195)).alloc (.cells #[.int .u64 (u0 : Int), .int .u64 (v0 : Int), .int .u64 0, .int .u64 0, .int .u64 0] 204)).alloc (.cells #[.int .u64 (v1 : Int), .int .u64 (u1 : Int), .int .u64 0, .int .u64 0, .int .u64 0] 204) := ⟨_, rfl⟩
  have hF3 : Frame [] w w3 := by rw [hw3]; exact (((Frame.refl _ _).alloc _).alloc _).alloc _
  have hr0 : w3.heap[w.heap.size]? = some rs := by rw [hw3, heap_alloc_old _ _ (by simp; omega), heap_alloc_old _ _ (by simp), hrs]; exact heap_alloc_new w _
  have hr1 : MixAt w3 (w.heap.size + 1) u0 v0 0 0 0 := by
    unfold MixAt
    rw [hw3, heap_alloc_old _ _ (by simp)]
    have := heap_alloc_new (w.alloc (.cells #[.int .u64 (u0 : Int), .int .u64 (v0 : Int), .int .u64 (u1 : Int), .int .u64 (v1 : Int), .bool true] 195)) (.cells #[.int .u64 (u0 : Int), .int .u64 (v0 : Int), .int .u64 0, .int .u64 0, .int .u64 0] 204)
    simpa using this
  have hr2 : MixAt w3 (w.heap.size + 1 + 1) v1 u1 0 0 0 := by
    unfold MixAt
    rw [hw3]
    have := heap_alloc_new ((w.alloc (.cells #[.int .u64 (u0 : Int), .int .u64 (v0 : Int), .int .u64 (u1 : Int), .int .u64 (v1 : Int), .bool true] 195)).alloc (.cells #[.int .u64 (u0 : Int), .int .u64 (v0 : Int), .int .u64 0, .int .u64 0, .int .u64 0] 204)) (.cells #[.int .u64 (v1 : Int), .int .u64 (u1 : Int), .int .u64 0, .int .u64 0, .int .u64 0] 204)
    simpa using this
  have HT0 : Hid (TakeAt w Bb g1 g2 n m capa capb (w.heap.size + 1) (w.heap.size + 1 + 1) w.heap.size xs ys u0 v0 u1 v1 (-1) rs 0 w3 [] [] 0 0 0 0 0 0) := Lib.hid
    ⟨rfl, rfl, Lim_nil, Lim_nil, by omega, by omega, by omega, by omega, by omega, by omega, by simp [val], by simp [val], by simpa using HA.out.framed hF3 (by simp), by simpa using HB.out.framed hF3 (by simp), hr1, hr2, hr0, hF3.mono (by simp)⟩
  rw [← hw3]
  have HRS := Lib.hid hrs
  clear hw3 hF3 hr0 hr1 hr2 hrs
  go_loopw [31] (fun iv wr => ∃ (i : Nat) (cs ds : List Int) (up1 dn1 b1 up2 dn2 b2 : Nat), i ≤ n ∧ iv = .int .i64 (i : Int) ∧ TakeAt w Bb g1 g2 n m capa capb (w.heap.size + 1) (w.heap.size + 1 + 1) w.heap.size xs ys u0 v0 u1 v1 (-1) rs i wr cs ds up1 dn1 b1 up2 dn2 b2) (fun iv _ => n - (intOf iv).toNat)
  case atStart => exact ⟨0, [], [], 0, 0, 0, 0, 0, 0, Nat.zero_le _, rfl, HT0.out⟩
  case round =>
    obtain ⟨i, cs, ds, up1, dn1, b1, up2, dn2, b2, hi, rfl, hT⟩ := hrel
    have HT := Lib.hid hT
    clear hT
    by_cases hin : i < n
    · have hiI : (i : Int) < (n : Int) := by omega
      obtain ⟨q1, qf1⟩ := HT.out.rowa.lim_at hin
      rw [row_get1 HT.out.lc] at q1
      have hxl := Lim_getD lx i
      have hyl := Lim_getD ly i
      obtain ⟨x, hx⟩ : ∃ x : Nat, xs.getD i 0 = (x : Int) := ⟨(xs.getD i 0).toNat, by omega⟩
      obtain ⟨y, hy⟩ : ∃ y : Nat, ys.getD i 0 = (y : Int) := ⟨(ys.getD i 0).toNat, by omega⟩
      rw [hx] at q1 hxl
      rw [hy] at hyl
      have HLM : Hid (Calls Tryz.prog 159 #[.slice (some ⟨g2, 0, none⟩) m capb, .int .i64 (i : Int)] wr fun e w' => e = .returned (.int .u32 (y : Int)) ∧ wr = w') := Lib.hid (by
        have := limb_any wr (some ⟨g2, 0, none⟩) m capb _ (i : Int) HT.out.rowb.sl.len HT.out.rowb.sl.cells (by omega)
        rwa [show ((i : Int)).toNat = i by omega, row_get2 HT.out.ld HLY.out, hy] at this)
      have hbx := HT.out.box
      rw [HRS.out] at hbx
      obtain ⟨-, -, -, -, o4, -⟩ := cells5 hbx
      have HX := Lib.hid hx
      have HY := Lib.hid hy
      have hz : w.heap.size ≤ wr.heap.size := HT.out.fr.size
      have hM1 := (Array.getElem?_eq_some_iff.1 HT.out.mix1).1
      have hM2 := (Array.getElem?_eq_some_iff.1 HT.out.mix2).1
      have N1 := Lib.hid (mturned_any wr (w.heap.size + 1) u0 v0 up1 dn1 b1 x y HT.out.mix1 HS.out.ul HS.out.vl HT.out.bu1 HT.out.bd1 (by omega) (by omega) HT.out.bb1)
      clear hbx hx hy
      go_wp2_with fail
      refine HLM.out.mono ?_
      rintro e w4 ⟨rfl, rfl⟩
      clear HLM
      go_wp2_with fail
      refine N1.out.mono ?_
      rintro e w5 ⟨c, up1', dn1', b1', rfl, k1, k2, k3, k4, k5, k6, k7⟩
      have K5 := Lib.hid k5
      have K6 := Lib.hid k6
      have K7 := Lib.hid k7
      have N2 := Lib.hid (mturned_any w5 (w.heap.size + 1 + 1) v1 u1 up2 dn2 b2 y x (HT.out.mix2.framed k7 (by simp)) HS.out.vr HS.out.ur HT.out.bu2 HT.out.bd2 (by omega) (by omega) HT.out.bb2)
      clear N1 k5 k6 k7 q1 qf1 o4
      go_wp2_with fail
      refine N2.out.mono ?_
      rintro e w6 ⟨d, up2', dn2', b2', rfl, l1, l2, l3, l4, l5, l6, l7⟩
      have L5 := Lib.hid l5
      have hF6 : Frame [some (w.heap.size + 1), some (w.heap.size + 1 + 1)] wr w6 := (K7.out.mono (fun k _ hm => by simp at hm; subst hm; simp)).trans l7 (fun k _ hm => by simp at hm; subst hm; simp)
      have ra := (HT.out.rowa.framed hF6 (by simp; omega)).set i (c : Int)
      rw [row_step1 HT.out.lc (by rw [HLX.out]; exact hin)] at ra
      have rb := (HT.out.rowb.framed hF6 (by simp; omega))
      obtain ⟨q1, qf1⟩ := (HT.out.rowa.framed hF6 (by simp; omega)).lim_at hin
      have rb2 := rb.framed (frame_set w6 g1 i (.int .u32 (c : Int))) (by simpa using hne.symm)
      have m1 := (K6.out.framed l7 (by simp)).framed (frame_set w6 g1 i (.int .u32 (c : Int))) (by simp; omega)
      have m2 := l6.framed (frame_set w6 g1 i (.int .u32 (c : Int))) (by simp; omega)
      have bx := ((frame_set w6 g1 i (.int .u32 (c : Int))).block w.heap.size (by have := hF6.size; omega) (by simp; omega)).trans ((hF6.block w.heap.size (by omega) (by simp; omega)).trans HT.out.box)
      have fr := ((HT.out.fr.trans hF6 (by intro k hk hm; simp at hm; omega)).trans (frame_set w6 g1 i (.int .u32 (c : Int))) (fun k _ hm => by simp at hm; subst hm; simp))
      have eq1 := mixed_step (hi := (v0 : Int) * (y : Int)) (lo := (u0 : Int) * (x : Int)) HT.out.lc rfl HT.out.eq1 (by have := K5.out; push_cast at this; exact this)
      have eq2 := mixed_step (hi := (u1 : Int) * (x : Int)) (lo := (v1 : Int) * (y : Int)) HT.out.ld rfl HT.out.eq2 (by have := L5.out; push_cast at this; exact this)
      have EQ1 : Hid ((-1) * ((u0 : Int) * val (xs.take (i + 1)) - v0 * val (ys.take (i + 1))) = val (cs ++ [(c : Int)]) + 4294967296 ^ (i + 1) * ((up1' : Int) - dn1' - b1')) := Lib.hid (by
        rw [val_take_succ, val_take_succ, HX.out, HY.out, ← eq1]; grind)
      have EQ2 : Hid ((-1) * ((v1 : Int) * val (ys.take (i + 1)) - u1 * val (xs.take (i + 1))) = val (ds ++ [(d : Int)]) + 4294967296 ^ (i + 1) * ((up2' : Int) - dn2' - b2')) := Lib.hid (by
        rw [val_take_succ, val_take_succ, HX.out, HY.out, ← eq2]; grind)
      have lc2 : (cs ++ [(c : Int)]).length = i + 1 := by simp [HT.out.lc]
      have ld2 : (ds ++ [(d : Int)]).length = i + 1 := by simp [HT.out.ld]
      have lm1 : Lim (cs ++ [(c : Int)]) := Lim_snoc HT.out.limc (by omega) (by omega)
      have lm2 : Lim (ds ++ [(d : Int)]) := Lim_snoc HT.out.limd (by omega) (by omega)
      have HALL := Lib.hid (And.intro ra (And.intro rb2 (And.intro m1 (And.intro m2 (And.intro bx (And.intro fr (And.intro lc2 (And.intro ld2 (And.intro lm1 lm2)))))))))
      clear N2 l5 l6 l7 ra rb m1 m2 bx fr eq1 eq2 lc2 ld2 lm1 lm2
      by_cases him : i < m
      · have himI : (i : Int) < (m : Int) := by omega
        obtain ⟨t1, tf1⟩ := rb2.lim_at him
        clear rb2
        go_wp2_with fail
        go_roundw
        case rel =>
          obtain ⟨ra, rb2, m1, m2, bx, fr, lc2, ld2, lm1, lm2⟩ := HALL.out
          have rb3 := rb2.set i (d : Int)
          rw [row_step2 HT.out.ld HLY.out him] at rb3
          refine ⟨i + 1, _, _, up1', dn1', b1', up2', dn2', b2', by omega, by go_num, ⟨lc2, ld2, lm1, lm2, k2, k3, k4, l2, l3, l4, EQ1.out, EQ2.out, ra.framed (frame_set _ g2 i _) (by simpa using hne), rb3, m1.framed (frame_set _ g2 i _) (by simp; omega), m2.framed (frame_set _ g2 i _) (by simp; omega), ?_, ?_⟩⟩
          · rw [Below.heap_setCell _ _ _ _ (by simp; omega)]; exact bx
          · exact fr.trans (frame_set _ g2 i _) (fun k _ hm => by simp at hm; subst hm; simp)
        case measure => simp [intOf]; omega
      · have himI : ¬ (i : Int) < (m : Int) := by omega
        clear rb2
        go_wp2_with fail
        go_roundw
        case rel =>
          obtain ⟨ra, rb2, m1, m2, bx, fr, lc2, ld2, lm1, lm2⟩ := HALL.out
          rw [row_step3 HT.out.ld HLY.out (by omega) (d : Int)] at rb2
          exact ⟨i + 1, _, _, up1', dn1', b1', up2', dn2', b2', by omega, by go_num, ⟨lc2, ld2, lm1, lm2, k2, k3, k4, l2, l3, l4, EQ1.out, EQ2.out, ra, rb2, m1, m2, bx, fr⟩⟩
        case measure => simp [intOf]; omega
    · obtain rfl : i = n := by omega
      have hiI : ¬ (i : Int) < (i : Int) := by omega
      obtain ⟨e1, e2, r1, r2⟩ := mix_end (-1) lx ly HT.out HLX.out HLY.out hmn HVA.out HVB.out HS.out (by simpa using HS.out.hX) (by simpa using HS.out.hY)
      have s1 := r1.sl
      have s2 := r2.sl
      have T1 := Lib.hid (trim_any wr (some ⟨g1, 0, none⟩) i capa cs s1.len s1.le s1.most s1.cells)
      have T2 := Lib.hid (trim_any wr (some ⟨g2, 0, none⟩) m capb (ds.take m) s2.len s2.le s2.most s2.cells)
      have E1 := Lib.hid e1
      have E2 := Lib.hid e2
      have R1 := Lib.hid r1
      have R2 := Lib.hid r2
      have L1 := Lib.hid s1.len
      have L2 := Lib.hid s2.len
      clear e1 e2 r1 r2 s1 s2
      go_wp2_with fail
      refine T1.out.mono ?_
      rintro e w4 ⟨rfl, rfl⟩
      go_wp2_with fail
      refine T2.out.mono ?_
      rintro e w5 ⟨rfl, rfl⟩
      go_wp2_with fail
      go_ret2
      have h1 : tl cs i = (trm cs).length := by rw [trm_length, L1.out]
      have h2 : tl (ds.take m) m = (trm (ds.take m)).length := by rw [trm_length, L2.out]
      have o1 := R1.out.trimmed (tl cs i) (tl_le _ _)
      have o2 := R2.out.trimmed (tl (ds.take m) m) (tl_le _ _)
      have t1 : cs.take (tl cs i) = trm cs := by rw [trm, L1.out]
      have t2 : (ds.take m).take (tl (ds.take m) m) = trm (ds.take m) := by rw [trm, L2.out]
      rw [t1, h1] at o1
      rw [t2, h2] at o2
      refine ⟨trm cs, trm (ds.take m), by rw [h1, h2]; rfl, o1, o2, trm_lim HT.out.limc, trm_lim (Lim_take HT.out.limd m), trm_top _, trm_top _, by rw [trm_val]; exact E1.out, by rw [trm_val]; exact E2.out, by rw [← h1]; exact tl_le _ _, by rw [← h2]; exact tl_le _ _, HT.out.fr⟩

theorem take_any (w : World) (Bb g1 g2 n m capa capb : Nat) (xs ys : List Int) (A B u0 v0 u1 v1 X Y : Nat) (odd : Bool) (ha : Own Bb w (some ⟨g1, 0, none⟩) n capa xs) (hb : Own Bb w (some ⟨g2, 0, none⟩) m capb ys) (hne : g1 ≠ g2) (lx : Lim xs) (ly : Lim ys)
    (hA : val xs = (A : Int)) (hB : val ys = (B : Int)) (hmn : m ≤ n) (hn : n ≤ 1073741824) (hs : Steps A B u0 v0 u1 v1 odd X Y) :
    Calls Tryz.prog 166 #[.agg #[.int .u64 (u0 : Int), .int .u64 (v0 : Int), .int .u64 (u1 : Int), .int .u64 (v1 : Int), .bool odd], .slice (some ⟨g1, 0, none⟩) n capa, .slice (some ⟨g2, 0, none⟩) m capb] w (RetTake w Bb g1 g2 n m capa capb X Y) := by
  cases odd
  · exact take_even w Bb g1 g2 n m capa capb xs ys A B u0 v0 u1 v1 X Y ha hb hne lx ly hA hB hmn hn hs
  · exact take_odd w Bb g1 g2 n m capa capb xs ys A B u0 v0 u1 v1 X Y ha hb hne lx ly hA hB hmn hn hs
end Go.Proofs.YtdfepdhflnnjpaaGreat
