/- QMath, Q1 in one text. -/
import Derived.Test.YtdfepdhflnnjpaaGreatNats
import Derived.Deep.DeepCutAuto
import Derived.Sort.AtCall
namespace Go.Proofs.YtdfepdhflnnjpaaGreat
open Go.RowKit
set_option autoImplicit false
set_option linter.unusedVariables false

/-- The numerator and the denominator of n/d in lowest terms. -/
def qn (n d : Int) : Int := (if d < 0 then -n else n).tdiv (Nat.gcd n.natAbs d.natAbs : Int)
def qd (n d : Int) : Int := (if d < 0 then -d else d).tdiv (Nat.gcd n.natAbs d.natAbs : Int)

/-- In lowest terms, with a denominator above 0. -/
def Low (n d : Int) : Prop := 0 < d ∧ Nat.gcd n.natAbs d.natAbs = 1

theorem low_one (n : Int) : Low n 1 := ⟨by omega, by simp⟩

theorem qn_low {n d : Int} (h : Low n d) : qn n d = n := by
  unfold qn
  rw [h.2, if_neg (by have := h.1; omega)]
  simp
theorem qd_low {n d : Int} (h : Low n d) : qd n d = d := by
  unfold qd
  rw [h.2, if_neg (by have := h.1; omega)]
  simp

theorem gcd_pos {n d : Int} (hd : d ≠ 0) : 0 < Nat.gcd n.natAbs d.natAbs := Nat.gcd_pos_of_pos_right _ (by omega)

theorem tdiv_natAbs_dvd {x : Int} {g : Nat} (hg : 0 < g) (h : g ∣ x.natAbs) : x.tdiv (g : Int) * (g : Int) = x :=
  Int.tdiv_mul_cancel (Int.natAbs_dvd_natAbs.1 (by simpa using h))

theorem qn_mul {n d : Int} (hd : d ≠ 0) : qn n d * (Nat.gcd n.natAbs d.natAbs : Int) = if d < 0 then -n else n := by
  unfold qn
  refine tdiv_natAbs_dvd (gcd_pos hd) ?_
  split
  · rw [Int.natAbs_neg]; exact Nat.gcd_dvd_left _ _
  · exact Nat.gcd_dvd_left _ _
theorem qd_mul {n d : Int} (hd : d ≠ 0) : qd n d * (Nat.gcd n.natAbs d.natAbs : Int) = if d < 0 then -d else d := by
  unfold qd
  refine tdiv_natAbs_dvd (gcd_pos hd) ?_
  split
  · rw [Int.natAbs_neg]; exact Nat.gcd_dvd_right _ _
  · exact Nat.gcd_dvd_right _ _

theorem low_q {n d : Int} (hd : d ≠ 0) : Low (qn n d) (qd n d) := by
  have hg := gcd_pos (n := n) hd
  have h1 := qn_mul (n := n) hd
  have h2 := qd_mul (n := n) hd
  have hpos : 0 < qd n d := by
    have h3 : 0 < qd n d * (Nat.gcd n.natAbs d.natAbs : Int) := by rw [h2]; split <;> omega
    exact Int.pos_of_mul_pos_left h3 (by omega)
  refine ⟨hpos, ?_⟩
  have h4 : (qn n d).natAbs * Nat.gcd n.natAbs d.natAbs = n.natAbs := by
    have := congrArg Int.natAbs h1
    rw [Int.natAbs_mul] at this
    simp only [Int.natAbs_natCast] at this
    rw [this]; split <;> simp
  have h5 : (qd n d).natAbs * Nat.gcd n.natAbs d.natAbs = d.natAbs := by
    have := congrArg Int.natAbs h2
    rw [Int.natAbs_mul] at this
    simp only [Int.natAbs_natCast] at this
    rw [this]; split <;> simp
  have h6 : Nat.gcd ((qn n d).natAbs * Nat.gcd n.natAbs d.natAbs) ((qd n d).natAbs * Nat.gcd n.natAbs d.natAbs) = Nat.gcd n.natAbs d.natAbs := by rw [h4, h5]
  rw [Nat.gcd_mul_right] at h6
  exact Nat.eq_of_mul_eq_mul_right hg (by rw [h6]; omega)

theorem low_neg {n d : Int} (h : Low n d) : Low (-n) d := ⟨h.1, by rw [Int.natAbs_neg]; exact h.2⟩
theorem low_abs {n d : Int} (h : Low n d) : Low (n.natAbs : Int) d := ⟨h.1, by simpa using h.2⟩
theorem low_inv {n d : Int} (h : Low n d) (hn : 0 < n) : Low d n := ⟨hn, by rw [Nat.gcd_comm]; exact h.2⟩

/-- A numerator in lowest terms has the sign that it had, with a denominator above 0. -/
theorem cmp_qn {n d : Int} (hd : 0 < d) : cmpI (qn n d) 0 = cmpI n 0 := by
  have hg := gcd_pos (n := n) (d := d) (by omega)
  have h1 := qn_mul (n := n) (d := d) (by omega)
  rw [if_neg (by omega)] at h1
  obtain ⟨q, hq⟩ : ∃ q, qn n d = q := ⟨_, rfl⟩
  obtain ⟨g, hgg⟩ : ∃ g : Int, (Nat.gcd n.natAbs d.natAbs : Int) = g := ⟨_, rfl⟩
  rw [hq, hgg] at h1
  rw [hq]
  have hg0 : 0 < g := by omega
  rcases Int.lt_trichotomy q 0 with h | h | h
  · have : q * g < 0 := Int.mul_neg_of_neg_of_pos h hg0
    unfold cmpI; rw [if_pos h, if_pos (by omega)]
  · subst h
    rw [Int.zero_mul] at h1
    rw [← h1]
  · have : 0 < q * g := Int.mul_pos h hg0
    rw [cmpI_gt h, cmpI_gt (show 0 < n by omega)]
theorem cmp_sub (a b : Int) : cmpI (a + -b) 0 = cmpI a b := by
  unfold cmpI
  by_cases h : a < b
  · rw [if_pos h, if_pos (by omega)]
  · rw [if_neg h, if_neg (by omega)]
    by_cases h2 : b < a
    · rw [if_pos h2, if_pos (by omega)]
    · rw [if_neg h2, if_neg (by omega)]
/-- What another sign decides. -/
theorem cmp_signs {n d m e : Int} (hd : 0 < d) (he : 0 < e) (h : cmpI n 0 < cmpI m 0) : cmpI (n * e) (m * d) = -1 := by
  have h1 : n * e < m * d := by
    unfold cmpI at h
    by_cases a : n < 0
    · have : n * e < 0 := Int.mul_neg_of_neg_of_pos a he
      by_cases b : m < 0
      · rw [if_pos a, if_pos b] at h; omega
      · have : 0 ≤ m * d := Int.mul_nonneg (by omega) (by omega)
        omega
    · rw [if_neg a] at h
      by_cases c : 0 < n
      · rw [if_pos c] at h
        split at h <;> (try split at h) <;> omega
      · have hn : n = 0 := by omega
        rw [if_neg c] at h
        have hm : 0 < m := by
          by_cases b : m < 0
          · rw [if_pos b] at h; omega
          · rw [if_neg b] at h
            by_cases b2 : 0 < m
            · exact b2
            · rw [if_neg b2] at h; omega
        have : 0 < m * d := Int.mul_pos hm hd
        rw [hn, Int.zero_mul]; exact this
  unfold cmpI
  rw [if_pos h1]
theorem cmp_signs' {n d m e : Int} (hd : 0 < d) (he : 0 < e) (h : cmpI m 0 < cmpI n 0) : cmpI (n * e) (m * d) = 1 := by
  have h1 := cmp_signs he hd h
  unfold cmpI at h1 ⊢
  split at h1
  · rw [if_neg (by omega), if_pos (by assumption)]
  · split at h1 <;> omega

theorem blk4 {w : World} {B : Nat} {a b c d : Value} {t : TypeId} (h : w.heap[B]? = some (.cells #[a, b, c, d] t (0, 0))) :
    w.cell? ⟨B, 0, none⟩ = some a ∧ w.cell? ⟨B, 1, none⟩ = some b ∧ w.cell? ⟨B, 2, none⟩ = some c ∧ w.cell? ⟨B, 3, none⟩ = some d :=
  ⟨cell_of_row w B 0 _ t (0, 0) h, cell_of_row w B 1 _ t (0, 0) h, cell_of_row w B 2 _ t (0, 0) h, cell_of_row w B 3 _ t (0, 0) h⟩

/-- The four cells of a fraction hold n/d in lowest terms; below stands x, which is d, or 0 for 1. -/
structure RatAt (w : World) (tn : Bool) (ta : Option Addr) (t tc : Nat) (zt : List Int) (bn : Bool) (ba : Option Addr) (b bc : Nat) (zb : List Int) (n x d : Int) : Prop where
  top : IntAt w tn ta t tc zt n
  bot : IntAt w bn ba b bc zb x
  den : x = d ∨ (x = 0 ∧ d = 1)
  low : Low n d

theorem RatAt.below {w w' : World} {tn : Bool} {ta : Option Addr} {t tc : Nat} {zt : List Int} {bn : Bool} {ba : Option Addr} {b bc : Nat} {zb : List Int} {n x d : Int} (h : RatAt w tn ta t tc zt bn ba b bc zb n x d) (hb : Below w.heap.size w w') :
    RatAt w' tn ta t tc zt bn ba b bc zb n x d := ⟨h.top.below hb, h.bot.below hb, h.den, h.low⟩

/-- A fraction was returned. -/
def RetRat (w : World) (n d : Int) (L M : Nat) (e : Ending) (w' : World) : Prop :=
  ∃ tn ta t tc zt bn ba b bc zb x, e = .returned (.agg #[.bool tn, .slice ta t tc, .bool bn, .slice ba b bc]) ∧ RatAt w' tn ta t tc zt bn ba b bc zb n x d ∧ t ≤ L ∧ b ≤ M ∧ Below w.heap.size w w'

theorem int_zeroQ (w : World) : IntAt w false none 0 0 [] 0 :=
  ⟨⟨rfl, Nat.le_refl _, by unfold maxLen; omega, fun _ => rfl, .inl rfl⟩, by intro z hz; simp at hz, .inl rfl, by intro h; simp at h, by simp [sgn, val]⟩

set_option maxRecDepth 100000 in
theorem qof_any (w : World) (tn : Bool) (ta : Option Addr) (t tc : Nat) (zt : List Int) (n : Int) (h : IntAt w tn ta t tc zt n) :
    Calls Tryz.prog 20 #[.agg #[.bool tn, .slice ta t tc]] w (RetRat w n 1 t 0) := by
  have H := Lib.hid h
  clear h
  go_enter Tryz.func20, Tryz.ntmps20
  go_wp2_with fail
  obtain ⟨k0, k1, k2, k3⟩ := blk4 (heap_alloc2 w (.cells #[.bool tn, .slice ta t tc] 31) (.cells #[.bool tn, .slice ta t tc, .bool false, .slice none 0 0] 38)).1
  have hb : Below w.heap.size w ((w.alloc (.cells #[.bool tn, .slice ta t tc] 31)).alloc (.cells #[.bool tn, .slice ta t tc, .bool false, .slice none 0 0] 38)) := by go_grown
  refine bodyPost_ret (v := .agg #[.bool tn, .slice ta t tc, .bool false, .slice none 0 0]) (by simp [results, Tryz.results20, go_sem, k0, k1, k2, k3]) rfl ?_
  exact ⟨_, _, _, _, _, _, _, _, _, _, _, rfl, ⟨H.out.below hb, int_zeroQ _, .inr ⟨rfl, rfl⟩, low_one n⟩, Nat.le_refl _, Nat.le_refl _, hb⟩

set_option maxRecDepth 100000 in
theorem den_any (w : World) (tn : Bool) (ta : Option Addr) (t tc : Nat) (zt : List Int) (bn : Bool) (ba : Option Addr) (b bc : Nat) (zb : List Int) (n x d : Int) (h : RatAt w tn ta t tc zt bn ba b bc zb n x d) :
    Calls Tryz.prog 67 #[.agg #[.bool tn, .slice ta t tc, .bool bn, .slice ba b bc]] w (RetInt w d (max b 2)) := by
  have HX : Hid (∀ w1, Below w.heap.size w w1 → IntAt w1 bn ba b bc zb x) := Lib.hid (fun w1 hb => h.bot.below hb)
  have hden := h.den
  have hpos := h.low.1
  clear h
  by_cases hx0 : x = 0
  · have hd1 : d = 1 := by
      rcases hden with h1 | h1
      · omega
      · exact h1.2
    subst hx0 hd1
    clear hden hpos
    go_enter Tryz.func67, Tryz.ntmps67
    go_wp2_with fail
    refine (sign_int _ _ _ _ _ _ 0 (HX.out _ (by go_grown))).mono ?_
    rintro e w2 ⟨rfl, b2⟩
    rw [cmpI_eq (rfl : (0 : Int) = 0)]
    have r1 := (b2.block (w.heap.size + 1) (by go_size)).trans (heap_alloc2 w _ _).1
    have b3 : Below w.heap.size w w2 := Below.trans (by go_grown) (b2.mono (by go_size))
    clear b2
    go_wp2_with fail
    refine (new_int _ 1 (by omega) (by omega)).mono ?_
    rintro e w3 ⟨s2, a2, m2, k2, z2, rfl, i2, g2, b4⟩
    have hl : w.heap.size + 1 < w2.heap.size := (Array.getElem?_eq_some_iff.1 r1).1
    have r2 := (b4.block (w.heap.size + 1) hl).trans r1
    obtain ⟨q0, q1, qf0, qf1⟩ := blk2 r2
    have HI := Lib.hid (i2.stored r2 (.bool s2) (.slice a2 m2 k2))
    have b5 := b3.trans (b4.mono b3.size)
    clear r1 r2 b3 b4 i2
    go_wp2_with fail
    refine bodyPost_ret (v := .agg #[.bool s2, .slice a2 m2 k2]) (by simp [results, Tryz.results67, go_sem, q0, q1]) rfl ?_
    exact ⟨_, _, _, _, _, rfl, HI.out, by omega, (b5.setCell (p := ⟨w.heap.size + 1, 0, none⟩) (by dsimp only; omega) _).setCell (p := ⟨w.heap.size + 1, 1, none⟩) (by dsimp only; omega) _⟩
  · have hxd : x = d := by
      rcases hden with h1 | h1
      · exact h1
      · exact absurd h1.1 hx0
    have hcz : (cmpI x 0 == 0) = false := by unfold cmpI; by_cases a1 : x < 0 <;> by_cases a2 : 0 < x <;> simp [a1, a2] <;> omega
    obtain ⟨c, hc⟩ : ∃ c, cmpI x 0 = c := ⟨_, rfl⟩
    rw [hc] at hcz
    have HC := Lib.hid hc
    subst hxd
    clear hc hden hx0
    go_enter Tryz.func67, Tryz.ntmps67
    go_wp2_with fail
    refine (sign_int _ _ _ _ _ _ x (HX.out _ (by go_grown))).mono ?_
    rintro e w2 ⟨rfl, b2⟩
    rw [HC.out]
    have r0 := (b2.block w.heap.size (by go_size)).trans (heap_alloc2 w _ _).2
    have r1 := (b2.block (w.heap.size + 1) (by go_size)).trans (heap_alloc2 w _ _).1
    obtain ⟨k0, k1, k2, k3⟩ := blk4 r0
    obtain ⟨q0, q1, qf0, qf1⟩ := blk2 r1
    have b3 : Below w.heap.size w w2 := Below.trans (by go_grown) (b2.mono (by go_size))
    have HI := Lib.hid ((HX.out _ b3).stored r1 (.bool bn) (.slice ba b bc))
    have hl : w.heap.size + 1 < w2.heap.size := World.block_lt_of_cell? _ _ q0
    clear r0 r1 b2 HC
    go_wp2_with fail
    refine bodyPost_ret (v := .agg #[.bool bn, .slice ba b bc]) (by simp [results, Tryz.results67, go_sem, q0, q1]) rfl ?_
    exact ⟨_, _, _, _, _, rfl, HI.out, Nat.le_max_left _ _, (b3.setCell (p := ⟨w.heap.size + 1, 0, none⟩) (by dsimp only; omega) _).setCell (p := ⟨w.heap.size + 1, 1, none⟩) (by dsimp only; omega) _⟩


set_option maxRecDepth 100000 in
theorem whole_any (w : World) (tn : Bool) (ta : Option Addr) (t tc : Nat) (zt : List Int) (bn : Bool) (ba : Option Addr) (b bc : Nat) (zb : List Int) (n x d : Int) (h : RatAt w tn ta t tc zt bn ba b bc zb n x d) :
    Calls Tryz.prog 22 #[.agg #[.bool tn, .slice ta t tc, .bool bn, .slice ba b bc]] w (RetV w (.bool (decide (d = 1)))) := by
  have H := Lib.hid h
  clear h
  obtain ⟨c, hc⟩ : ∃ c, cmpI d 1 = c := ⟨_, rfl⟩
  have HC := Lib.hid hc
  have hb : (c == 0) = decide (d = 1) := by
    rw [← hc]; unfold cmpI
    by_cases h1 : d < 1
    · simp [h1]; omega
    · by_cases h2 : 1 < d
      · simp [h1, h2]; omega
      · simp [h1, h2]; omega
  rw [← hb]
  clear hb hc
  go_enter Tryz.func22, Tryz.ntmps22
  go_wp2_with fail
  obtain ⟨w1, hw1⟩ : ∃ w1, w1 = w.alloc (.cells #[.bool tn, .slice ta t tc, .bool bn, .slice ba b bc] 38) := ⟨_, rfl⟩
  have b1 : Below w.heap.size w w1 := by rw [hw1]; go_grown
  rw [← hw1]
  clear hw1
  refine (den_any _ _ _ _ _ _ _ _ _ _ _ _ _ _ (H.out.below b1)).mono ?_
  rintro e w2 ⟨s1, a1, m1, k1, z1, rfl, i1, g1, b2⟩
  have I1 := Lib.hid i1
  have b3 := b1.trans (b2.mono b1.size)
  clear i1 b1 b2
  go_wp2_with fail
  refine (new_int _ 1 (by omega) (by omega)).mono ?_
  rintro e w3 ⟨s2, a2, m2, k2, z2, rfl, i2, g2, b4⟩
  have I2 := Lib.hid i2
  have I3 := Lib.hid (I1.out.below b4)
  have b5 := b3.trans (b4.mono b3.size)
  clear i2 b3 b4 I1
  go_wp2_with fail
  refine (cmp_int _ _ _ _ _ _ _ _ _ _ _ _ _ I3.out I2.out).mono ?_
  rintro e w4 ⟨rfl, b6⟩
  rw [HC.out]
  have b7 := b5.trans (b6.mono b5.size)
  clear b5 b6
  go_wp2_with fail
  go_ret
  exact ⟨rfl, b7⟩

set_option maxRecDepth 100000 in
theorem signq_any (w : World) (tn : Bool) (ta : Option Addr) (t tc : Nat) (zt : List Int) (bn : Bool) (ba : Option Addr) (b bc : Nat) (zb : List Int) (n x d : Int) (h : RatAt w tn ta t tc zt bn ba b bc zb n x d) :
    Calls Tryz.prog 24 #[.agg #[.bool tn, .slice ta t tc, .bool bn, .slice ba b bc]] w (RetV w (.int .i64 (cmpI n 0))) := by
  have H := Lib.hid h
  clear h
  go_enter Tryz.func24, Tryz.ntmps24
  go_wp2_with fail
  refine (sign_int _ _ _ _ _ _ n (H.out.top.below (by go_grown))).mono ?_
  rintro e w2 ⟨rfl, b2⟩
  have b3 : Below w.heap.size w w2 := Below.trans (by go_grown) (b2.mono (by go_size))
  clear b2
  go_wp2_with fail
  go_ret
  exact ⟨rfl, b3⟩


set_option maxRecDepth 100000 in
set_option maxHeartbeats 4000000 in
theorem cmpq_any (w : World) (tn : Bool) (ta : Option Addr) (t tc : Nat) (zt : List Int) (bn : Bool) (ba : Option Addr) (b bc : Nat) (zb : List Int) (n x d : Int) (ytn : Bool) (yta : Option Addr) (yt ytc : Nat) (yzt : List Int) (ybn : Bool) (yba : Option Addr) (yb ybc : Nat) (yzb : List Int) (m u f : Int) (h : RatAt w tn ta t tc zt bn ba b bc zb n x d) (hy : RatAt w ytn yta yt ytc yzt ybn yba yb ybc yzb m u f) (ht : t ≤ 100000) (hb : b ≤ 100000) (hyt : yt ≤ 100000) (hyb : yb ≤ 100000) :
    Calls Tryz.prog 26 #[.agg #[.bool tn, .slice ta t tc, .bool bn, .slice ba b bc], .agg #[.bool ytn, .slice yta yt ytc, .bool ybn, .slice yba yb ybc]] w (RetV w (.int .i64 (cmpI (n * f) (m * d)))) := by
  obtain ⟨c1, hc1⟩ : ∃ c, cmpI n 0 = c := ⟨_, rfl⟩
  obtain ⟨c2, hc2⟩ : ∃ c, cmpI m 0 = c := ⟨_, rfl⟩
  obtain ⟨r, hr⟩ : ∃ r, cmpI (n * f) (m * d) = r := ⟨_, rfl⟩
  have HL : Hid (c1 < c2 → r = -1) := Lib.hid (fun h0 => by rw [← hr]; exact cmp_signs h.low.1 hy.low.1 (by rw [hc1, hc2]; exact h0))
  have HG : Hid (c2 < c1 → r = 1) := Lib.hid (fun h0 => by rw [← hr]; exact cmp_signs' h.low.1 hy.low.1 (by rw [hc1, hc2]; exact h0))
  rw [hr]
  have HR := Lib.hid hr
  have H := Lib.hid h
  have HY := Lib.hid hy
  have HSX : Hid (∀ w1, Below w.heap.size w w1 → Calls Tryz.prog 24 #[.agg #[.bool tn, .slice ta t tc, .bool bn, .slice ba b bc]] w1 (RetV w1 (.int .i64 c1))) := Lib.hid (fun w1 hb => by rw [← hc1]; exact signq_any w1 _ _ _ _ _ _ _ _ _ _ n x d (h.below hb))
  have HSY : Hid (∀ w1, Below w.heap.size w w1 → Calls Tryz.prog 24 #[.agg #[.bool ytn, .slice yta yt ytc, .bool ybn, .slice yba yb ybc]] w1 (RetV w1 (.int .i64 c2))) := Lib.hid (fun w1 hb => by rw [← hc2]; exact signq_any w1 _ _ _ _ _ _ _ _ _ _ m u f (hy.below hb))
  clear h hy hc1 hc2 hr
  go_enter Tryz.func26, Tryz.ntmps26
  go_upto_region 1 with (fail)
  obtain ⟨w1, hw1⟩ : ∃ w1, w1 = (w.alloc (.cells #[.bool tn, .slice ta t tc, .bool bn, .slice ba b bc] 38)).alloc (.cells #[.bool ytn, .slice yta yt ytc, .bool ybn, .slice yba yb ybc] 38) := ⟨_, rfl⟩
  have hbw : Below w.heap.size w w1 := by rw [hw1]; go_grown
  have r0 : w1.heap[w.heap.size]? = some (.cells #[.bool tn, .slice ta t tc, .bool bn, .slice ba b bc] 38 (0, 0)) := by rw [hw1]; exact (heap_alloc2 w _ _).2
  have r1 : w1.heap[w.heap.size + 1]? = some (.cells #[.bool ytn, .slice yta yt ytc, .bool ybn, .slice yba yb ybc] 38 (0, 0)) := by rw [hw1]; exact (heap_alloc2 w _ _).1
  rw [← hw1]
  clear hw1
  obtain ⟨P, hP⟩ : ∃ P, P = w.heap.size := ⟨_, rfl⟩
  rw [← hP] at r0 r1 ⊢
  have l0 : P < w1.heap.size := (Array.getElem?_eq_some_iff.1 r0).1
  have l1 : P + 1 < w1.heap.size := (Array.getElem?_eq_some_iff.1 r1).1
  obtain ⟨x0, x1, x2, x3⟩ := blk4 r0
  obtain ⟨y0, y1, y2, y3⟩ := blk4 r1
  have HKP : Hid (∀ w', Below w1.heap.size w1 w' → w'.cell? ⟨P, 0, none⟩ = some (.bool tn) ∧ w'.cell? ⟨P, 1, none⟩ = some (.slice ta t tc) ∧ w'.cell? ⟨P, 2, none⟩ = some (.bool bn) ∧ w'.cell? ⟨P, 3, none⟩ = some (.slice ba b bc) ∧ w'.cell? ⟨P + 1, 0, none⟩ = some (.bool ytn) ∧ w'.cell? ⟨P + 1, 1, none⟩ = some (.slice yta yt ytc) ∧ w'.cell? ⟨P + 1, 2, none⟩ = some (.bool ybn) ∧ w'.cell? ⟨P + 1, 3, none⟩ = some (.slice yba yb ybc)) := Lib.hid (fun w' hb => ⟨(hb.cell (p := ⟨P, 0, none⟩) l0).trans x0, (hb.cell (p := ⟨P, 1, none⟩) l0).trans x1, (hb.cell (p := ⟨P, 2, none⟩) l0).trans x2, (hb.cell (p := ⟨P, 3, none⟩) l0).trans x3, (hb.cell (p := ⟨P + 1, 0, none⟩) l1).trans y0, (hb.cell (p := ⟨P + 1, 1, none⟩) l1).trans y1, (hb.cell (p := ⟨P + 1, 2, none⟩) l1).trans y2, (hb.cell (p := ⟨P + 1, 3, none⟩) l1).trans y3⟩)
  have HBW := Lib.hid hbw
  clear r0 r1 hbw hP
  go_region_held3 (fun w' => w'.cell? ⟨P, 0, none⟩ = some (.bool tn) ∧ w'.cell? ⟨P, 1, none⟩ = some (.slice ta t tc) ∧ w'.cell? ⟨P, 2, none⟩ = some (.bool bn) ∧ w'.cell? ⟨P, 3, none⟩ = some (.slice ba b bc) ∧ w'.cell? ⟨P + 1, 0, none⟩ = some (.bool ytn) ∧ w'.cell? ⟨P + 1, 1, none⟩ = some (.slice yta yt ytc) ∧ w'.cell? ⟨P + 1, 2, none⟩ = some (.bool ybn) ∧ w'.cell? ⟨P + 1, 3, none⟩ = some (.slice yba yb ybc)) ((first | exact HKP.out _ X2 | exact HKP.out _ X1 | exact HKP.out _ (Below.refl _ _).drew))
    (first | (go_at_call 24; have T2 := X1; clear T2; refine (HSY.out _ (HBW.out.trans (Below.mono X1 HBW.out.size))).mono ?_; rintro e v2 ⟨rfl, u2⟩; have X2 : Below w1.heap.size w1 v2 := X1.trans (u2.mono X1.size)) | (go_at_call 24; refine (HSX.out _ (HBW.out.trans (Below.mono (Below.refl _ _).drew HBW.out.size))).mono ?_; rintro e v1 ⟨rfl, u1⟩; have X1 : Below w1.heap.size w1 v1 := (Below.refl _ _).drew.trans u1))
  have B2 := Lib.hid (HBW.out.trans (X2.mono HBW.out.size))
  have HK2 : Hid (∀ w', Below v2.heap.size v2 w' → w'.cell? ⟨P, 0, none⟩ = some (.bool tn) ∧ w'.cell? ⟨P, 1, none⟩ = some (.slice ta t tc) ∧ w'.cell? ⟨P, 2, none⟩ = some (.bool bn) ∧ w'.cell? ⟨P, 3, none⟩ = some (.slice ba b bc) ∧ w'.cell? ⟨P + 1, 0, none⟩ = some (.bool ytn) ∧ w'.cell? ⟨P + 1, 1, none⟩ = some (.slice yta yt ytc) ∧ w'.cell? ⟨P + 1, 2, none⟩ = some (.bool ybn) ∧ w'.cell? ⟨P + 1, 3, none⟩ = some (.slice yba yb ybc)) := Lib.hid (fun w' hb => HKP.out w' (X2.trans (hb.mono X2.size)))
  clear HKP X1 X2 u1 u2 x0 x1 x2 x3 y0 y1 y2 y3
  by_cases e12 : c1 = c2
  · have hne : (c1 != c2) = false := by simp [e12]
    clear e12 HL HG HSX HSY
    go_wp2_with fail
    go_region_held3 (fun w' => w'.cell? ⟨P, 0, none⟩ = some (.bool tn) ∧ w'.cell? ⟨P, 1, none⟩ = some (.slice ta t tc) ∧ w'.cell? ⟨P, 2, none⟩ = some (.bool bn) ∧ w'.cell? ⟨P, 3, none⟩ = some (.slice ba b bc) ∧ w'.cell? ⟨P + 1, 0, none⟩ = some (.bool ytn) ∧ w'.cell? ⟨P + 1, 1, none⟩ = some (.slice yta yt ytc) ∧ w'.cell? ⟨P + 1, 2, none⟩ = some (.bool ybn) ∧ w'.cell? ⟨P + 1, 3, none⟩ = some (.slice yba yb ybc)) ((first | exact HK2.out _ Xc5 | exact HK2.out _ Xc4 | exact HK2.out _ Xc3 | exact HK2.out _ Xc2 | exact HK2.out _ Xc1 | exact HK2.out _ (Below.refl _ _).drew))
    (first | (go_at_call 63; have Tc5 := Xc4; clear Tc5; refine (cmp_int _ _ _ _ _ _ _ _ _ _ _ _ _ I2.out I4.out).mono ?_; rintro e vc5 ⟨rfl, uc5⟩; have Xc5 : Below v2.heap.size v2 vc5 := Xc4.trans (uc5.mono Xc4.size)) | (go_at_call 84; have Tc4 := Xc3; clear Tc4; refine (mul_int _ _ _ _ _ _ _ _ _ _ _ _ _ (HY.out.top.below (B2.out.trans (Below.mono Xc3 B2.out.size))) I3.out (by omega) (by omega)).mono ?_; rintro e vc4 ⟨s4, a4, m4, k4, z4, rfl, i4, g4, uc4⟩; have Xc4 : Below v2.heap.size v2 vc4 := Xc3.trans (uc4.mono Xc3.size); have I4 := Lib.hid i4; clear i4 I3; replace I2 := Lib.hid (I2.out.below uc4)) | (go_at_call 67; have Tc3 := Xc2; clear Tc3; refine (den_any _ _ _ _ _ _ _ _ _ _ _ n x d (H.out.below (B2.out.trans (Below.mono Xc2 B2.out.size)))).mono ?_; rintro e vc3 ⟨s3, a3, m3, k3, z3, rfl, i3, g3, uc3⟩; have Xc3 : Below v2.heap.size v2 vc3 := Xc2.trans (uc3.mono Xc2.size); have I3 := Lib.hid i3; clear i3; replace I2 := Lib.hid (I2.out.below uc3)) | (go_at_call 84; have Tc2 := Xc1; clear Tc2; refine (mul_int _ _ _ _ _ _ _ _ _ _ _ _ _ (H.out.top.below (B2.out.trans (Below.mono Xc1 B2.out.size))) I1.out (by omega) (by omega)).mono ?_; rintro e vc2 ⟨s2, a2, m2, k2, z2, rfl, i2, g2, uc2⟩; have Xc2 : Below v2.heap.size v2 vc2 := Xc1.trans (uc2.mono Xc1.size); have I2 := Lib.hid i2; clear i2 I1) | (go_at_call 67; refine (den_any _ _ _ _ _ _ _ _ _ _ _ m u f (HY.out.below (B2.out.trans (Below.mono (Below.refl _ _).drew B2.out.size)))).mono ?_; rintro e vc1 ⟨s1, a1, m1, k1, z1, rfl, i1, g1, uc1⟩; have Xc1 : Below v2.heap.size v2 vc1 := (Below.refl _ _).drew.trans uc1; have I1 := Lib.hid i1; clear i1))
    go_wp2_with fail
    go_ret
    exact ⟨by rw [HR.out]; rfl, B2.out.trans (Xc5.mono B2.out.size)⟩
  · have hne : (c1 != c2) = true := by simp [e12]
    go_wp2_with fail
    go_region_held3 (fun w' => w'.cell? ⟨P, 0, none⟩ = some (.bool tn) ∧ w'.cell? ⟨P, 1, none⟩ = some (.slice ta t tc) ∧ w'.cell? ⟨P, 2, none⟩ = some (.bool bn) ∧ w'.cell? ⟨P, 3, none⟩ = some (.slice ba b bc) ∧ w'.cell? ⟨P + 1, 0, none⟩ = some (.bool ytn) ∧ w'.cell? ⟨P + 1, 1, none⟩ = some (.slice yta yt ytc) ∧ w'.cell? ⟨P + 1, 2, none⟩ = some (.bool ybn) ∧ w'.cell? ⟨P + 1, 3, none⟩ = some (.slice yba yb ybc)) ((first | exact HK2.out _ Xd2 | exact HK2.out _ Xd1 | exact HK2.out _ (Below.refl _ _).drew))
    (first | (go_at_call 24; have Td2 := Xd1; clear Td2; refine (HSY.out _ (B2.out.trans (Below.mono Xd1 B2.out.size))).mono ?_; rintro e vd2 ⟨rfl, ud2⟩; have Xd2 : Below v2.heap.size v2 vd2 := Xd1.trans (ud2.mono Xd1.size)) | (go_at_call 24; refine (HSX.out _ (B2.out.trans (Below.mono (Below.refl _ _).drew B2.out.size))).mono ?_; rintro e vd1 ⟨rfl, ud1⟩; have Xd1 : Below v2.heap.size v2 vd1 := (Below.refl _ _).drew.trans ud1))
    by_cases e3 : c1 < c2
    · go_wp2_with fail
      go_ret
      exact ⟨by rw [HL.out e3]; rfl, B2.out.trans (Xd2.mono B2.out.size)⟩
    · have e4 : c2 < c1 := by omega
      go_wp2_with fail
      go_ret
      exact ⟨by rw [HG.out e4]; rfl, B2.out.trans (Xd2.mono B2.out.size)⟩
end Go.Proofs.YtdfepdhflnnjpaaGreat
