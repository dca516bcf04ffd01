/- GcdMath, Frame, Gcd1, Gcd2, Gcd3 in one text. -/
import Derived.WalkKit
import Derived.Below
import Derived.Laws.AppendOwn
import Derived.Laws.OwnMore
import Derived.Lib.Hide
import Derived.Test.YtdfepdhflnnjpaaGreatLongs
import Derived.Laws.BitsAllLaws
import Derived.IntWalk
import Derived.WalkSmall
import Derived.Deep.QuietTactic
import Derived.BigQuiet
import Derived.Deep.RegionLaw
namespace Go.Proofs.YtdfepdhflnnjpaaGreat
open Go.RowKit
set_option autoImplicit false
set_option linter.unusedVariables false

/-- The head of the loop: the remainders x and y of x0 and y0, with their cofactors; s is 1 or -1. -/
structure Euc (x0 y0 x y u1 v1 u2 v2 : Nat) (s : Int) : Prop where
  le : y ≤ x
  hx : (x : Int) = s * ((u1 : Int) * x0 - v1 * y0)
  hy : (y : Int) = s * ((v2 : Int) * y0 - u2 * x0)
  a0 : x * v2 + y * v1 = x0
  b0 : x * u2 + y * u1 = y0
  det : (u1 : Int) * v2 - (v1 : Int) * u2 = s
  sgn : s = 1 ∨ s = -1
  uv2 : u2 ≤ v2
  uv : u1 + u2 ≤ v1 + v2
  u : 1 ≤ u1 + u2
  v : 1 ≤ v2
  two : v1 = 0 ∨ 1 ≤ u2
  mv : v1 ≤ v2
  mu : u1 ≤ v2

theorem Euc.start {x0 y0 : Nat} (h : y0 ≤ x0) : Euc x0 y0 x0 y0 1 0 0 1 1 :=
  ⟨h, by simp, by simp, by simp, by simp, by simp, .inl rfl, by omega, by omega, by omega, by omega, .inl rfl, by omega, by omega⟩

theorem Euc.step {x0 y0 x y u1 v1 u2 v2 : Nat} {s : Int} (h : Euc x0 y0 x y u1 v1 u2 v2 s) (hy : 1 ≤ y) : Euc x0 y0 y (x % y) u2 v2 (u1 + x / y * u2) (v1 + x / y * v2) (-s) := by
  have hdm := Nat.div_add_mod x y
  have hq : 1 ≤ x / y := Nat.div_pos h.le (by omega)
  obtain ⟨q, hq'⟩ : ∃ q, x / y = q := ⟨_, rfl⟩
  obtain ⟨r, hr'⟩ : ∃ r, x % y = r := ⟨_, rfl⟩
  have hrl : r < y := by rw [← hr']; exact Nat.mod_lt _ (by omega)
  rw [hq', hr'] at hdm
  rw [hq'] at hq
  rw [hq', hr']
  have hxI : (x : Int) = q * y + r := by rw [← hdm]; push_cast; grind
  have hqu : u2 ≤ q * u2 := Nat.le_mul_of_pos_left _ hq
  have hqv : v2 ≤ q * v2 := Nat.le_mul_of_pos_left _ hq
  obtain ⟨p, rfl⟩ : ∃ p, q = p + 1 := ⟨q - 1, by omega⟩
  have hpu : p * u2 ≤ p * v2 := Nat.mul_le_mul_left _ h.uv2
  have e1 : (p + 1) * u2 = p * u2 + u2 := Nat.succ_mul ..
  have e2 : (p + 1) * v2 = p * v2 + v2 := Nat.succ_mul ..
  have h1 := h.hx
  have h2 := h.hy
  have h3 := h.det
  have h4 := h.uv
  have h5 := h.u
  have h6 := h.uv2
  refine ⟨by omega, by rw [h2]; grind, ?_, ?_, ?_, ?_, by rcases h.sgn with g | g <;> simp [g], by omega, by omega, by omega, by omega, .inr (by omega), by omega, by omega⟩
  · have : (r : Int) = x - ((p + 1 : Nat) : Int) * y := by omega
    rw [this, h1, h2]
    push_cast
    grind
  · rw [← h.a0, ← hdm]
    grind
  · rw [← h.b0, ← hdm]
    grind
  · push_cast
    grind

/-- The condition at the head: the whole numbers' remainders are in order. -/
theorem Euc.whole {x0 y0 x y u1 v1 u2 v2 : Nat} {s : Int} (h : Euc x0 y0 x y u1 v1 u2 v2 s) (c1 : v2 ≤ y) (c2 : v1 + v2 ≤ x - y) {A B E a b : Nat} (hA : A = x0 * E + a) (hB : B = y0 * E + b) (ha : a < E) (hb : b < E) :
    ∃ X Y : Nat, (X : Int) = s * ((u1 : Int) * A - v1 * B) ∧ (Y : Int) = s * ((v2 : Int) * B - u2 * A) ∧ 0 < Y ∧ Y < X ∧ v2 * X + v1 * Y = A ∧ u2 * X + u1 * Y = B := by
  have h1 := h.hx
  have h2 := h.hy
  obtain ⟨Xi, hXi⟩ : ∃ Xi : Int, Xi = s * ((u1 : Int) * A - v1 * B) := ⟨_, rfl⟩
  obtain ⟨Yi, hYi⟩ : ∃ Yi : Int, Yi = s * ((v2 : Int) * B - u2 * A) := ⟨_, rfl⟩
  have hX2 : Xi = x * E + s * ((u1 : Int) * a - v1 * b) := by rw [hXi, h1, hA, hB]; push_cast; grind
  have hY2 : Yi = y * E + s * ((v2 : Int) * b - u2 * a) := by rw [hYi, h2, hA, hB]; push_cast; grind
  have hEy : (v2 : Int) * E ≤ y * E := Int.mul_le_mul_of_nonneg_right (by omega) (by omega)
  have hEx : ((v1 : Int) + v2) * E ≤ ((x : Int) - y) * E := Int.mul_le_mul_of_nonneg_right (by have := h.le; omega) (by omega)
  have n1 : (0 : Int) ≤ u1 * a := Int.mul_nonneg (by omega) (by omega)
  have n2 : (0 : Int) ≤ u2 * a := Int.mul_nonneg (by omega) (by omega)
  have n3 : (0 : Int) ≤ v1 * b := Int.mul_nonneg (by omega) (by omega)
  have n4 : (0 : Int) ≤ v2 * b := Int.mul_nonneg (by omega) (by omega)
  have m2 : (u2 : Int) * a ≤ u2 * E := Int.mul_le_mul_of_nonneg_left (by omega) (by omega)
  have m4 : (v2 : Int) * b < v2 * E := Int.mul_lt_mul_of_pos_left (by omega) (by have := h.v; omega)
  have m24 : (u2 : Int) * E ≤ v2 * E := Int.mul_le_mul_of_nonneg_right (by have := h.uv2; omega) (by omega)
  have mv : ((v1 : Int) + v2) * b < ((v1 : Int) + v2) * E := Int.mul_lt_mul_of_pos_left (by omega) (by have := h.v; omega)
  have mu : ((u1 : Int) + u2) * a < ((u1 : Int) + u2) * E := Int.mul_lt_mul_of_pos_left (by omega) (by have := h.u; omega)
  have muv : ((u1 : Int) + u2) * E ≤ ((v1 : Int) + v2) * E := Int.mul_le_mul_of_nonneg_right (by have := h.uv; omega) (by omega)
  have hY0 : 0 < Yi := by
    rcases h.sgn with g | g
    · rw [hY2, g]
      rcases Nat.eq_zero_or_pos u2 with hu | hu
      · rw [hu]
        have : (0 : Int) < v2 * E := Int.mul_pos (by have := h.v; omega) (by omega)
        simp
        omega
      · have : (u2 : Int) * a < u2 * E := Int.mul_lt_mul_of_pos_left (by omega) (by omega)
        omega
    · rw [hY2, g]; omega
  have hXY : Yi < Xi := by
    rcases h.sgn with g | g
    · rw [hX2, hY2, g]
      grind
    · rw [hX2, hY2, g]
      grind
  obtain ⟨X, rfl⟩ := Int.eq_ofNat_of_zero_le (show 0 ≤ Xi by omega)
  obtain ⟨Y, rfl⟩ := Int.eq_ofNat_of_zero_le (show 0 ≤ Yi by omega)
  have hd := h.det
  have ss : s * s = 1 := by rcases h.sgn with g | g <;> rw [g] <;> rfl
  refine ⟨X, Y, hXi, hYi, by omega, by omega, ?_, ?_⟩
  · have : (v2 : Int) * X + v1 * Y = A := by
      rw [hXi, hYi]
      have e : (v2 : Int) * (s * ((u1 : Int) * A - v1 * B)) + v1 * (s * ((v2 : Int) * B - u2 * A)) = s * ((u1 : Int) * v2 - (v1 : Int) * u2) * A := by grind
      rw [e, hd, ss, Int.one_mul]
    exact_mod_cast this
  · have : (u2 : Int) * X + u1 * Y = B := by
      rw [hXi, hYi]
      have e : (u2 : Int) * (s * ((u1 : Int) * A - v1 * B)) + u1 * (s * ((v2 : Int) * B - u2 * A)) = s * ((u1 : Int) * v2 - (v1 : Int) * u2) * B := by grind
      rw [e, hd, ss, Int.one_mul]
    exact_mod_cast this

/-- Whole steps keep the greatest common divisor. -/
theorem whole_gcd {X Y A B u1 v1 u2 v2 : Nat} {s : Int} (hX : (X : Int) = s * ((u1 : Int) * A - v1 * B)) (hY : (Y : Int) = s * ((v2 : Int) * B - u2 * A)) (hA : v2 * X + v1 * Y = A) (hB : u2 * X + u1 * Y = B) : Nat.gcd X Y = Nat.gcd A B := by
  apply Nat.dvd_antisymm
  · apply Nat.dvd_gcd
    · rw [← hA]
      exact Nat.dvd_add (Nat.dvd_trans (Nat.gcd_dvd_left _ _) (Nat.dvd_mul_left _ _)) (Nat.dvd_trans (Nat.gcd_dvd_right _ _) (Nat.dvd_mul_left _ _))
    · rw [← hB]
      exact Nat.dvd_add (Nat.dvd_trans (Nat.gcd_dvd_left _ _) (Nat.dvd_mul_left _ _)) (Nat.dvd_trans (Nat.gcd_dvd_right _ _) (Nat.dvd_mul_left _ _))
  · apply Nat.dvd_gcd
    · have h : ((Nat.gcd A B : Nat) : Int) ∣ (X : Int) := by
        rw [hX]
        exact Int.dvd_trans (Int.dvd_sub (Int.dvd_trans (Int.natCast_dvd_natCast.2 (Nat.gcd_dvd_left A B)) (Int.dvd_mul_left _ _)) (Int.dvd_trans (Int.natCast_dvd_natCast.2 (Nat.gcd_dvd_right A B)) (Int.dvd_mul_left _ _))) (Int.dvd_mul_left _ _)
      exact Int.natCast_dvd_natCast.1 h
    · have h : ((Nat.gcd A B : Nat) : Int) ∣ (Y : Int) := by
        rw [hY]
        exact Int.dvd_trans (Int.dvd_sub (Int.dvd_trans (Int.natCast_dvd_natCast.2 (Nat.gcd_dvd_right A B)) (Int.dvd_mul_left _ _)) (Int.dvd_trans (Int.natCast_dvd_natCast.2 (Nat.gcd_dvd_left A B)) (Int.dvd_mul_left _ _))) (Int.dvd_mul_left _ _)
      exact Int.natCast_dvd_natCast.1 h

/-- The condition bounds the factors. -/
theorem Euc.small {x0 y0 x y u1 v1 u2 v2 : Nat} {s : Int} (h : Euc x0 y0 x y u1 v1 u2 v2 s) (c1 : v2 ≤ y) (hx0 : x0 < 18446744073709551616) : v2 < 4294967296 := by
  have h1 : v2 * v2 ≤ x * v2 := Nat.mul_le_mul_right _ (Nat.le_trans c1 h.le)
  have h2 := h.a0
  by_cases hh : v2 < 4294967296
  · exact hh
  · have : 4294967296 * 4294967296 ≤ v2 * v2 := Nat.mul_le_mul (by omega) (by omega)
    omega

/-- No product or sum of the loop is too large. -/
theorem Euc.fits {x0 y0 x y u1 v1 u2 v2 : Nat} {s : Int} (h : Euc x0 y0 x y u1 v1 u2 v2 s) (hx : 1 ≤ x) : v2 ≤ x0 ∧ u2 ≤ y0 ∧ (1 ≤ y → v1 ≤ x0 ∧ u1 ≤ y0) := by
  have h1 := h.a0
  have h2 := h.b0
  have h3 : v2 ≤ x * v2 := Nat.le_mul_of_pos_left _ hx
  have h4 : u2 ≤ x * u2 := Nat.le_mul_of_pos_left _ hx
  refine ⟨by omega, by omega, fun hy => ?_⟩
  have h5 : v1 ≤ y * v1 := Nat.le_mul_of_pos_left _ hy
  have h6 : u1 ≤ y * u1 := Nat.le_mul_of_pos_left _ hy
  exact ⟨by omega, by omega⟩

set_option maxHeartbeats 1000000
set_option linter.unusedVariables false

/-- What was there stays, but for the blocks of ks. -/
structure Frame (ks : List (Option Nat)) (w w' : World) : Prop where
  os : w'.os = w.os
  tape : w'.tape = w.tape
  output : w'.output = w.output
  size : w.heap.size ≤ w'.heap.size
  block : ∀ k, k < w.heap.size → some k ∉ ks → w'.heap[k]? = w.heap[k]?

theorem Frame.refl (ks : List (Option Nat)) (w : World) : Frame ks w w := ⟨rfl, rfl, rfl, Nat.le_refl _, fun _ _ _ => rfl⟩

theorem Frame.trans {ks ls : List (Option Nat)} {a b c : World} (h : Frame ks a b) (k : Frame ls b c) (hs : ∀ k, k < a.heap.size → some k ∈ ls → some k ∈ ks) : Frame ks a c :=
  ⟨k.os.trans h.os, k.tape.trans h.tape, k.output.trans h.output, Nat.le_trans h.size k.size, fun i hi hn => (k.block i (Nat.lt_of_lt_of_le hi h.size) (fun hm => hn (hs i hi hm))).trans (h.block i hi hn)⟩

theorem Frame.mono {ks ls : List (Option Nat)} {w w' : World} (h : Frame ks w w') (hs : ∀ k, k < w.heap.size → some k ∈ ks → some k ∈ ls) : Frame ls w w' := ⟨h.os, h.tape, h.output, h.size, fun k hk hn => h.block k hk (fun hm => hn (hs k hk hm))⟩

theorem Frame.ofBelow {B : Nat} {ks : List (Option Nat)} {w w' : World} (h : Below B w w') (hB : w.heap.size ≤ B) : Frame ks w w' := ⟨h.os, h.tape, h.output, h.size, fun k hk _ => h.block k (Nat.lt_of_lt_of_le hk hB)⟩

theorem Frame.below {ks : List (Option Nat)} {w w' : World} (h : Frame ks w w') (B : Nat) (hB : B ≤ w.heap.size) (hk : ∀ k, some k ∈ ks → B ≤ k) : Below B w w' :=
  ⟨h.os, h.tape, h.output, h.size, fun k hlt => h.block k (by omega) (fun hm => by have := hk k hm; omega)⟩

theorem Frame.alloc {ks : List (Option Nat)} {a w : World} (h : Frame ks a w) (o : Obj) : Frame ks a (w.alloc o) :=
  h.trans (Frame.ofBelow (B := w.heap.size) (ks := []) ((Below.refl _ _).alloc (Nat.le_refl _) _) (Nat.le_refl _)) (by simp)

theorem Frame.setCell {ks : List (Option Nat)} {a w : World} (h : Frame ks a w) {p : Addr} (hp : some p.block ∈ ks) (u : Value) : Frame ks a (w.setCell p u) :=
  h.trans (ls := [some p.block]) ⟨rfl, rfl, rfl, by simp, fun k hk hn => Below.heap_setCell _ _ _ _ (by simpa using hn)⟩ (by intro k _ hm; simp at hm; subst hm; exact hp)

theorem Frame.drew {ks : List (Option Nat)} {a w : World} (h : Frame ks a w) : Frame ks a w.drew := ⟨h.os, h.tape, h.output, h.size, h.block⟩

theorem row_frame {ks : List (Option Nat)} {w w' : World} {base : Nat} {e : TypeId} {s : Nat} {v : Value} {n : Nat} {xs : List Value} (h : Frame ks w w') (hr : w.ownsRow base e s v n xs) (hne : ∀ k, v.ownBlock = some k → some k ∉ ks) : w'.ownsRow base e s v n xs := by
  refine ⟨hr.1, ?_⟩
  rcases hr.2 with h1 | ⟨g, cap, cur, rfl, hbg, hg, h2⟩
  · exact .inl h1
  · have hlt : g < w.heap.size := (Array.getElem?_eq_some_iff.1 hg).1
    exact .inr ⟨g, cap, cur, rfl, hbg, (h.block g hlt (hne g rfl)).trans hg, h2⟩

theorem frame_set (w : World) (b o : Nat) (v : Value) : Frame [some b] w (w.setCell ⟨b, o, none⟩ v) := (Frame.refl _ _).setCell (by simp) _

set_option maxHeartbeats 1000000
set_option linter.unusedVariables false

theorem val_three (l : List Int) (h : l.length ≤ 3) : val l = l.getD 0 0 + 4294967296 * (l.getD 1 0 + 4294967296 * l.getD 2 0) := by
  match l, h with
  | [], _ => simp [val]
  | [a], _ => simp [val]
  | [a, b], _ => simp [val]
  | [a, b, c], _ => simp [val]
  | a :: b :: c :: d :: r, h => simp at h

theorem getD_drop' (zs : List Int) (n i : Nat) : (zs.drop n).getD i 0 = zs.getD (n + i) 0 := by simp [List.getD, List.getElem?_drop]

theorem val_top3 {zs : List Int} (lz : Lim zs) (n : Nat) (h : zs.length ≤ n + 3) :
    ∃ r, 0 ≤ r ∧ r < 4294967296 ^ n ∧ val zs = r + 4294967296 ^ n * (zs.getD n 0 + 4294967296 * (zs.getD (n + 1) 0 + 4294967296 * zs.getD (n + 2) 0)) := by
  refine ⟨val (zs.take n), val_nonneg (Lim_take lz n), ?_, ?_⟩
  · have h1 := val_lt (Lim_take lz n)
    have h2 := pow_le (show (zs.take n).length ≤ n by simp; omega)
    omega
  · rw [val_split zs n]
    by_cases hn : n ≤ zs.length
    · have e : (zs.take n).length = n := by simp; omega
      have h3 := val_three (zs.drop n) (by simp; omega)
      rw [getD_drop', getD_drop', getD_drop', Nat.add_zero] at h3
      rw [e, h3]
    · rw [getD_ge (by omega), getD_ge (by omega), getD_ge (by omega), List.drop_eq_nil_of_le (by omega)]
      simp [val]

/-- The top 64 bits of a number that is moved up by s. -/
theorem window_val {zs : List Int} (lz : Lim zs) (n s : Nat) (hs : s ≤ 31) (h : zs.length ≤ n + 3) (hv : val zs < 4294967296 ^ n * 2 ^ (96 - s)) :
    (zs.getD (n + 2) 0 * 4294967296 + zs.getD (n + 1) 0) * 2 ^ s + zs.getD n 0 / 2 ^ (32 - s) = val zs / (4294967296 ^ n * 2 ^ (32 - s)) ∧
      (zs.getD (n + 2) 0 * 4294967296 + zs.getD (n + 1) 0) * 2 ^ s < 18446744073709551616 := by
  obtain ⟨r, r0, r1, e⟩ := val_top3 lz n h
  have g0 := Lim_getD lz n
  have g1 := Lim_getD lz (n + 1)
  have g2 := Lim_getD lz (n + 2)
  obtain ⟨a, ha⟩ : ∃ a, zs.getD n 0 = a := ⟨_, rfl⟩
  obtain ⟨b, hb⟩ : ∃ b, zs.getD (n + 1) 0 = b := ⟨_, rfl⟩
  obtain ⟨c, hc⟩ : ∃ c, zs.getD (n + 2) 0 = c := ⟨_, rfl⟩
  obtain ⟨P, hP⟩ : ∃ P : Int, (4294967296 : Int) ^ n = P := ⟨_, rfl⟩
  have hP0 : 0 < P := by rw [← hP]; exact pow_pos n
  rw [ha, hb, hc, hP] at e
  rw [ha] at g0
  rw [hb] at g1
  rw [hc] at g2
  rw [hP] at r1 hv
  rw [ha, hb, hc, hP]
  obtain ⟨S, hS⟩ : ∃ S : Int, (2 : Int) ^ s = S := ⟨_, rfl⟩
  obtain ⟨D, hD⟩ : ∃ D : Int, (2 : Int) ^ (32 - s) = D := ⟨_, rfl⟩
  have hSD : S * D = 4294967296 := by rw [← hS, ← hD, ← Int.pow_add, show s + (32 - s) = 32 by omega]; rfl
  have hD0 : 0 < D := by rw [← hD]; exact Int.pow_pos (by omega)
  have hS0 : 0 < S := by rw [← hS]; exact Int.pow_pos (by omega)
  have h96 : (2 : Int) ^ (96 - s) = 18446744073709551616 * D := by
    rw [← hD, show 96 - s = 64 + (32 - s) by omega, Int.pow_add]; rfl
  rw [hS, hD]
  have q : val zs / (P * D) = (a + 4294967296 * (b + 4294967296 * c)) / D := by
    rw [← Int.ediv_ediv_of_nonneg (Int.le_of_lt hP0), e, Int.add_mul_ediv_left _ _ (by omega), Int.ediv_eq_zero_of_lt r0 r1, Int.zero_add]
  constructor
  · rw [q]
    have e2 : a + 4294967296 * (b + 4294967296 * c) = a + D * ((c * 4294967296 + b) * S) := by
      rw [← hSD]; grind
    rw [e2, Int.add_mul_ediv_left _ _ (by omega), Int.add_comm]
  · rw [h96] at hv
    have h1 : P * (a + 4294967296 * (b + 4294967296 * c)) < P * (18446744073709551616 * D) := by omega
    have h2 := Int.lt_of_mul_lt_mul_left h1 (Int.le_of_lt hP0)
    have e2 : a + 4294967296 * (b + 4294967296 * c) = a + D * ((c * 4294967296 + b) * S) := by
      rw [← hSD]; grind
    rw [e2] at h2
    have h3 : D * ((c * 4294967296 + b) * S) < D * 18446744073709551616 := by
      rw [Int.mul_comm D 18446744073709551616]; omega
    exact Int.lt_of_mul_lt_mul_left h3 (Int.le_of_lt hD0)

theorem words_gcd (w : World) (a b : Nat) (ha : a < 18446744073709551616) (hb : b < 18446744073709551616) :
    Calls Tryz.prog 167 #[.int .u64 (a : Int), .int .u64 (b : Int)] w (RetQ w (.int .u64 (Nat.gcd a b : Int))) := by
  obtain ⟨G, hG⟩ : ∃ G, Nat.gcd a b = G := ⟨_, rfl⟩
  have HG := Lib.hid hG
  rw [hG]
  clear hG
  go_enter Tryz.func167, Tryz.ntmps167
  go_wp2_with fail
  go_loopw [0, 1] (fun p q wr => ∃ x y : Nat, p = .int .u64 (x : Int) ∧ q = .int .u64 (y : Int) ∧ x < 18446744073709551616 ∧ y < 18446744073709551616 ∧ Nat.gcd x y = G ∧ ∃ k, wr = w.drewN k) (fun _ q _ => (intOf q).toNat)
  case atStart => exact ⟨a, b, rfl, rfl, ha, hb, HG.out, 0, rfl⟩
  case round =>
    obtain ⟨x, y, rfl, rfl, hx, hy, hg, k, rfl⟩ := hrel
    have HG2 := Lib.hid hg
    clear hg
    rcases Nat.eq_zero_or_pos y with h0 | h0
    · subst h0
      have hx0 : x = G := by have := HG2.out; rwa [Nat.gcd_zero_right] at this
      subst hx0
      go_wp2_with fail
      go_ret
      exact ⟨rfl, _, rfl⟩
    · have hy0 : (0 : Int) < (y : Int) := by omega
      have hy1 : ((y : Int) == 0) = false := by simp; omega
      obtain ⟨r, hr⟩ : ∃ r, x % y = r := ⟨_, rfl⟩
      have hrl : r < y := by rw [← hr]; exact Nat.mod_lt _ h0
      have hm : (x : Int).tmod (y : Int) = (r : Int) := by rw [Int.tmod_eq_emod_of_nonneg (by omega), ← hr]; rfl
      have hm2 : (x : Int) % (y : Int) = (r : Int) := by rw [← hr]; rfl
      have HR := Lib.hid hr
      clear hr
      go_wp2_with fail
      go_quiet (fail)
      go_wp2_with fail
      go_roundw
      case rel => exact ⟨y, r, rfl, rfl, hy, by omega, by rw [← HR.out, Nat.gcd_comm, ← Nat.gcd_rec, Nat.gcd_comm]; exact HG2.out, _, by first | rfl | (rw [World.drewN_drewN])⟩
      case measure => simp [intOf]; omega

theorem window_or {T a : Int} {s : Nat} (hs : s ≤ 31) (a0 : 0 ≤ a) (a1 : a ≤ 4294967295) (t0 : 0 ≤ T) (h : T * 2 ^ s < 18446744073709551616) :
    bits .or .u64 (IntKind.u64.wrap (T * 2 ^ s)) (a / 2 ^ (32 - s)) = T * 2 ^ s + a / 2 ^ (32 - s) := by
  obtain ⟨t, rfl⟩ := Int.eq_ofNat_of_zero_le t0
  obtain ⟨d, rfl⟩ := Int.eq_ofNat_of_zero_le a0
  have e1 : (t : Int) * 2 ^ s = ((t * 2 ^ s : Nat) : Int) := by push_cast; rfl
  have e2 : (d : Int) / 2 ^ (32 - s) = ((d / 2 ^ (32 - s) : Nat) : Int) := by push_cast; rfl
  have hd : d / 2 ^ (32 - s) < 2 ^ s := by
    rw [Nat.div_lt_iff_lt_mul (Nat.two_pow_pos _), ← Nat.pow_add, show s + (32 - s) = 32 by omega]
    omega
  have hp : 2 ^ s ≤ 2 ^ 31 := Nat.pow_le_pow_right (by omega) hs
  have hw : IntKind.u64.wrap ((t * 2 ^ s : Nat) : Int) = ((t * 2 ^ s : Nat) : Int) := by
    simp only [IntKind.wrap, IntKind.bits, IntKind.signed]
    rw [e1] at h
    simp
    push_cast at h ⊢
    rw [Int.emod_eq_of_lt (Int.mul_nonneg (by omega) (Int.le_of_lt (Int.pow_pos (by omega)))) (by omega)]
  rw [e1] at h
  rw [e1, e2, hw, u64_or_nat _ _ (by omega) (by omega), nat_join s (t * 2 ^ s) _ (Nat.mul_mod_left _ _) hd]
  omega

theorem window_any (w : World) (ao : Option Addr) (n cap : Nat) (zs : List Int) (N s M : Nat) (hM : M = N + 3) (h : Sl w ao n cap zs) (lz : Lim zs) (hs : s ≤ 31) (hn : n ≤ N + 3) (hN : N ≤ 1073741824) (hv : val zs < 4294967296 ^ N * 2 ^ (96 - s)) :
    Calls Tryz.prog 178 #[.slice ao n cap, .int .i64 (M : Int), .int .i64 (s : Int)] w (RetQ w (.int .u64 (val zs / (4294967296 ^ N * 2 ^ (32 - s))))) := by
  obtain ⟨hv1, hv2⟩ := window_val lz N s hs (by rw [h.len]; exact hn) hv
  have g0 := Lim_getD lz N
  have g1 := Lim_getD lz (N + 1)
  have g2 := Lim_getD lz (N + 2)
  have HLI : Hid (∀ w' (i : Nat) (x : Int), Cells w' ao zs → zs.getD i 0 = x → Calls Tryz.prog 159 #[.slice ao n cap, .int .i64 (i : Int)] w' fun e w'' => e = .returned (.int .u32 x) ∧ w' = w'') := Lib.hid (fun w' i x hc hx => by
    have := limb_any w' ao n cap zs (i : Int) h.len hc (by omega)
    rw [show ((i : Int)).toNat = i by omega, hx] at this
    exact this)
  have HC := Lib.hid h.cells
  obtain ⟨a, ha⟩ : ∃ a, zs.getD N 0 = a := ⟨_, rfl⟩
  obtain ⟨b, hb⟩ : ∃ b, zs.getD (N + 1) 0 = b := ⟨_, rfl⟩
  obtain ⟨c, hc⟩ : ∃ c, zs.getD (N + 2) 0 = c := ⟨_, rfl⟩
  rw [ha, hb, hc] at hv1
  rw [hb, hc] at hv2
  rw [ha] at g0
  rw [hb] at g1
  rw [hc] at g2
  obtain ⟨R, hR⟩ : ∃ R, val zs / (4294967296 ^ N * 2 ^ (32 - s)) = R := ⟨_, rfl⟩
  rw [hR] at hv1 ⊢
  have L0 : Hid (∀ w', Cells w' ao zs → Calls Tryz.prog 159 #[.slice ao n cap, .int .i64 ((M : Int) - 3)] w' fun e w'' => e = .returned (.int .u32 a) ∧ w' = w'') := Lib.hid (fun w' hc' => by have := HLI.out w' N a hc' ha; rwa [show (N : Int) = (M : Int) - 3 by omega] at this)
  have L1 : Hid (∀ w', Cells w' ao zs → Calls Tryz.prog 159 #[.slice ao n cap, .int .i64 ((M : Int) - 2)] w' fun e w'' => e = .returned (.int .u32 b) ∧ w' = w'') := Lib.hid (fun w' hc' => by have := HLI.out w' (N + 1) b hc' hb; rwa [show ((N + 1 : Nat) : Int) = (M : Int) - 2 by omega] at this)
  have L2 : Hid (∀ w', Cells w' ao zs → Calls Tryz.prog 159 #[.slice ao n cap, .int .i64 ((M : Int) - 1)] w' fun e w'' => e = .returned (.int .u32 c) ∧ w' = w'') := Lib.hid (fun w' hc' => by have := HLI.out w' (N + 2) c hc' hc; rwa [show ((N + 2 : Nat) : Int) = (M : Int) - 1 by omega] at this)
  have hM3 : 3 ≤ M := by omega
  have hM4 : M ≤ 1073741827 := by omega
  have hj : bits .or .u64 (c * 4294967296) b = c * 4294967296 + b := by
    obtain ⟨c', rfl⟩ := Int.eq_ofNat_of_zero_le g2.1
    obtain ⟨b', rfl⟩ := Int.eq_ofNat_of_zero_le g1.1
    have e : (c' : Int) * 4294967296 = ((c' * 4294967296 : Nat) : Int) := by omega
    rw [e, u64_or_nat _ _ (by omega) (by omega), nat_join 32 (c' * 4294967296) b' (by omega) (by omega)]
    omega
  have HV1 := Lib.hid hv1
  have HV2 := Lib.hid hv2
  clear ha hb hc hR h HLI hv1 hv2 hM
  go_enter Tryz.func178, Tryz.ntmps178
  go_wp2_with fail
  refine (L2.out _ HC.out).mono ?_
  rintro e w' ⟨rfl, rfl⟩
  go_wp2_with fail
  refine (L1.out _ HC.out).mono ?_
  rintro e w' ⟨rfl, rfl⟩
  go_wp2_with fail
  have hq : ∀ nq, Calls Tryz.prog 159 #[.slice ao n cap, .int .i64 ((M : Int) - 3)] (w.drewN nq) fun e w' => e = .returned (.int .u32 a) ∧ w' = w.drewN nq := fun nq => (L0.out _ (HC.out.below (below_drewN (Below.refl _ _) nq))).mono fun _ _ h => ⟨h.1, h.2.symm⟩
  have hMs : IntKind.i64.wrap ((M : Int) - 3) = (M : Int) - 3 := IntWalk.i64_in _ (by omega)
  have hss : IntKind.i64.wrap (32 - (s : Int)) = 32 - (s : Int) := IntWalk.i64_in _ (by omega)
  have hs0 : (0 : Int) ≤ 32 - (s : Int) := by omega
  go_quiet ((go_at_call 159; exact Calls.quiet_of_same (hq _)))
  go_wp2_with fail
  go_ret
  refine ⟨?_, _, rfl⟩
  show Ending.returned (.int .u64 (bits .or .u64 (IntKind.u64.wrap ((c * 4294967296 + b) * 2 ^ s)) (a / 2 ^ (32 - s)))) = _
  rw [window_or hs g0.1 g0.2 (by omega) HV2.out, HV1.out]

set_option maxHeartbeats 1000000
set_option linter.unusedVariables false

/-- The loop's variables. -/
structure LookAt (x0 y0 : Nat) (x y u0 v0 u1 v1 u2 v2 : Nat) (odd : Bool) : Prop where
  now : Euc x0 y0 x y u1 v1 u2 v2 (if odd then 1 else -1)
  old : (u0 = 0 ∧ v0 = 0) ∨ ∃ px py, Euc x0 y0 px py u0 v0 u1 v1 (if odd then -1 else 1) ∧ v1 ≤ py ∧ v0 + v1 ≤ px - py

/-- Steps that lead from A and B to X and Y. -/
structure Steps (A B u0 v0 u1 v1 : Nat) (odd : Bool) (X Y : Nat) : Prop where
  hX : (X : Int) = (if odd then -1 else 1) * ((u0 : Int) * A - v0 * B)
  hY : (Y : Int) = (if odd then -1 else 1) * ((v1 : Int) * B - u1 * A)
  pos : 0 < Y
  lt : Y < X
  a : v1 * X + v0 * Y = A
  b : u1 * X + u0 * Y = B
  ul : u0 < 4294967296
  vl : v0 < 4294967296
  ur : u1 < 4294967296
  vr : v1 < 4294967296
  one : 1 ≤ u1
  nil : 1 ≤ v1

theorem LookAt.out {x0 y0 x y u0 v0 u1 v1 u2 v2 : Nat} {odd : Bool} (h : LookAt x0 y0 x y u0 v0 u1 v1 u2 v2 odd) (hv : v0 ≠ 0) (hx0 : x0 < 18446744073709551616) {A B E a b : Nat} (hA : A = x0 * E + a) (hB : B = y0 * E + b) (ha : a < E) (hb : b < E) :
    ∃ X Y, Steps A B u0 v0 u1 v1 odd X Y := by
  rcases h.old with ⟨_, h0⟩ | ⟨px, py, he, c1, c2⟩
  · exact absurd h0 hv
  · obtain ⟨X, Y, g1, g2, g3, g4, g5, g6⟩ := he.whole c1 c2 hA hB ha hb
    have hs := he.small c1 hx0
    have h1 := he.uv2
    have h2 := he.uv
    have h3 : 1 ≤ u1 := by
      rcases he.two with h | h
      · exact absurd h hv
      · exact h
    have h4 := he.v
    have h5 := he.mv
    have h6 := he.mu
    exact ⟨X, Y, ⟨g1, g2, g3, g4, g5, g6, by omega, by omega, by omega, hs, h3, h4⟩⟩

/-- Steps, and the code that tells whether there are some. -/
def RetLook (w : World) (A B : Nat) (e : Ending) (w' : World) : Prop :=
  ∃ (u0 v0 u1 v1 : Nat) (odd : Bool), e = .returned (.agg #[.int .u64 (u0 : Int), .int .u64 (v0 : Int), .int .u64 (u1 : Int), .int .u64 (v1 : Int), .bool odd]) ∧ (v0 = 0 ∨ ∃ X Y, Steps A B u0 v0 u1 v1 odd X Y) ∧ Below w.heap.size w w'

theorem top_bound {xs : List Int} (lx : Lim xs) {N t s : Nat} (hl : xs.length = N + 3) (ht : (t : Int) = xs.getD (N + 2) 0) (hs : s + blen t = 32) : val xs < 4294967296 ^ N * 2 ^ (96 - s) := by
  have h1 := val_take_succ xs (N + 2)
  rw [List.take_of_length_le (by omega), ← ht] at h1
  have h2 := val_lt (Lim_take lx (N + 2))
  rw [List.length_take, hl, Nat.min_eq_left (by omega)] at h2
  have h3 : t < 2 ^ (32 - s) := by
    have := blen_le_iff.1 (show blen t ≤ 32 - s by omega)
    exact this
  have h4 : ((t : Int) + 1) ≤ 2 ^ (32 - s) := by exact_mod_cast h3
  have h5 : (4294967296 : Int) ^ (N + 2) * ((t : Int) + 1) ≤ 4294967296 ^ (N + 2) * 2 ^ (32 - s) := Int.mul_le_mul_of_nonneg_left h4 (Int.le_of_lt (pow_pos _))
  have h6 : (4294967296 : Int) ^ (N + 2) * 2 ^ (32 - s) = 4294967296 ^ N * 2 ^ (96 - s) := by
    have e2 : (4294967296 : Int) ^ 2 = 2 ^ 64 := by rfl
    rw [Int.pow_add, show 96 - s = 64 + (32 - s) by omega, Int.pow_add, Int.mul_assoc, e2]
  rw [← h6, h1]
  have e : (4294967296 : Int) ^ (N + 2) * ((t : Int) + 1) = 4294967296 ^ (N + 2) * (t : Int) + 4294967296 ^ (N + 2) := by rw [Int.mul_add, Int.mul_one]
  omega

theorem cells5 {w : World} {b : Nat} {v0 v1 v2 v3 v4 : Value} {T : TypeId} (h : w.heap[b]? = some (.cells #[v0, v1, v2, v3, v4] T (0, 0))) :
    w.cell? ⟨b, 0, none⟩ = some v0 ∧ w.cell? ⟨b, 1, none⟩ = some v1 ∧ w.cell? ⟨b, 2, none⟩ = some v2 ∧ w.cell? ⟨b, 3, none⟩ = some v3 ∧ w.cell? ⟨b, 4, none⟩ = some v4 ∧ (∀ o, w.frozen? ⟨b, o, none⟩ = false) := by
  refine ⟨?_, ?_, ?_, ?_, ?_, ?_⟩ <;> simp [World.cell?, World.frozen?, h]

set_option maxRecDepth 100000 in
set_option maxHeartbeats 2000000 in
theorem look_any (w : World) (ao bo : Option Addr) (n m capa capb : Nat) (xs ys : List Int) (hx : Sl w ao n capa xs) (hy : Sl w bo m capb ys) (lx : Lim xs) (ly : Lim ys) (tx : Top xs) (A B : Nat) (hA : val xs = (A : Int)) (hB : val ys = (B : Int)) (hn : n ≤ 1073741824) (hn3 : 3 ≤ n) (hmn : m ≤ n) (hle : B ≤ A) :
    Calls Tryz.prog 165 #[.slice ao n capa, .slice bo m capb] w (RetLook w A B) := by
  obtain ⟨N, rfl⟩ : ∃ N, n = N + 3 := ⟨n - 3, by omega⟩
  have hxl := hx.len
  have hyl := hy.len
  have hne : xs ≠ [] := by intro h; rw [h] at hxl; simp at hxl
  obtain ⟨t, ht⟩ : ∃ t : Nat, (t : Int) = xs.getD (N + 2) 0 := ⟨(xs.getD (N + 2) 0).toNat, by have := Lim_getD lx (N + 2); omega⟩
  have htb := Lim_getD lx (N + 2)
  rw [← ht] at htb
  have ht0 : t ≠ 0 := by
    rcases tx with h | h
    · exact absurd h hne
    · rw [hxl, show N + 3 - 1 = N + 2 by omega, ← ht] at h
      intro h0
      rw [h0] at h
      exact h rfl
  have hbl : blen t ≤ 32 := blen_le_iff.2 (by omega)
  have hbl1 : 1 ≤ blen t := by
    have : ¬ blen t ≤ 0 := fun h => by have := blen_le_iff.1 h; omega
    omega
  obtain ⟨s, hs⟩ : ∃ s, s + blen t = 32 := ⟨32 - blen t, by omega⟩
  have hs31 : s ≤ 31 := by omega
  have HLZ : Hid (∀ w1, Calls Tryz.prog 177 #[.int .u32 (t : Int)] w1 fun e w' => e = .returned (.int .i64 (s : Int)) ∧ w1 = w') := Lib.hid fun w1 => lz32_any w1 t s (by omega) hs
  have hvx := top_bound lx hxl ht hs
  have hvy : val ys < 4294967296 ^ N * 2 ^ (96 - s) := by rw [hB]; rw [hA] at hvx; omega
  obtain ⟨E, hE⟩ : ∃ E : Nat, E = 4294967296 ^ N * 2 ^ (32 - s) := ⟨_, rfl⟩
  have hEp : 0 < E := by rw [hE]; exact Nat.mul_pos (Nat.pow_pos (by omega)) (Nat.two_pow_pos _)
  have hEI : (4294967296 : Int) ^ N * 2 ^ (32 - s) = (E : Int) := by rw [hE, Int.natCast_mul, Int.natCast_pow, Int.natCast_pow]; rfl
  obtain ⟨x0, hx0⟩ : ∃ x0, A / E = x0 := ⟨_, rfl⟩
  obtain ⟨y0, hy0⟩ : ∃ y0, B / E = y0 := ⟨_, rfl⟩
  have hWx : Hid (∀ w', Below w.heap.size w w' → Calls Tryz.prog 178 #[.slice ao (N + 3) capa, .int .i64 ((N + 3 : Nat) : Int), .int .i64 (s : Int)] w' (RetQ w' (.int .u64 (x0 : Int)))) := Lib.hid fun w' hb => by
    have := window_any w' ao (N + 3) capa xs N s (N + 3) rfl (hx.below hb) lx hs31 (by omega) (by omega) hvx
    rw [hEI, hA] at this
    rw [← hx0]
    exact_mod_cast this
  have hWy : Hid (∀ w', Below w.heap.size w w' → Calls Tryz.prog 178 #[.slice bo m capb, .int .i64 ((N + 3 : Nat) : Int), .int .i64 (s : Int)] w' (RetQ w' (.int .u64 (y0 : Int)))) := Lib.hid fun w' hb => by
    have := window_any w' bo m capb ys N s (N + 3) rfl (hy.below hb) ly hs31 hmn (by omega) hvy
    rw [hEI, hB] at this
    rw [← hy0]
    exact_mod_cast this
  have hx64 : x0 < 18446744073709551616 := by
    rw [← hx0, Nat.div_lt_iff_lt_mul hEp, hE]
    have h96 : (4294967296 : Nat) ^ N * 2 ^ (96 - s) = 18446744073709551616 * (4294967296 ^ N * 2 ^ (32 - s)) := by
      rw [show 96 - s = 64 + (32 - s) by omega, Nat.pow_add]
      grind
    have : ((A : Nat) : Int) < ((4294967296 ^ N * 2 ^ (96 - s) : Nat) : Int) := by rw [← hA, Int.natCast_mul, Int.natCast_pow, Int.natCast_pow]; exact hvx
    omega
  have hyx : y0 ≤ x0 := by rw [← hx0, ← hy0]; exact Nat.div_le_div_right hle
  have hAE : A = x0 * E + A % E := by rw [← hx0, Nat.mul_comm]; exact (Nat.div_add_mod A E).symm
  have hBE : B = y0 * E + B % E := by rw [← hy0, Nat.mul_comm]; exact (Nat.div_add_mod B E).symm
  have hal := Nat.mod_lt A hEp
  have hbl2 := Nat.mod_lt B hEp
  have HOUT : Hid (∀ x y u0 v0 u1 v1 u2 v2 odd, LookAt x0 y0 x y u0 v0 u1 v1 u2 v2 odd → v0 = 0 ∨ ∃ X Y, Steps A B u0 v0 u1 v1 odd X Y) := Lib.hid fun x y u0 v0 u1 v1 u2 v2 odd h => by
    by_cases h0 : v0 = 0
    · exact .inl h0
    · exact .inr (h.out h0 hx64 hAE hBE hal hbl2)
  have HST : Hid (LookAt x0 y0 x0 y0 0 0 1 0 0 1 true) := Lib.hid ⟨Euc.start hyx, .inl ⟨rfl, rfl⟩⟩
  have hcell := hx.cells
  obtain ⟨gb, ob, rfl, hct⟩ := hcell.at (k := N + 2) (by omega)
  rw [← ht] at hct
  have hgb : gb < w.heap.size := World.block_lt_of_cell? w _ hct
  have hy64 : y0 < 18446744073709551616 := by omega
  obtain ⟨M, hM⟩ : ∃ M, M = N + 3 := ⟨_, rfl⟩
  have hM1 : (M : Int) - 1 = ((N + 2 : Nat) : Int) := by omega
  have hM2 : (0 : Int) ≤ (M : Int) - 1 := by omega
  have hM3 : (M : Int) - 1 < (M : Int) := by omega
  have hMt : ((M : Int) - 1).toNat = N + 2 := by omega
  rw [← hM] at hWx hWy ⊢
  clear hx hy tx hA hB hle hbl hbl1 ht htb hs hvx hvy hEI hx0 hy0 hAE hBE hal hbl2 hE hcell hne hxl hyl hyx hM ht0 lx ly
  go_enter Tryz.func165, Tryz.ntmps165
  go_wp2_with fail
  refine (HLZ.out _).mono ?_
  rintro e w1 ⟨rfl, rfl⟩
  clear hct
  go_wp2_with fail
  refine (hWx.out _ (by go_grown)).mono ?_
  rintro e w2 ⟨rfl, q2, rfl⟩
  go_wp2_with fail
  refine (hWy.out _ (by first | exact below_drewN (by go_grown) _ | go_grown)).mono ?_
  rintro e w3 ⟨rfl, q3, rfl⟩
  obtain ⟨W0, hW0⟩ : ∃ W0, W0 = ((w.alloc (.cells #[.int .u64 0, .int .u64 0, .int .u64 0, .int .u64 0, .bool false] 195)).drewN q2).drewN q3 := ⟨_, rfl⟩
  have hb0 : Below w.heap.size w W0 := by rw [hW0]; exact below_drewN (below_drewN (by go_grown) _) _
  have hr0 : W0.heap[w.heap.size]? = some (.cells #[.int .u64 0, .int .u64 0, .int .u64 0, .int .u64 0, .bool false] 195 (0, 0)) := by rw [hW0]; simpa using heap_alloc_new w (.cells #[.int .u64 0, .int .u64 0, .int .u64 0, .int .u64 0, .bool false] 195)
  rw [← hW0]
  clear hW0
  have HB0 := Lib.hid hb0
  have HR0 := Lib.hid hr0
  clear hb0 hr0
  go_wp2_with fail
  go_loopw [6, 7, 8, 9, 10, 11, 12, 13, 14] (fun a b c d e f g h o wr => ∃ (x y u0 u1 u2 v0 v1 v2 : Nat) (odd : Bool), a = .int .u64 (x : Int) ∧ b = .int .u64 (y : Int) ∧ c = .int .u64 (u0 : Int) ∧ d = .int .u64 (u1 : Int) ∧ e = .int .u64 (u2 : Int) ∧ f = .int .u64 (v0 : Int) ∧ g = .int .u64 (v1 : Int) ∧ h = .int .u64 (v2 : Int) ∧ o = .bool odd ∧ LookAt x0 y0 x y u0 v0 u1 v1 u2 v2 odd ∧ ∃ q, wr = W0.drewN q) (fun _ b _ _ _ _ _ _ _ _ => (intOf b).toNat)
  case atStart => exact ⟨x0, y0, 0, 1, 0, 0, 0, 1, true, rfl, rfl, rfl, rfl, rfl, rfl, rfl, rfl, rfl, HST.out, 0, rfl⟩
  case round =>
    obtain ⟨x, y, u0, u1, u2, v0, v1, v2, odd, rfl, rfl, rfl, rfl, rfl, rfl, rfl, rfl, rfl, hla, q, rfl⟩ := hrel
    have hyx := hla.now.le
    have hv1 := hla.now.v
    have ha0 := hla.now.a0
    have hxx : x ≤ x0 := by
      have : x ≤ x * v2 := Nat.le_mul_of_pos_right _ hv1
      omega
    clear ha0
    have HLA := Lib.hid hla
    clear hla
    by_cases c1 : v2 ≤ y
    · have hsm := HLA.out.now.small c1 hx64
      have hmv := HLA.out.now.mv
      obtain ⟨d, hd⟩ : ∃ d, x - y = d := ⟨_, rfl⟩
      have hdI : (x : Int) - (y : Int) = (d : Int) := by omega
      have hdw : IntKind.u64.wrap ((x : Int) - (y : Int)) = (d : Int) := by rw [hdI]; simp only [IntKind.wrap, IntKind.bits, IntKind.signed]; simp; omega
      obtain ⟨sv, hsv⟩ : ∃ sv, v1 + v2 = sv := ⟨_, rfl⟩
      have hsI : (v1 : Int) + (v2 : Int) = (sv : Int) := by omega
      have hsw : IntKind.u64.wrap ((v1 : Int) + (v2 : Int)) = (sv : Int) := by rw [hsI]; simp only [IntKind.wrap, IntKind.bits, IntKind.signed]; simp; omega
      have c1I : (v2 : Int) ≤ (y : Int) := by omega
      have HD := Lib.hid hd
      have HSV := Lib.hid hsv
      clear hd hsv
      by_cases c2 : sv ≤ d
      · have c2I : (sv : Int) ≤ (d : Int) := by omega
        have hy1 : 1 ≤ y := by omega
        have hnow := HLA.out.now.step hy1
        have hfit := hnow.fits hy1
        obtain ⟨Q, hQ⟩ : ∃ Q, x / y = Q := ⟨_, rfl⟩
        obtain ⟨r, hr⟩ : ∃ r, x % y = r := ⟨_, rfl⟩
        rw [hQ, hr] at hnow
        rw [hQ] at hfit
        obtain ⟨m1, hm1⟩ : ∃ m1, Q * u2 = m1 := ⟨_, rfl⟩
        obtain ⟨m2, hm2⟩ : ∃ m2, Q * v2 = m2 := ⟨_, rfl⟩
        rw [hm1, hm2] at hnow hfit
        obtain ⟨U, hU⟩ : ∃ U, u1 + m1 = U := ⟨_, rfl⟩
        obtain ⟨V, hV⟩ : ∃ V, v1 + m2 = V := ⟨_, rfl⟩
        rw [hU, hV] at hnow hfit
        have hrl : r < y := by rw [← hr]; exact Nat.mod_lt _ hy1
        have f1 : U < 18446744073709551616 := by have := hfit.2.1; omega
        have f2 : V < 18446744073709551616 := by have := hfit.1; omega
        have gQ : IntKind.u64.wrap (Q : Int) = (Q : Int) := by
          have : Q ≤ x := by rw [← hQ]; exact Nat.div_le_self _ _
          simp only [IntKind.wrap, IntKind.bits, IntKind.signed]; simp; omega
        have g1 : IntKind.u64.wrap ((Q : Int) * (u2 : Int)) = (m1 : Int) := by
          rw [show (Q : Int) * (u2 : Int) = (m1 : Int) by rw [← hm1]; push_cast; rfl]; simp only [IntKind.wrap, IntKind.bits, IntKind.signed]; simp; omega
        have g2 : IntKind.u64.wrap ((Q : Int) * (v2 : Int)) = (m2 : Int) := by
          rw [show (Q : Int) * (v2 : Int) = (m2 : Int) by rw [← hm2]; push_cast; rfl]; simp only [IntKind.wrap, IntKind.bits, IntKind.signed]; simp; omega
        have g3 : (u1 : Int) + (m1 : Int) = (U : Int) := by omega
        have g4 : (v1 : Int) + (m2 : Int) = (V : Int) := by omega
        have g5 : IntKind.u64.wrap ((u1 : Int) + (m1 : Int)) = (U : Int) := by rw [g3]; simp only [IntKind.wrap, IntKind.bits, IntKind.signed]; simp; omega
        have g6 : IntKind.u64.wrap ((v1 : Int) + (m2 : Int)) = (V : Int) := by rw [g4]; simp only [IntKind.wrap, IntKind.bits, IntKind.signed]; simp; omega
        have t1 : (x : Int).tdiv (y : Int) = (Q : Int) := by rw [Int.tdiv_eq_ediv_of_nonneg (by omega), ← hQ]; rfl
        have t2 : (x : Int).tmod (y : Int) = (r : Int) := by rw [Int.tmod_eq_emod_of_nonneg (by omega), ← hr]; rfl
        have t3 : (x : Int) / (y : Int) = (Q : Int) := by rw [← hQ]; rfl
        have t4 : (x : Int) % (y : Int) = (r : Int) := by rw [← hr]; rfl
        have hy0 : (0 : Int) < (y : Int) := by omega
        have hy2 : ((y : Int) == 0) = false := by simp; omega
        have HNEW : Hid (LookAt x0 y0 y r u1 v1 u2 v2 U V (!odd)) := Lib.hid ⟨by cases odd <;> simpa using hnow, .inr ⟨x, y, by have := HLA.out.now; cases odd <;> simpa using this, by omega, by have := HD.out; have := HSV.out; omega⟩⟩
        clear hnow hfit hQ hr hm1 hm2 hU hV hdI hsI g3 g4
        go_wp2_with fail
        go_quiet (fail)
        go_wp2_with fail
        go_roundw
        case rel => exact ⟨y, r, u1, u2, U, v1, v2, V, !odd, rfl, rfl, rfl, rfl, rfl, rfl, rfl, rfl, rfl, HNEW.out, _, rfl⟩
        case measure => simp [intOf]; omega
      · have c2I : ¬ (sv : Int) ≤ (d : Int) := by omega
        obtain ⟨p0, p1, p2, p3, p4, pf⟩ := cells5 (w := W0.drewN q) (b := w.heap.size) (by simpa using HR0.out)
        have HBF := Lib.hid (below_drewN HB0.out q)
        have HRES := Lib.hid (HOUT.out _ _ _ _ _ _ _ _ _ HLA.out)
        go_wp2_with fail
        refine bodyPost_ret (v := .agg #[.int .u64 (u0 : Int), .int .u64 (v0 : Int), .int .u64 (u1 : Int), .int .u64 (v1 : Int), .bool odd]) (by simp [results, Tryz.results165, go_sem, p0, p1, p2, p3, p4]) rfl ?_
        exact ⟨u0, v0, u1, v1, odd, rfl, HRES.out, ((((HBF.out.setCell (p := ⟨w.heap.size, 0, none⟩) (Nat.le_refl _) _).setCell (p := ⟨w.heap.size, 1, none⟩) (Nat.le_refl _) _).setCell (p := ⟨w.heap.size, 2, none⟩) (Nat.le_refl _) _).setCell (p := ⟨w.heap.size, 3, none⟩) (Nat.le_refl _) _).setCell (p := ⟨w.heap.size, 4, none⟩) (Nat.le_refl _) _⟩
    · have c1I : ¬ (v2 : Int) ≤ (y : Int) := by omega
      obtain ⟨p0, p1, p2, p3, p4, pf⟩ := cells5 (w := W0.drewN q) (b := w.heap.size) (by simpa using HR0.out)
      have HBF := Lib.hid (below_drewN HB0.out q)
      have HRES := Lib.hid (HOUT.out _ _ _ _ _ _ _ _ _ HLA.out)
      go_wp2_with fail
      refine bodyPost_ret (v := .agg #[.int .u64 (u0 : Int), .int .u64 (v0 : Int), .int .u64 (u1 : Int), .int .u64 (v1 : Int), .bool odd]) (by simp [results, Tryz.results165, go_sem, p0, p1, p2, p3, p4]) rfl ?_
      exact ⟨u0, v0, u1, v1, odd, rfl, HRES.out, ((((HBF.out.setCell (p := ⟨w.heap.size, 0, none⟩) (Nat.le_refl _) _).setCell (p := ⟨w.heap.size, 1, none⟩) (Nat.le_refl _) _).setCell (p := ⟨w.heap.size, 2, none⟩) (Nat.le_refl _) _).setCell (p := ⟨w.heap.size, 3, none⟩) (Nat.le_refl _) _).setCell (p := ⟨w.heap.size, 4, none⟩) (Nat.le_refl _) _⟩

set_option maxHeartbeats 1000000
set_option linter.unusedVariables false

/-- A mixer at block M. -/
def MixAt (w : World) (M plus minus up down borrow : Nat) : Prop :=
  w.heap[M]? = some (.cells #[.int .u64 (plus : Int), .int .u64 (minus : Int), .int .u64 (up : Int), .int .u64 (down : Int), .int .u64 (borrow : Int)] 204 (0, 0))

def MixPost (w : World) (M plus minus up down borrow high low : Nat) (e : Ending) (w' : World) : Prop :=
  ∃ c up' down' b' : Nat, e = .returned (.int .u32 (c : Int)) ∧ c < 4294967296 ∧ up' < 4294967296 ∧ down' < 4294967296 ∧ b' ≤ 1 ∧
    ((high : Int) + up) - (low + down) - borrow = c + 4294967296 * ((up' : Int) - down' - b') ∧ MixAt w' M plus minus up' down' b' ∧ Frame [some M] w w'

theorem u64_in {x : Int} (h0 : 0 ≤ x) (h1 : x < 18446744073709551616) : IntKind.u64.wrap x = x := by
  simp only [IntKind.wrap, IntKind.bits, IntKind.signed]; simp; omega

set_option maxRecDepth 100000 in
theorem mlimb_any (w : World) (M plus minus up down borrow high low : Nat) (h : MixAt w M plus minus up down borrow) (h1 : high + up < 18446744073709551616) (h2 : low + down < 18446744073709551616) (hb : borrow ≤ 1) :
    Calls Tryz.prog 186 #[.pointer (some ⟨M, 0, none⟩), .int .u64 (high : Int), .int .u64 (low : Int)] w (MixPost w M plus minus up down borrow high low) := by
  obtain ⟨c0, c1, c2, c3, c4, cf⟩ := cells5 h
  have f2 := cf 2
  have f3 := cf 3
  have f4 := cf 4
  obtain ⟨H, hH⟩ : ∃ H, high + up = H := ⟨_, rfl⟩
  obtain ⟨L, hL⟩ : ∃ L, low + down = L := ⟨_, rfl⟩
  rw [hH] at h1
  rw [hL] at h2
  have hHI : (high : Int) + (up : Int) = (H : Int) := by omega
  have hLI : (low : Int) + (down : Int) = (L : Int) := by omega
  have hHw : IntKind.u64.wrap ((high : Int) + (up : Int)) = (H : Int) := by rw [hHI]; exact u64_in (by omega) (by omega)
  have hLw : IntKind.u64.wrap ((low : Int) + (down : Int)) = (L : Int) := by rw [hLI]; exact u64_in (by omega) (by omega)
  obtain ⟨t, ht⟩ : ∃ t : Nat, (t : Int) = IntKind.u64.wrap (IntKind.u64.wrap ((H : Int) % 4294967296 - (L : Int) % 4294967296) - (borrow : Int)) := ⟨(IntKind.u64.wrap (IntKind.u64.wrap ((H : Int) % 4294967296 - (L : Int) % 4294967296) - (borrow : Int))).toNat, by
    simp only [IntKind.wrap, IntKind.bits, IntKind.signed]; simp; omega⟩
  have HM := Lib.hid h
  have HH := Lib.hid hH
  have HL := Lib.hid hL
  have HT := Lib.hid ht
  clear h cf hH hL ht
  go_enter Tryz.func186, Tryz.ntmps186
  go_wp2_with fail
  go_ret
  have hT := HT.out
  have hH := HH.out
  have hL := HL.out
  have hT2 : (t : Int) = (((H : Int) % 4294967296 - (L : Int) % 4294967296) % 18446744073709551616 - (borrow : Int)) % 18446744073709551616 := by
    rw [hT]
    simp only [IntKind.wrap, IntKind.bits, IntKind.signed]
    simp
  refine ⟨t % 4294967296, H / 4294967296, L / 4294967296, t / 9223372036854775808, ?_, by omega, by omega, by omega, by omega, by omega, ?_, ?_⟩
  · show Ending.returned (.int .u32 (IntKind.u64.wrap (IntKind.u64.wrap ((H : Int) % 4294967296 - (L : Int) % 4294967296) - (borrow : Int)) % 4294967296)) = _
    rw [← hT]
    rfl
  · rw [← hT]
    exact heap_setCell_same _ M 4 _ _ _ (heap_setCell_same _ M 3 _ _ _ (heap_setCell_same w M 2 _ _ _ HM.out))
  · exact (((Frame.refl _ _).setCell (p := ⟨M, 2, none⟩) (by simp) _).setCell (p := ⟨M, 3, none⟩) (by simp) _).setCell (p := ⟨M, 4, none⟩) (by simp) _

set_option maxRecDepth 100000 in
theorem mnext_any (w : World) (M plus minus up down borrow x y : Nat) (h : MixAt w M plus minus up down borrow) (hp : plus < 4294967296) (hm : minus < 4294967296) (hu : up < 4294967296) (hd : down < 4294967296) (hx : x < 4294967296) (hy : y < 4294967296) (hb : borrow ≤ 1) :
    Calls Tryz.prog 180 #[.pointer (some ⟨M, 0, none⟩), .int .u32 (x : Int), .int .u32 (y : Int)] w (MixPost w M plus minus up down borrow (plus * x) (minus * y)) := by
  obtain ⟨c0, c1, c2, c3, c4, cf⟩ := cells5 h
  have b1 : plus * x ≤ 4294967295 * 4294967295 := Nat.mul_le_mul (by omega) (by omega)
  have b2 : minus * y ≤ 4294967295 * 4294967295 := Nat.mul_le_mul (by omega) (by omega)
  obtain ⟨P, hP⟩ : ∃ P, plus * x = P := ⟨_, rfl⟩
  obtain ⟨Q, hQ⟩ : ∃ Q, minus * y = Q := ⟨_, rfl⟩
  rw [hP] at b1
  rw [hQ] at b2
  have e1 : IntKind.u64.wrap ((plus : Int) * (x : Int)) = (P : Int) := by
    rw [show (plus : Int) * (x : Int) = (P : Int) by rw [← hP]; push_cast; rfl]; exact u64_in (by omega) (by omega)
  have e2 : IntKind.u64.wrap ((minus : Int) * (y : Int)) = (Q : Int) := by
    rw [show (minus : Int) * (y : Int) = (Q : Int) by rw [← hQ]; push_cast; rfl]; exact u64_in (by omega) (by omega)
  have e3 : IntKind.u64.wrap (x : Int) = (x : Int) := u64_in (by omega) (by omega)
  have e4 : IntKind.u64.wrap (y : Int) = (y : Int) := u64_in (by omega) (by omega)
  have HL : Hid (∀ w', (∀ k : Nat, w'.heap[k]? = w.heap[k]?) → Calls Tryz.prog 186 #[.pointer (some ⟨M, 0, none⟩), .int .u64 (P : Int), .int .u64 (Q : Int)] w' (MixPost w' M plus minus up down borrow P Q)) := Lib.hid fun w' hw => mlimb_any w' M plus minus up down borrow P Q (by unfold MixAt; rw [hw M]; exact h) (by omega) (by omega) hb
  have HLd := Lib.hid (HL.out w.drew (fun _ => rfl))
  rw [hP, hQ]
  clear h cf hP hQ HL
  go_enter Tryz.func180, Tryz.ntmps180
  go_wp2_with fail
  go_region_law (go_simp; (with_reducible refine HLd.out.mono ?_); rintro e w2 ⟨c, up', down', b', rfl, k1, k2, k3, k4, k5, k6, k7⟩; dsimp only; have HK := Lib.hid (And.intro k5 (And.intro k6 k7)); clear k5 k6 k7)
  all_goals (go_wp2_with fail; go_ret; exact ⟨c, up', down', b', rfl, k1, k2, k3, k4, HK.out.1, HK.out.2.1, ((Frame.refl _ _).drew).trans HK.out.2.2 (fun _ _ h => h)⟩)

set_option maxRecDepth 100000 in
theorem mturned_any (w : World) (M plus minus up down borrow x y : Nat) (h : MixAt w M plus minus up down borrow) (hp : plus < 4294967296) (hm : minus < 4294967296) (hu : up < 4294967296) (hd : down < 4294967296) (hx : x < 4294967296) (hy : y < 4294967296) (hb : borrow ≤ 1) :
    Calls Tryz.prog 179 #[.pointer (some ⟨M, 0, none⟩), .int .u32 (x : Int), .int .u32 (y : Int)] w (MixPost w M plus minus up down borrow (minus * y) (plus * x)) := by
  obtain ⟨c0, c1, c2, c3, c4, cf⟩ := cells5 h
  have b1 : plus * x ≤ 4294967295 * 4294967295 := Nat.mul_le_mul (by omega) (by omega)
  have b2 : minus * y ≤ 4294967295 * 4294967295 := Nat.mul_le_mul (by omega) (by omega)
  obtain ⟨P, hP⟩ : ∃ P, plus * x = P := ⟨_, rfl⟩
  obtain ⟨Q, hQ⟩ : ∃ Q, minus * y = Q := ⟨_, rfl⟩
  rw [hP] at b1
  rw [hQ] at b2
  have e1 : IntKind.u64.wrap ((plus : Int) * (x : Int)) = (P : Int) := by
    rw [show (plus : Int) * (x : Int) = (P : Int) by rw [← hP]; push_cast; rfl]; exact u64_in (by omega) (by omega)
  have e2 : IntKind.u64.wrap ((minus : Int) * (y : Int)) = (Q : Int) := by
    rw [show (minus : Int) * (y : Int) = (Q : Int) by rw [← hQ]; push_cast; rfl]; exact u64_in (by omega) (by omega)
  have e3 : IntKind.u64.wrap (x : Int) = (x : Int) := u64_in (by omega) (by omega)
  have e4 : IntKind.u64.wrap (y : Int) = (y : Int) := u64_in (by omega) (by omega)
  have HL : Hid (∀ w', (∀ k : Nat, w'.heap[k]? = w.heap[k]?) → Calls Tryz.prog 186 #[.pointer (some ⟨M, 0, none⟩), .int .u64 (Q : Int), .int .u64 (P : Int)] w' (MixPost w' M plus minus up down borrow Q P)) := Lib.hid fun w' hw => mlimb_any w' M plus minus up down borrow Q P (by unfold MixAt; rw [hw M]; exact h) (by omega) (by omega) hb
  have HLd := Lib.hid (HL.out w.drew (fun _ => rfl))
  rw [hP, hQ]
  clear h cf hP hQ HL
  go_enter Tryz.func179, Tryz.ntmps179
  go_wp2_with fail
  go_region_law (go_simp; (with_reducible refine HLd.out.mono ?_); rintro e w2 ⟨c, up', down', b', rfl, k1, k2, k3, k4, k5, k6, k7⟩; dsimp only; have HK := Lib.hid (And.intro k5 (And.intro k6 k7)); clear k5 k6 k7)
  all_goals (go_wp2_with fail; go_ret; exact ⟨c, up', down', b', rfl, k1, k2, k3, k4, HK.out.1, HK.out.2.1, ((Frame.refl _ _).drew).trans HK.out.2.2 (fun _ _ h => h)⟩)
end Go.Proofs.YtdfepdhflnnjpaaGreat
