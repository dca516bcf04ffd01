/- Math, Nat1, Int1, Nat2, Nat3, Int2, Nat4, Nat5 in one text. -/
import Derived.WalkKit
import Derived.Test.YtdfepdhflnnjpaaGreatProg
import Derived.WalkSpells
import Derived.Outline
import Derived.Deep.LoopGhost
import Derived.Handy
import Derived.Lib.Hide
import Derived.Deep.RegionHeld3
import Derived.Deep.QuietTactic
import Derived.BigQuiet
import Derived.WalkSmall
import Derived.Laws.BitsAllLaws
namespace Go.Proofs.YtdfepdhflnnjpaaGreat
open Go.RowKit
set_option autoImplicit false
set_option maxHeartbeats 1000000
set_option linter.unusedVariables false

def val : List Int → Int
  | [] => 0
  | z :: zs => z + 4294967296 * val zs

def Lim (zs : List Int) : Prop := ∀ z ∈ zs, 0 ≤ z ∧ z ≤ 4294967295

theorem val_append (a b : List Int) : val (a ++ b) = val a + 4294967296 ^ a.length * val b := by
  induction a with
  | nil => simp [val]
  | cons z zs ih =>
    simp only [List.cons_append, val, ih, List.length_cons, Int.pow_succ]
    grind

theorem val_snoc (a : List Int) (z : Int) : val (a ++ [z]) = val a + 4294967296 ^ a.length * z := by
  rw [val_append]; simp [val]

theorem pow_pos (n : Nat) : (0 : Int) < 4294967296 ^ n := Int.pow_pos (by omega)

theorem getD_lt {a : List Int} {n : Nat} (h : n < a.length) : a.getD n 0 = a[n] := by simp [List.getD, h]

theorem getD_ge {a : List Int} {n : Nat} (h : a.length ≤ n) : a.getD n 0 = 0 := by simp [List.getD, h]

theorem Lim_nil : Lim [] := by simp [Lim]

theorem Lim_append {a b : List Int} (ha : Lim a) (hb : Lim b) : Lim (a ++ b) := by
  intro z hz; rcases List.mem_append.1 hz with h | h
  · exact ha z h
  · exact hb z h

theorem Lim_snoc {a : List Int} {z : Int} (ha : Lim a) (h0 : 0 ≤ z) (h1 : z ≤ 4294967295) : Lim (a ++ [z]) :=
  Lim_append ha (by intro y hy; simp at hy; subst hy; exact ⟨h0, h1⟩)

theorem Lim_take {a : List Int} (ha : Lim a) (n : Nat) : Lim (a.take n) := fun z hz => ha z (List.mem_of_mem_take hz)

theorem Lim_drop {a : List Int} (ha : Lim a) (n : Nat) : Lim (a.drop n) := fun z hz => ha z (List.mem_of_mem_drop hz)

theorem Lim_getD {a : List Int} (ha : Lim a) (n : Nat) : 0 ≤ a.getD n 0 ∧ a.getD n 0 ≤ 4294967295 := by
  by_cases h : n < a.length
  · rw [getD_lt h]; exact ha _ (List.getElem_mem h)
  · rw [getD_ge (by omega)]; omega

theorem val_nonneg {zs : List Int} (h : Lim zs) : 0 ≤ val zs := by
  induction zs with
  | nil => simp [val]
  | cons z zs ih =>
    have h1 := h z (by simp)
    have h2 := ih (fun y hy => h y (by simp [hy]))
    simp only [val]; omega

theorem val_lt {zs : List Int} (h : Lim zs) : val zs < 4294967296 ^ zs.length := by
  induction zs with
  | nil => simp [val]
  | cons z zs ih =>
    have h1 := h z (by simp)
    have h2 := ih (fun y hy => h y (by simp [hy]))
    simp only [val, List.length_cons, Int.pow_succ]; omega

theorem take_succ_getD {a : List Int} {i : Nat} (h : i < a.length) : a.take (i + 1) = a.take i ++ [a.getD i 0] := by
  rw [List.take_succ_eq_append_getElem h, getD_lt h]

theorem val_take_succ (a : List Int) (i : Nat) : val (a.take (i + 1)) = val (a.take i) + 4294967296 ^ i * a.getD i 0 := by
  by_cases h : i < a.length
  · rw [take_succ_getD h, val_snoc, List.length_take, Nat.min_eq_left (by omega)]
  · rw [getD_ge (by omega), List.take_of_length_le (by omega), List.take_of_length_le (by omega)]; omega

/-- the top: how many limbs are left when zeros are cut off the first n -/
def tl (zs : List Int) : Nat → Nat
  | 0 => 0
  | n + 1 => if zs.getD n 0 = 0 then tl zs n else n + 1

theorem tl_le (zs : List Int) (n : Nat) : tl zs n ≤ n := by
  induction n with
  | zero => simp [tl]
  | succ n ih => unfold tl; split <;> omega

theorem tl_val (zs : List Int) (n : Nat) : val (zs.take (tl zs n)) = val (zs.take n) := by
  induction n with
  | zero => simp [tl]
  | succ n ih =>
    unfold tl; split
    · rw [ih, val_take_succ, ‹zs.getD n 0 = 0›]; omega
    · rfl

def trm (zs : List Int) : List Int := zs.take (tl zs zs.length)

theorem trm_val (zs : List Int) : val (trm zs) = val zs := by rw [trm, tl_val, List.take_length]

theorem trm_length (zs : List Int) : (trm zs).length = tl zs zs.length := by
  rw [trm, List.length_take]; have := tl_le zs zs.length; omega

/-- no zero at the top -/
def Top (zs : List Int) : Prop := zs = [] ∨ zs.getD (zs.length - 1) 0 ≠ 0

theorem tl_top (zs : List Int) (n : Nat) : tl zs n = 0 ∨ zs.getD (tl zs n - 1) 0 ≠ 0 := by
  induction n with
  | zero => simp [tl]
  | succ n ih =>
    unfold tl; split
    · exact ih
    · right; simpa using ‹¬ zs.getD n 0 = 0›

theorem trm_top (zs : List Int) : Top (trm zs) := by
  rcases tl_top zs zs.length with h | h
  · left; rw [trm, h]; simp
  · by_cases h0 : tl zs zs.length = 0
    · left; rw [trm, h0]; simp
    · right
      rw [trm_length]
      have := tl_le zs zs.length
      rw [trm, List.getD_eq_getElem?_getD, List.getElem?_take, if_pos (by omega), ← List.getD_eq_getElem?_getD]
      exact h

theorem trm_lim {zs : List Int} (h : Lim zs) : Lim (trm zs) := Lim_take h _

theorem snoc_of_pos {zs : List Int} (h : zs ≠ []) : ∃ ys, zs = ys ++ [zs.getD (zs.length - 1) 0] := by
  refine ⟨zs.dropLast, ?_⟩
  have hl : 0 < zs.length := List.length_pos_iff.2 h
  rw [getD_lt (by omega)]
  have := List.dropLast_concat_getLast h
  rw [List.getLast_eq_getElem] at this
  exact this.symm

theorem val_pos_of_top {zs : List Int} (hl : Lim zs) (ht : Top zs) (hne : zs ≠ []) : 4294967296 ^ (zs.length - 1) ≤ val zs := by
  obtain ⟨ys, hy⟩ := snoc_of_pos hne
  have hd := Lim_getD hl (zs.length - 1)
  rcases ht with h | h
  · exact absurd h hne
  · generalize zs.getD (zs.length - 1) 0 = d at *
    subst hy
    rw [val_snoc]
    have hy := val_nonneg (zs := ys) (fun z hz => hl z (by simp [hz]))
    have hp := pow_pos ys.length
    have hd1 : 1 ≤ d := by omega
    simp only [List.length_append, List.length_cons, List.length_nil, Nat.zero_add, Nat.add_sub_cancel]
    have : (4294967296 : Int) ^ ys.length * 1 ≤ 4294967296 ^ ys.length * d := Int.mul_le_mul_of_nonneg_left hd1 (by omega)
    omega

theorem pow_le {m n : Nat} (h : m ≤ n) : (4294967296 : Int) ^ m ≤ 4294967296 ^ n := by
  obtain ⟨k, rfl⟩ := Nat.exists_eq_add_of_le h
  rw [Int.pow_add]
  have h1 := pow_pos m
  have h2 := pow_pos k
  have : (4294967296 : Int) ^ m * 1 ≤ 4294967296 ^ m * 4294967296 ^ k := Int.mul_le_mul_of_nonneg_left (by omega) (by omega)
  omega

/-- limbs without a zero at the top are known by their value -/
theorem val_inj {a b : List Int} (la : Lim a) (lb : Lim b) (h : val a = val b) (hlen : a.length = b.length) : a = b := by
  induction a generalizing b with
  | nil => exact (List.eq_nil_of_length_eq_zero (by simpa using hlen.symm)).symm
  | cons x xs ih =>
    cases b with
    | nil => simp at hlen
    | cons y ys =>
      simp only [val] at h
      have hx := la x (by simp)
      have hy := lb y (by simp)
      have e1 : x = y := by omega
      have e2 : val xs = val ys := by omega
      rw [e1, ih (fun z hz => la z (by simp [hz])) (fun z hz => lb z (by simp [hz])) e2 (by simpa using hlen)]

theorem len_le_of_val {a b : List Int} (la : Lim a) (lb : Lim b) (ta : Top a) (h : val a ≤ val b) : a.length ≤ b.length := by
  by_cases hne : a = []
  · subst hne; simp
  · have h1 := val_pos_of_top la ta hne
    have h2 := val_lt lb
    have h3 : ¬ b.length ≤ a.length - 1 := fun hc => by have := pow_le hc; omega
    have : 0 < a.length := List.length_pos_iff.2 hne
    omega

theorem eq_of_val {a b : List Int} (la : Lim a) (lb : Lim b) (ta : Top a) (tb : Top b) (h : val a = val b) : a = b :=
  val_inj la lb h (Nat.le_antisymm (len_le_of_val la lb ta (by omega)) (len_le_of_val lb la tb (by omega)))

theorem val_set (zs : List Int) (i : Nat) (v : Int) (h : i < zs.length) : val (zs.set i v) = val zs + 4294967296 ^ i * (v - zs.getD i 0) := by
  induction zs generalizing i with
  | nil => simp at h
  | cons z zs ih =>
    cases i with
    | zero => simp [val]; omega
    | succ i =>
      simp only [List.set_cons_succ, val, ih i (by simpa using h), Int.pow_succ]
      have : (z :: zs).getD (i + 1) 0 = zs.getD i 0 := by simp [List.getD]
      rw [this]
      grind

theorem Lim_set {zs : List Int} (h : Lim zs) (i : Nat) {v : Int} (h0 : 0 ≤ v) (h1 : v ≤ 4294967295) : Lim (zs.set i v) := by
  intro z hz
  rcases List.mem_or_eq_of_mem_set hz with h' | rfl
  · exact h z h'
  · exact ⟨h0, h1⟩

theorem getD_set_ne {zs : List Int} {i j : Nat} {v : Int} (h : i ≠ j) : (zs.set i v).getD j 0 = zs.getD j 0 := by
  simp [List.getD, h]

theorem getD_set_eq {zs : List Int} {i : Nat} {v : Int} (h : i < zs.length) : (zs.set i v).getD i 0 = v := by
  simp [List.getD, h]

theorem val_replicate (n : Nat) : val (List.replicate n 0) = 0 := by
  induction n with
  | zero => rfl
  | succ n ih => simp [List.replicate_succ, val, ih]

theorem Lim_replicate (n : Nat) : Lim (List.replicate n 0) := by
  intro z hz; rw [List.eq_of_mem_replicate hz]; omega

theorem val_split (zs : List Int) (i : Nat) : val zs = val (zs.take i) + 4294967296 ^ (zs.take i).length * val (zs.drop i) := by
  rw [← val_append, List.take_append_drop]

theorem drop_getD {a : List Int} {i : Nat} (h : i < a.length) : a.drop i = a.getD i 0 :: a.drop (i + 1) := by
  rw [getD_lt h]; exact List.drop_eq_getElem_cons h

theorem val_cmp {a b : List Int} (la : Lim a) (lb : Lim b) {i : Nat} (hl : a.length = b.length) (hi : i < a.length) (hd : val (a.drop (i + 1)) = val (b.drop (i + 1))) (h : a.getD i 0 < b.getD i 0) : val a < val b := by
  rw [val_split a i, val_split b i, drop_getD hi, drop_getD (by omega : i < b.length)]
  simp only [val, hd, List.length_take, Nat.min_eq_left (by omega : i ≤ a.length), Nat.min_eq_left (by omega : i ≤ b.length)]
  have h1 := val_lt (Lim_take la i)
  have h2 := val_nonneg (Lim_take lb i)
  rw [List.length_take, Nat.min_eq_left (by omega)] at h1
  have h3 : (4294967296 : Int) ^ i * (a.getD i 0 + 4294967296 * val (b.drop (i + 1)) + 1) ≤ 4294967296 ^ i * (b.getD i 0 + 4294967296 * val (b.drop (i + 1))) :=
    Int.mul_le_mul_of_nonneg_left (by omega) (by have := pow_pos i; omega)
  rw [Int.mul_add _ _ 1] at h3
  omega

theorem val_lt_of_len {a b : List Int} (la : Lim a) (lb : Lim b) (tb : Top b) (h : a.length < b.length) : val a < val b := by
  have h1 := val_lt la
  have h2 := val_pos_of_top lb tb (by intro hb; subst hb; simp at h)
  have h3 := pow_le (show a.length ≤ b.length - 1 by omega)
  omega

/-- one step of the inner loop of a product -/
theorem prod_step {r : List Int} {i k : Nat} {S x c : Int} {b : List Int} (hk : i + k < r.length)
    (h : val r + 4294967296 ^ (i + k) * c = S + 4294967296 ^ i * (x * val (b.take k))) :
    val (r.set (i + k) ((x * b.getD k 0 + r.getD (i + k) 0 + c) % 4294967296)) + 4294967296 ^ (i + (k + 1)) * ((x * b.getD k 0 + r.getD (i + k) 0 + c) / 4294967296) = S + 4294967296 ^ i * (x * val (b.take (k + 1))) := by
  rw [val_set _ _ _ hk, val_take_succ, show i + (k + 1) = i + k + 1 by omega, Int.pow_succ, Int.pow_add]
  rw [Int.pow_add] at h
  have := Int.emod_add_mul_ediv (x * b.getD k 0 + r.getD (i + k) 0 + c) 4294967296
  grind

theorem prod_bound {x y r c : Int} (hx0 : 0 ≤ x) (hx : x ≤ 4294967295) (hy0 : 0 ≤ y) (hy : y ≤ 4294967295) (hr0 : 0 ≤ r) (hr : r ≤ 4294967295) (hc0 : 0 ≤ c) (hc : c ≤ 4294967295) :
    0 ≤ x * y ∧ x * y ≤ 18446744065119617025 ∧ 0 ≤ x * y + r + c ∧ x * y + r + c ≤ 18446744073709551615 ∧ 0 ≤ (x * y + r + c) / 4294967296 ∧ (x * y + r + c) / 4294967296 ≤ 4294967295 := by
  have h1 : 0 ≤ x * y := Int.mul_nonneg hx0 hy0
  have h2 : x * y ≤ 4294967295 * 4294967295 := Int.mul_le_mul hx hy hy0 (by omega)
  omega

theorem prod_end {r : List Int} {i m : Nat} {c x : Int} {a b : List Int} (hm : b.length = m) (hi : i + m < r.length) (h0 : r.getD (i + m) 0 = 0)
    (h : val r + 4294967296 ^ (i + m) * c = val (a.take i) * val b + 4294967296 ^ i * (x * val (b.take m))) (hx : x = a.getD i 0) :
    val (r.set (i + m) c) = val (a.take (i + 1)) * val b := by
  rw [val_set _ _ _ hi, h0, val_take_succ, ← hx]
  rw [List.take_of_length_le (l := b) (by omega)] at h
  grind

/-- At the slice's address lie these limbs. -/
def Cells (w : World) (ao : Option Addr) (zs : List Int) : Prop :=
  zs = [] ∨ ∃ b o, ao = some ⟨b, o, none⟩ ∧ ∀ i, i < zs.length → w.cell? ⟨b, o + i, none⟩ = some (.int .u32 (zs.getD i 0))

/-- A slice value of limbs, as any function may be handed it. -/
structure Sl (w : World) (ao : Option Addr) (n cap : Nat) (zs : List Int) : Prop where
  len : zs.length = n
  le : n ≤ cap
  most : cap ≤ maxLen
  nil : ao = none → cap = 0
  cells : Cells w ao zs

/-- The limbs lie in a row from block B on. -/
def Own (B : Nat) (w : World) (ao : Option Addr) (n cap : Nat) (zs : List Int) : Prop :=
  w.ownsRow B 138 1 (.slice ao n cap) n (zs.map (Value.int .u32))

theorem ret_slice {a : Option Addr} {n m c : Nat} (h : n = m) : Ending.returned (.slice a n c) = .returned (.slice a m c) := by rw [h]

theorem ret_int {k : IntKind} {a b : Int} (h : a = b) : Ending.returned (.int k a) = .returned (.int k b) := by rw [h]

theorem Cells.below {w w' : World} {ao : Option Addr} {zs : List Int} (h : Cells w ao zs) (hb : Below w.heap.size w w') : Cells w' ao zs := by
  rcases h with h | ⟨b, o, h1, h2⟩
  · exact .inl h
  · refine .inr ⟨b, o, h1, fun i hi => ?_⟩
    have := h2 i hi
    rw [hb.cell (World.block_lt_of_cell? w _ this)]
    exact this

theorem Cells.take {w : World} {ao : Option Addr} {zs : List Int} (h : Cells w ao zs) (n : Nat) : Cells w ao (zs.take n) := by
  rcases h with h | ⟨b, o, h1, h2⟩
  · exact .inl (by rw [h]; simp)
  · refine .inr ⟨b, o, h1, fun i hi => ?_⟩
    rw [List.length_take] at hi
    rw [h2 i (by omega)]
    have : (zs.take n).getD i 0 = zs.getD i 0 := by simp [List.getD, show i < n by omega]
    rw [this]

theorem Sl.below {w w' : World} {ao : Option Addr} {n cap : Nat} {zs : List Int} (h : Sl w ao n cap zs) (hb : Below w.heap.size w w') : Sl w' ao n cap zs :=
  ⟨h.len, h.le, h.most, h.nil, h.cells.below hb⟩

theorem Own.sl {B : Nat} {w : World} {ao : Option Addr} {n cap : Nat} {zs : List Int} (h : Own B w ao n cap zs) : Sl w ao n cap zs := by
  have h1 := h.1
  simp only [List.length_map, Nat.mul_one] at h1
  rcases h.2 with ⟨hv, hn⟩ | ⟨g, c, cur, hv, hb, hg, hnc, hcm, hcs, htake⟩
  · simp only [Value.slice.injEq] at hv
    obtain ⟨rfl, rfl, rfl⟩ := hv
    exact ⟨h1, Nat.le_refl _, Nat.zero_le _, fun _ => rfl, .inl (List.eq_nil_of_length_eq_zero h1)⟩
  · simp only [Value.slice.injEq] at hv
    obtain ⟨rfl, _, rfl⟩ := hv
    refine ⟨h1, hnc, hcm, (fun hno => nomatch hno), .inr ⟨g, 0, rfl, fun i hi => ?_⟩⟩
    have := World.ownsRow.cellAt h i (by omega)
    rw [Nat.zero_add, this, List.getElem?_map, List.getElem?_eq_getElem hi, getD_lt hi]
    rfl

theorem info_u32 : (Tryz.prog.info? 138).map (fun i => (i.zero, i.size, i.bytes)) = some (some (.int .u32 0), 1, 4) := by kernel_rfl

theorem trim_any (w : World) (ao : Option Addr) (n cap : Nat) (zs : List Int) (hz : zs.length = n) (hn : n ≤ cap) (hc : cap ≤ maxLen) (h : Cells w ao zs) :
    Calls Tryz.prog 152 #[.slice ao n cap] w fun e w' => e = .returned (.slice ao (tl zs n) cap) ∧ w = w' := by
  unfold maxLen at hc
  rcases h with rfl | ⟨b, o, rfl, hcell⟩
  · subst hz
    go_enter Tryz.func152, Tryz.ntmps152
    go_wp2
    refine wp_loop_rounds 1 ?_; rw [rounds_succ]
    go_wp2
    go_ret
    exact ⟨rfl, rfl⟩
  · have HC := Lib.hid hcell
    clear hcell
    have hz' : n ≤ zs.length := by omega
    clear hz
    go_enter Tryz.func152, Tryz.ntmps152
    go_wp2
    go_loop [3] (fun v => ∃ k : Nat, k ≤ n ∧ v = .int .i64 k ∧ tl zs n = tl zs k) (fun v => (intOf v).toNat)
    case atStart => exact ⟨n, Nat.le_refl _, rfl, rfl⟩
    case round =>
      obtain ⟨k, hk, rfl, he⟩ := hrel
      have HE := Lib.hid he
      clear he
      by_cases hk0 : k = 0
      · subst hk0
        go_wp2
        go_ret
        exact ⟨by rw [HE.out]; rfl, rfl⟩
      · obtain ⟨j, rfl⟩ : ∃ j, k = j + 1 := ⟨k - 1, by omega⟩
        have hcj : w.cell? ⟨b, o + j, none⟩ = some (.int .u32 (zs.getD j 0)) := HC.out j (by omega)
        have ht : tl zs (j + 1) = if zs.getD j 0 = 0 then tl zs j else j + 1 := rfl
        generalize zs.getD j 0 = z at hcj ht
        have HT := Lib.hid ht
        clear ht
        by_cases hzero : z = 0
        · have hb : (z == 0) = true := by simpa using hzero
          go_wp2
          go_round
          case rel => exact ⟨j, by omega, by go_num, by rw [HE.out, HT.out, if_pos hzero]⟩
          case measure => simp [intOf]
        · have hb : (z == 0) = false := by simpa using hzero
          go_wp2
          go_ret
          exact ⟨ret_slice (by rw [HE.out, HT.out, if_neg hzero]), rfl⟩

theorem limb_any (w : World) (ao : Option Addr) (n cap : Nat) (zs : List Int) (i : Int) (hz : zs.length = n) (h : Cells w ao zs) (hi : 0 ≤ i) :
    Calls Tryz.prog 159 #[.slice ao n cap, .int .i64 i] w fun e w' => e = .returned (.int .u32 (zs.getD i.toNat 0)) ∧ w = w' := by
  by_cases hlt : (n : Int) ≤ i
  · go_enter Tryz.func159, Tryz.ntmps159
    go_wp2
    go_ret
    exact ⟨by rw [getD_ge (by omega)]; rfl, rfl⟩
  · rcases h with rfl | ⟨b, o, rfl, hcell⟩
    · simp at hz; omega
    · have hc := hcell i.toNat (by omega)
      clear hcell
      obtain ⟨j, rfl⟩ := Int.eq_ofNat_of_zero_le hi
      simp only [Int.toNat_natCast] at hc ⊢
      generalize zs.getD j 0 = z at hc ⊢
      clear hz
      go_enter Tryz.func159, Tryz.ntmps159
      go_wp2
      go_ret
      exact ⟨rfl, rfl⟩

theorem clone_any (w : World) (ao : Option Addr) (n cap : Nat) (zs : List Int) (h : Sl w ao n cap zs) (hn : n ≤ 34359738368) :
    Calls Tryz.prog 113 #[.slice ao n cap] w fun e w' => ∃ ao' cap', e = .returned (.slice ao' n cap') ∧ Own w.heap.size w' ao' n cap' zs ∧ Below w.heap.size w w' := by
  obtain ⟨hlen, hle, hmost, hnil, hcells⟩ := h
  obtain ⟨i0, hi, hz0, hz1, hz2⟩ := info_parts info_u32
  cases ao with
  | none =>
    obtain rfl := hnil rfl
    obtain rfl : n = 0 := by omega
    obtain rfl := List.eq_nil_of_length_eq_zero hlen
    have hown := World.ownsRow_nil w w.heap.size 138 1
    go_enter Tryz.func113, Tryz.ntmps113
    go_wp2
    go_ret
    exact ⟨_, _, rfl, hown, Below.refl _ _⟩
  | some ad =>
    have hnews : ∀ j u, (zs.map (Value.int .u32))[j]? = some u → w.cell? (ad.add j) = some u := by
      intro j u hj
      rw [List.getElem?_map] at hj
      obtain ⟨z, hz, rfl⟩ := Option.map_eq_some_iff.1 hj
      obtain ⟨hjl, rfl⟩ := List.getElem?_eq_some_iff.1 hz
      rcases hcells with rfl | ⟨b, o, hao, hc⟩
      · simp at hjl
      · cases hao
        have := hc j hjl
        rw [getD_lt hjl] at this
        rw [Addr.add_lit]
        exact this
    have HN := Lib.hid hnews
    clear hnews hcells
    have HL := Lib.hid hlen
    clear hlen
    go_enter Tryz.func113, Tryz.ntmps113
    go_wp2_with (at_builtin; refine wpList_append_own _ rfl _ _ 22 rfl w.heap.size 138 i0 (.int .u32 0) 1 4 Tryz.underlying22 hi hz0 hz1 hz2 rfl (by decide) _ _ _ rfl (World.ownsRow_nil _ _ _ _) ad n cap (zs.map (Value.int .u32)) rfl ?c1 ?c2 ?c3 ?c4 ?c5 ?c6 ?_)
    case c1 => rw [List.length_map, HL.out]; omega
    case c2 => exact HN.out
    case c3 => exact ints_oneCell _ _
    case c4 => unfold maxLen; omega
    case c5 => omega
    case c6 => exact Nat.le_refl _
    intro v' w1 hown hgrow _
    have hb : Below w.heap.size w w1 := (Below.refl _ _).grown hgrow (Nat.le_refl _) (by intro k hk; simp [Value.ownBlock] at hk)
    obtain ⟨ao', cap', rfl⟩ : ∃ ao' cap', v' = .slice ao' n cap' := by
      rcases hown.2 with ⟨hv, h0⟩ | ⟨g, c, cur, hv, _⟩
      · exact ⟨none, 0, by rw [hv, h0]⟩
      · exact ⟨_, _, hv⟩
    go_wp2
    go_ret
    exact ⟨_, _, rfl, hown, hb⟩

theorem heap_alloc2 (w : World) (o1 o2 : Obj) : ((w.alloc o1).alloc o2).heap[w.heap.size + 1]? = some o2 ∧ ((w.alloc o1).alloc o2).heap[w.heap.size]? = some o1 := by
  refine ⟨by have := heap_alloc_new (w.alloc o1) o2; simpa using this, ?_⟩
  rw [heap_alloc_old _ _ (by simp)]
  exact heap_alloc_new w o1

theorem blk2 {w : World} {B : Nat} {a b : Value} {t : TypeId} (h : w.heap[B]? = some (.cells #[a, b] t (0, 0))) :
    w.cell? ⟨B, 0, none⟩ = some a ∧ w.cell? ⟨B, 1, none⟩ = some b ∧ w.frozen? ⟨B, 0, none⟩ = false ∧ w.frozen? ⟨B, 1, none⟩ = false :=
  ⟨by rw [cell_of_row w B 0 _ t (0, 0) h]; rfl, by rw [cell_of_row w B 1 _ t (0, 0) h]; rfl, frozen_of_row w B 0 _ t h, frozen_of_row w B 1 _ t h⟩

def sgn (neg : Bool) (v : Int) : Int := if neg then - v else v

/-- The sign and the slice hold the integer x, in at most L limbs. -/
structure IntAt (w : World) (neg : Bool) (ao : Option Addr) (n cap : Nat) (zs : List Int) (x : Int) : Prop where
  sl : Sl w ao n cap zs
  lim : Lim zs
  top : Top zs
  sign : neg = true → zs ≠ []
  val : x = sgn neg (val zs)

theorem IntAt.below {w w' : World} {neg : Bool} {ao : Option Addr} {n cap : Nat} {zs : List Int} {x : Int} (h : IntAt w neg ao n cap zs x) (hb : Below w.heap.size w w') : IntAt w' neg ao n cap zs x :=
  ⟨h.sl.below hb, h.lim, h.top, h.sign, h.val⟩

theorem wrap_any (w : World) (neg : Bool) (ao : Option Addr) (n cap : Nat) (zs : List Int) (h : Sl w ao n cap zs) :
    Calls Tryz.prog 112 #[.bool neg, .slice ao n cap] w fun e w' => e = .returned (.agg #[.bool (neg && decide ((0 : Int) < (tl zs n : Nat))), .slice ao (tl zs n) cap]) ∧ Below w.heap.size w w' := by
  have htl := tl_le zs n
  have hle := h.le
  have hmost := h.most
  have ht : ∀ w1, Below w.heap.size w w1 → Calls Tryz.prog 152 #[.slice ao n cap] w1 fun e w' => e = .returned (.slice ao (tl zs n) cap) ∧ w1 = w' :=
    fun w1 hb => trim_any w1 ao n cap zs h.len h.le h.most (h.cells.below hb)
  have HT := Lib.hid ht
  clear ht h
  unfold maxLen at hmost
  cases neg
  all_goals
    go_enter Tryz.func112, Tryz.ntmps112
    go_wp2_with fail
    refine (HT.out _ (by go_grown)).mono ?_
    rintro e w' ⟨rfl, rfl⟩
    go_wp2
    go_returns
    exact ⟨by simp, by go_grown⟩

/-- An integer was returned: the value x, in at most L limbs. -/
def RetInt (w : World) (x : Int) (L : Nat) (e : Ending) (w' : World) : Prop :=
  ∃ neg ao n cap zs, e = .returned (.agg #[.bool neg, .slice ao n cap]) ∧ IntAt w' neg ao n cap zs x ∧ n ≤ L ∧ Below w.heap.size w w'

theorem wrap_int (w : World) (neg : Bool) (ao : Option Addr) (n cap : Nat) (zs : List Int) (h : Sl w ao n cap zs) (hl : Lim zs) {x : Int} (hx : x = sgn neg (val zs)) :
    Calls Tryz.prog 112 #[.bool neg, .slice ao n cap] w (RetInt w x n) := by
  refine (wrap_any w neg ao n cap zs h).mono ?_
  rintro e w' ⟨rfl, hb⟩
  have hle := tl_le zs n
  have hlen := h.len
  have hv : val (trm zs) = val zs := trm_val zs
  have hn : (trm zs).length = tl zs n := by rw [trm_length, hlen]
  have hs := h.below hb
  refine ⟨_, _, _, _, trm zs, rfl, ⟨⟨hn, Nat.le_trans hle h.le, h.most, h.nil, ?_⟩, trm_lim hl, trm_top zs, ?_, ?_⟩, hle, hb⟩
  · exact hs.cells.take _
  · intro hneg hnil
    rw [hnil] at hn
    simp at hneg hn
    omega
  · rw [hx, hv]
    by_cases h0 : tl zs n = 0
    · have : val zs = 0 := by rw [← hv, List.eq_nil_of_length_eq_zero (hn.trans h0)]; rfl
      rw [this]; simp [sgn]
    · have : decide ((0 : Int) < (tl zs n : Nat)) = true := by simp; omega
      rw [this, Bool.and_true]

theorem Cells.setCell {w : World} {ao : Option Addr} {zs : List Int} (h : Cells w ao zs) {p : Addr} (u : Value) (hp : ∀ z, w.cell? p ≠ some (.int .u32 z)) : Cells (w.setCell p u) ao zs := by
  rcases h with h | ⟨b, o, h1, h2⟩
  · exact .inl h
  · refine .inr ⟨b, o, h1, fun i hi => ?_⟩
    have h3 := h2 i hi
    rw [World.cell?_setCell_other]
    · exact h3
    · intro e; rw [e] at hp; exact hp _ h3

theorem IntAt.setCell {w : World} {neg : Bool} {ao : Option Addr} {n cap : Nat} {zs : List Int} {x : Int} (h : IntAt w neg ao n cap zs x) {p : Addr} (u : Value) (hp : ∀ z, w.cell? p ≠ some (.int .u32 z)) : IntAt (w.setCell p u) neg ao n cap zs x :=
  ⟨⟨h.sl.len, h.sl.le, h.sl.most, h.sl.nil, h.sl.cells.setCell u hp⟩, h.lim, h.top, h.sign, h.val⟩

/-- Behind the two stores into the result's variable the integer is there as before. -/
theorem IntAt.stored {w : World} {neg : Bool} {ao : Option Addr} {n cap : Nat} {zs : List Int} {x : Int} (h : IntAt w neg ao n cap zs x) {B : Nat} {a : Bool} {b : Option Addr} {c d : Nat} (hb : w.heap[B]? = some (.cells #[.bool a, .slice b c d] 31 (0, 0))) (u v : Value) :
    IntAt ((w.setCell ⟨B, 0, none⟩ u).setCell ⟨B, 1, none⟩ v) neg ao n cap zs x := by
  obtain ⟨h0, h1, _, _⟩ := blk2 hb
  refine (h.setCell u ?_).setCell v ?_
  · rw [h0]; simp
  · intro z; rw [World.cell?_setCell_other _ _ _ _ (by simp), h1]; simp

theorem make_int (w : World) (neg : Bool) (ao : Option Addr) (n cap : Nat) (zs : List Int) (h : Sl w ao n cap zs) (hl : Lim zs) (hn : n ≤ 34359738368) :
    Calls Tryz.prog 74 #[.bool neg, .slice ao n cap] w (RetInt w (sgn neg (val zs)) n) := by
  have hc := fun w1 hb => clone_any w1 ao n cap zs (h.below hb) hn
  have HC := Lib.hid hc
  clear hc h
  go_enter Tryz.func74, Tryz.ntmps74
  go_wp2_with fail
  refine (HC.out _ (by go_grown)).mono ?_
  rintro e w1 ⟨ao1, cap1, rfl, hown, hb1⟩
  have hr1 : w1.heap[w.heap.size]? = some (.cells #[.bool false, .slice none 0 0] 31 (0, 0)) := (hb1.block _ (by simp)).trans (heap_alloc_new w _)
  have hz1 : w.heap.size + 1 ≤ w1.heap.size := by have := hb1.size; simp at this; omega
  have hb2 : Below w.heap.size w w1 := ((Below.refl _ _).alloc (Nat.le_refl _) _).trans (hb1.mono (by simp))
  have HS := Lib.hid hown.sl
  have HR := Lib.hid hr1
  clear hown hr1
  go_wp2_with fail
  refine (wrap_int w1 neg ao1 n cap1 zs HS.out hl rfl).mono ?_
  rintro e w2 ⟨neg', ao', n', cap', zs', rfl, hint, hn', hb3⟩
  have hr2 := (hb3.block _ (by omega)).trans HR.out
  have hb4 : Below w.heap.size w w2 := hb2.trans (hb3.mono (by omega))
  obtain ⟨c0, c1, f0, f1⟩ := blk2 hr2
  have HI := Lib.hid (hint.stored hr2 (.bool neg') (.slice ao' n' cap'))
  clear hint hr2
  go_wp2
  refine bodyPost_ret (v := .agg #[.bool neg', .slice ao' n' cap']) (by simp [results, Tryz.results74, go_sem, c0, c1]) rfl ?_
  exact ⟨_, _, _, _, _, rfl, HI.out, hn', (hb4.setCell (Nat.le_refl _) _).setCell (Nat.le_refl _) _⟩

theorem neg_int (w : World) (neg : Bool) (ao : Option Addr) (n cap : Nat) (zs : List Int) (x : Int) (h : IntAt w neg ao n cap zs x) (hn : n ≤ 34359738368) :
    Calls Tryz.prog 62 #[.agg #[.bool neg, .slice ao n cap]] w (RetInt w (-x) n) := by
  have hc := fun w1 hb => clone_any w1 ao n cap zs (h.sl.below hb) hn
  have HC := Lib.hid hc
  clear hc
  go_enter Tryz.func62, Tryz.ntmps62
  go_wp2_with fail
  go_region_held3 (fun w' => w'.cell? ⟨w.heap.size, 0, none⟩ = some (.bool neg) ∧ w'.cell? ⟨w.heap.size, 1, none⟩ = some (.slice ao n cap)) (first | go_keep | (go_split_ands; refine ⟨?_, ?_⟩ <;> (rw [hb1.cell (by simp; omega)]; assumption)) | (go_split_ands; refine ⟨?_, ?_⟩ <;> (rw [hb3.cell (by simp; omega)]; assumption)))
    (first | (go_at_call 113; refine (HC.out _ ?_).mono ?_; (go_grown); rintro e w1 ⟨ao1, cap1, rfl, hown, hb1⟩; have hr1 := (hb1.block (w.heap.size + 1) (by simp)).trans (heap_alloc2 _ _ _).1; have hz1 := hb1.size; simp only [World.drew, World.size_alloc] at hz1) | (go_at_call 112; refine (wrap_int _ _ _ _ _ _ hown.sl h.lim rfl).mono ?_; rintro e w2 ⟨neg', ao', n', cap', zs', rfl, hint, hn', hb3⟩; have hr2 := (hb3.block _ (by omega)).trans hr1; obtain ⟨c0, c1, f0, f1⟩ := blk2 hr2; have HI := Lib.hid (hint.stored hr2 (.bool neg') (.slice ao' n' cap')); clear hint hr2 hr1))
  have hb4 : Below w.heap.size w w2 := ((((Below.refl _ _).alloc (Nat.le_refl _) _).alloc (by simp) _).drew.trans (hb1.mono (by simp [World.drew]; omega))).trans (hb3.mono (by omega))
  have hx : sgn (!neg) (val zs) = -x := by rw [h.val]; cases neg <;> simp [sgn]
  have HX := Lib.hid hx
  clear hx
  go_wp2
  refine bodyPost_ret (v := .agg #[.bool neg', .slice ao' n' cap']) (by simp [results, Tryz.results62, go_sem, c0, c1]) rfl ?_
  exact ⟨_, _, _, _, _, rfl, HX.out ▸ HI.out, hn', (hb4.setCell (by simp) _).setCell (by simp) _⟩

theorem limb_at {w : World} {ao : Option Addr} {n cap : Nat} {zs : List Int} (h : Sl w ao n cap zs) (w1 : World) (hb : Below w.heap.size w w1) (k : Nat) :
    Calls Tryz.prog 159 #[.slice ao n cap, .int .i64 k] w1 fun e w' => e = .returned (.int .u32 (zs.getD k 0)) ∧ w1 = w' := by
  have := limb_any w1 ao n cap zs k h.len (h.cells.below hb) (by omega)
  simpa using this

/-- A row of the call's own: the limbs ys, all of them. -/
def Mine (B : Nat) (w : World) (g : Nat) (ys : List Int) : Prop := Own B w (some ⟨g, 0, none⟩) ys.length ys.length ys

theorem Mine.cell {B : Nat} {w : World} {g : Nat} {ys : List Int} (h : Mine B w g ys) (j : Nat) (hj : j < ys.length) : w.cell? ⟨g, j, none⟩ = some (.int .u32 (ys.getD j 0)) ∧ w.frozen? ⟨g, j, none⟩ = false := by
  refine ⟨?_, World.ownsRow.frozenAt h j⟩
  rw [World.ownsRow.cellAt h j (by omega), List.getElem?_map, List.getElem?_eq_getElem hj, getD_lt hj]
  rfl

theorem Mine.set {B : Nat} {w : World} {g : Nat} {ys : List Int} (h : Mine B w g ys) (j : Nat) (v : Int) : Mine B (w.setCell ⟨g, j, none⟩ (.int .u32 v)) g (ys.set j v) := by
  have := (World.ownsRow.stored h j (.int .u32 v)).1
  unfold Mine Own
  rw [List.length_set, List.map_set]
  exact this

theorem sum_step' {ys a b : List Int} {k : Nat} {c : Int} (hk : k < ys.length) (h0 : ys.getD k 0 = 0) (h : val ys + 4294967296 ^ k * c = val (a.take k) + val (b.take k)) {x y : Int} (hx : a.getD k 0 = x) (hy : b.getD k 0 = y) :
    val (ys.set k ((x + y + c) % 4294967296)) + 4294967296 ^ (k + 1) * ((x + y + c) / 4294967296) = val (a.take (k + 1)) + val (b.take (k + 1)) := by
  rw [val_set _ _ _ hk, h0, val_take_succ, val_take_succ, hx, hy, Int.pow_succ]
  have := Int.emod_add_mul_ediv (x + y + c) 4294967296
  grind

theorem Own.trimmed {B : Nat} {w : World} {ao : Option Addr} {n cap : Nat} {zs : List Int} (h : Own B w ao n cap zs) (k : Nat) (hk : k ≤ n) : Own B w ao k cap (zs.take k) := by
  have hl : zs.length = n := h.sl.len
  refine ⟨by simp; omega, ?_⟩
  rcases h.2 with ⟨hv, hn⟩ | ⟨g, c, cur, hv, hb, hg, hnc, hcm, hcs, htake⟩
  · simp only [Value.slice.injEq] at hv
    obtain ⟨rfl, rfl, rfl⟩ := hv
    exact .inl ⟨by rw [show k = 0 by omega], by omega⟩
  · simp only [Value.slice.injEq] at hv
    obtain ⟨rfl, _, rfl⟩ := hv
    refine .inr ⟨g, cap, cur, rfl, hb, hg, by omega, hcm, hcs, ?_⟩
    rw [List.map_take, ← htake, List.take_take]
    congr 1
    omega

/-- Limbs of a row of the call's own were returned; their value is x, at the top stands no zero, there are at most L. -/
def RetNat (w : World) (x : Int) (L : Nat) (e : Ending) (w' : World) : Prop :=
  ∃ ao n cap zs, e = .returned (.slice ao n cap) ∧ Own w.heap.size w' ao n cap zs ∧ Lim zs ∧ Top zs ∧ val zs = x ∧ n ≤ L ∧ Below w.heap.size w w'

theorem trim_own (w0 w : World) (ao : Option Addr) (n cap : Nat) (zs : List Int) (h : Own w0.heap.size w ao n cap zs) (hl : Lim zs) (hb : Below w0.heap.size w0 w) {x : Int} (hx : val zs = x) :
    Calls Tryz.prog 152 #[.slice ao n cap] w (RetNat w0 x n) := by
  have hs := h.sl
  refine (trim_any w ao n cap zs hs.len hs.le hs.most hs.cells).mono ?_
  rintro e w' ⟨rfl, rfl⟩
  have ht := tl_le zs n
  have e1 : zs.take (tl zs n) = trm zs := by rw [trm, hs.len]
  refine ⟨_, _, _, trm zs, rfl, ?_, trm_lim hl, trm_top zs, (trm_val zs).trans hx, ht, hb⟩
  have := h.trimmed (tl zs n) ht
  rw [e1] at this
  exact this

theorem made_mine {B : Nat} {w : World} {g n : Nat} (h : w.ownsRow B 138 1 (.slice (some ⟨g, 0, none⟩) n n) n (madeCells #[.int .u32 0] n).toList) : Mine B w g (List.replicate n 0) := by
  rw [toList_madeCells_one] at h
  unfold Mine Own
  simpa using h

set_option maxRecDepth 100000 in
theorem sum_any (w : World) (ao bo : Option Addr) (n m capa capb : Nat) (xs ys : List Int) (hx : Sl w ao n capa xs) (hy : Sl w bo m capb ys) (lx : Lim xs) (ly : Lim ys) (hn : n ≤ 34359738368) (hm : m ≤ 34359738368) :
    Calls Tryz.prog 134 #[.slice ao n capa, .slice bo m capb] w (RetNat w (val xs + val ys) (max n m + 1)) := by
  have HLX := Lib.hid (limb_at hx)
  have HLY := Lib.hid (limb_at hy)
  have elx := hx.len
  have ely := hy.len
  obtain ⟨i0, hi, hz0, hz1, hz2⟩ := info_parts info_u32
  clear hx hy
  have HEX : Hid (xs.length = n) := elx
  have HEY : Hid (ys.length = m) := ely
  clear elx ely
  rcases (show (n < m ∧ max n m = m) ∨ (¬ n < m ∧ max n m = n) by omega) with ⟨hlt, hmax⟩ | ⟨hlt, hmax⟩
  obtain ⟨s, rfl⟩ : ∃ s, s = m := ⟨m, rfl⟩
  rotate_left
  obtain ⟨s, rfl⟩ : ∃ s, s = n := ⟨n, rfl⟩
  all_goals
    rw [hmax]
    clear hmax
    go_enter Tryz.func134, Tryz.ntmps134
    go_wp2_with (at_make; refine wpList_make_full _ rfl _ _ 22 rfl w.heap.size 138 i0 (.int .u32 0) 1 Tryz.underlying22 hi hz0 hz1 _ _ _ _ (s + 1) rfl rfl (by omega) (by omega) (by rw [hz2]; omega) (by unfold maxLen; omega) (Nat.le_refl _) ?_)
    intro w1 hown hgrow
    have hb1 : Below w.heap.size w w1 := (Below.refl _ _).grown hgrow (Nat.le_refl _) (by intro k hk; cases hk)
    have hm1 := made_mine hown
    clear hown hgrow
    go_wp2_with fail
    go_loopw [7, 19] (fun c i wr => ∃ (k : Nat) (cy : Int) (zs : List Int), k ≤ s ∧ i = .int .i64 k ∧ c = .int .u64 cy ∧ 0 ≤ cy ∧ cy ≤ 1 ∧ zs.length = s + 1 ∧ Lim zs ∧ (∀ j, k ≤ j → zs.getD j 0 = 0) ∧
        val zs + 4294967296 ^ k * cy = val (xs.take k) + val (ys.take k) ∧ Mine w.heap.size wr w.heap.size zs ∧ Below w.heap.size w wr)
      (fun _ i _ => s - (intOf i).toNat)
    case atStart => exact ⟨0, 0, _, Nat.zero_le _, rfl, rfl, by omega, by omega, List.length_replicate, Lim_replicate _, fun j _ => by simp [List.getD, List.getElem?_replicate]; split <;> rfl, by simp [val_replicate, val], hm1, hb1⟩
    case round =>
      obtain ⟨k, cy, zs, hk, rfl, rfl, hcy0, hcy1, hzl, hlim, hzero, hval, hmine, hbel⟩ := hrel
      have HZ := Lib.hid hzero
      have HV := Lib.hid hval
      have HL := Lib.hid hzl
      have HM := Lib.hid hmine
      clear hzero hval hzl hmine hm1 hb1
      by_cases hks : k < s
      · obtain ⟨a, ha⟩ : ∃ a, xs.getD k 0 = a := ⟨_, rfl⟩
        obtain ⟨b, hb⟩ : ∃ b, ys.getD k 0 = b := ⟨_, rfl⟩
        have hla := Lim_getD lx k
        have hlb := Lim_getD ly k
        have hcx := HLX.out wr hbel k
        have hcy := HLY.out wr hbel k
        rw [ha] at hla hcx
        rw [hb] at hlb hcy
        obtain ⟨ha0, ha1⟩ := hla
        obtain ⟨hb0, hb1⟩ := hlb
        have HCX := Lib.hid hcx
        have HCY := Lib.hid hcy
        have HA := Lib.hid ha
        have HB := Lib.hid hb
        clear hcx hcy ha hb
        obtain ⟨hcell, hfrz⟩ := HM.out.cell k (by rw [HL.out]; omega)
        go_wp2_with fail
        refine HCX.out.mono ?_
        rintro e w2 ⟨rfl, rfl⟩
        go_wp2_with fail
        refine HCY.out.mono ?_
        rintro e w2 ⟨rfl, rfl⟩
        go_wp2_with fail
        go_roundw
        case rel =>
          have hzl := HL.out
          exact ⟨k + 1, (a + b + cy) / 4294967296, zs.set k ((a + b + cy) % 4294967296), by omega, by go_num, rfl, by omega, by omega, by rw [List.length_set]; exact hzl, Lim_set hlim k (by omega) (by omega),
            fun j hj => by rw [getD_set_ne (by omega)]; exact HZ.out j (by omega), sum_step' (by omega) (HZ.out k (Nat.le_refl _)) HV.out HA.out HB.out, HM.out.set k _, hbel.setCell (Nat.le_refl _) _⟩
        case measure => simp [intOf]; omega
      · obtain rfl : k = s := by omega
        obtain ⟨hcell, hfrz⟩ := HM.out.cell k (by rw [HL.out]; omega)
        go_wp2_with fail
        have hzl := HL.out
        have hm3 := HM.out.set k cy
        have hl3 : Lim (zs.set k cy) := Lim_set hlim k hcy0 (by omega)
        have hv3 : val (zs.set k cy) = val xs + val ys := by
          have hv := HV.out
          have e1 := HEX.out
          have e2 := HEY.out
          rw [List.take_of_length_le (by omega), List.take_of_length_le (by omega)] at hv
          rw [val_set _ _ _ (by omega), HZ.out k (Nat.le_refl _)]
          grind
        unfold Mine at hm3
        rw [List.length_set, hzl] at hm3
        have hfin := trim_own w _ _ _ _ _ hm3 hl3 (hbel.setCell (Nat.le_refl _) _) hv3
        refine hfin.mono ?_
        rintro e w4 ⟨ao4, n4, cap4, zs4, rfl, hres⟩
        have HRES := Lib.hid hres
        clear hres
        go_wp2
        go_ret
        exact ⟨_, _, _, zs4, rfl, HRES.out⟩

theorem diff_step' {ys a b : List Int} {k : Nat} {c : Int} (hk : k < ys.length) (h0 : ys.getD k 0 = 0) (h : val ys - 4294967296 ^ k * c = val (a.take k) - val (b.take k)) {x y : Int} (hx : a.getD k 0 = x) (hy : b.getD k 0 = y) :
    val (ys.set k ((x - y - c) % 4294967296)) - 4294967296 ^ (k + 1) * (- ((x - y - c) / 4294967296)) = val (a.take (k + 1)) - val (b.take (k + 1)) := by
  rw [val_set _ _ _ hk, h0, val_take_succ, val_take_succ, hx, hy, Int.pow_succ]
  have := Int.emod_add_mul_ediv (x - y - c) 4294967296
  grind

theorem borrow_eq {a b c : Int} (ha0 : 0 ≤ a) (ha1 : a ≤ 4294967295) (hb0 : 0 ≤ b) (hb1 : b ≤ 4294967295) (hc0 : 0 ≤ c) (hc1 : c ≤ 1) :
    IntKind.u64.wrap (IntKind.u64.wrap (a - b) - c) / 9223372036854775808 = - ((a - b - c) / 4294967296) ∧ IntKind.u64.wrap (IntKind.u64.wrap (a - b) - c) % 4294967296 = (a - b - c) % 4294967296 := by
  simp only [IntKind.wrap_u64]
  omega

set_option maxRecDepth 100000 in
theorem difference_any (w : World) (ao bo : Option Addr) (n m capa capb : Nat) (xs ys : List Int) (hx : Sl w ao n capa xs) (hy : Sl w bo m capb ys) (lx : Lim xs) (ly : Lim ys) (hn : n ≤ 34359738368) (hle : m ≤ n) (hge : val ys ≤ val xs) :
    Calls Tryz.prog 135 #[.slice ao n capa, .slice bo m capb] w (RetNat w (val xs - val ys) n) := by
  have HLY := Lib.hid (limb_at hy)
  have HEX : Hid (xs.length = n) := hx.len
  have HEY : Hid (ys.length = m) := hy.len
  have HCX := Lib.hid hx.cells
  obtain ⟨i0, hi, hz0, hz1, hz2⟩ := info_parts info_u32
  clear hx hy
  go_enter Tryz.func135, Tryz.ntmps135
  go_wp2_with (at_make; refine wpList_make_full _ rfl _ _ 22 rfl w.heap.size 138 i0 (.int .u32 0) 1 Tryz.underlying22 hi hz0 hz1 _ _ _ _ n rfl rfl rfl rfl (by rw [hz2]; omega) (by unfold maxLen; omega) (Nat.le_refl _) ?_)
  intro w1 hown hgrow
  have hb1 : Below w.heap.size w w1 := (Below.refl _ _).grown hgrow (Nat.le_refl _) (by intro k hk; cases hk)
  have hm1 := made_mine (n := n) (by simpa using hown)
  clear hown hgrow
  go_wp2_with fail
  go_loopw [6, 14] (fun c i wr => ∃ (k : Nat) (cy : Int) (zs : List Int), k ≤ n ∧ i = .int .i64 k ∧ c = .int .u64 cy ∧ 0 ≤ cy ∧ cy ≤ 1 ∧ zs.length = n ∧ Lim zs ∧ (∀ j, k ≤ j → zs.getD j 0 = 0) ∧
      val zs - 4294967296 ^ k * cy = val (xs.take k) - val (ys.take k) ∧ Mine w.heap.size wr w.heap.size zs ∧ Below w.heap.size w wr)
    (fun _ i _ => n - (intOf i).toNat)
  case atStart => exact ⟨0, 0, _, Nat.zero_le _, rfl, rfl, by omega, by omega, List.length_replicate, Lim_replicate _, fun j _ => by simp [List.getD, List.getElem?_replicate]; split <;> rfl, by simp [val_replicate, val], hm1, hb1⟩
  case round =>
    obtain ⟨k, cy, zs, hk, rfl, rfl, hcy0, hcy1, hzl, hlim, hzero, hval, hmine, hbel⟩ := hrel
    have HZ := Lib.hid hzero
    have HV := Lib.hid hval
    have HL := Lib.hid hzl
    have HM := Lib.hid hmine
    clear hzero hval hzl hmine hm1 hb1
    by_cases hks : k < n
    · obtain ⟨a, ha⟩ : ∃ a, xs.getD k 0 = a := ⟨_, rfl⟩
      obtain ⟨b, hb⟩ : ∃ b, ys.getD k 0 = b := ⟨_, rfl⟩
      have hla := Lim_getD lx k
      have hlb := Lim_getD ly k
      have hcy : ∀ nq, Calls Tryz.prog 159 #[.slice bo m capb, .int .i64 k] (wr.drewN nq) fun e w' => e = .returned (.int .u32 b) ∧ w' = wr.drewN nq :=
        fun nq => (HLY.out (wr.drewN nq) (below_drewN hbel nq) k).mono fun _ _ h => ⟨hb ▸ h.1, h.2.symm⟩
      rw [ha] at hla
      rw [hb] at hlb
      obtain ⟨ha0, ha1⟩ := hla
      obtain ⟨hb0, hb1⟩ := hlb
      obtain ⟨ba, oa, rfl, hca⟩ : ∃ b o, ao = some ⟨b, o, none⟩ ∧ wr.cell? ⟨b, o + k, none⟩ = some (.int .u32 a) := by
        rcases HCX.out.below hbel with h | ⟨b, o, h1, h2⟩
        · have := HEX.out; rw [h] at this; simp at this; omega
        · exact ⟨b, o, h1, by rw [← ha]; exact h2 k (by rw [HEX.out]; exact hks)⟩
      have HCY := Lib.hid hcy
      have HA := Lib.hid ha
      have HB := Lib.hid hb
      clear hcy ha hb
      obtain ⟨hcell, hfrz⟩ := HM.out.cell k (by rw [HL.out]; omega)
      have hkk : (k : Int) < n := by omega
      have hk0 : (0 : Int) ≤ k := by omega
      go_wp2_with fail
      have e1 : IntKind.u64.wrap a = a := IntWalk.u64_in _ (by omega)
      have e2 : IntKind.u64.wrap b = b := IntWalk.u64_in _ (by omega)
      go_quiet ((go_at_call 159; exact Calls.quiet_of_same (HCY.out _)))
      go_wp2_with fail
      have hmq : Mine w.heap.size (wr.drewN nq) w.heap.size zs := HM.out
      obtain ⟨q1, q2⟩ := borrow_eq ha0 ha1 hb0 hb1 hcy0 hcy1
      go_roundw
      case rel =>
        have hzl := HL.out
        rw [q1, q2]
        exact ⟨k + 1, - ((a - b - cy) / 4294967296), zs.set k ((a - b - cy) % 4294967296), by omega, by go_num, rfl, by omega, by omega, by rw [List.length_set]; exact hzl, Lim_set hlim k (by omega) (by omega),
          fun j hj => by rw [getD_set_ne (by omega)]; exact HZ.out j (by omega), diff_step' (by omega) (HZ.out k (Nat.le_refl _)) HV.out HA.out HB.out, hmq.set k _, (below_drewN hbel nq).setCell (Nat.le_refl _) _⟩
      case measure => simp [intOf]; omega
    · obtain rfl : k = n := by omega
      go_wp2_with fail
      have hzl := HL.out
      have hm3 := HM.out
      have hv3 : val zs = val xs - val ys := by
        have hv := HV.out
        have e1 := HEX.out
        have e2 := HEY.out
        rw [List.take_of_length_le (by omega), List.take_of_length_le (by omega)] at hv
        have h3 := val_lt hlim
        rw [hzl] at h3
        rcases (show cy = 0 ∨ cy = 1 by omega) with rfl | rfl
        · omega
        · omega
      unfold Mine at hm3
      rw [hzl] at hm3
      have hfin := trim_own w _ _ _ _ _ hm3 hlim hbel hv3
      refine hfin.mono ?_
      rintro e w4 ⟨ao4, n4, cap4, zs4, rfl, hres⟩
      have HRES := Lib.hid hres
      clear hres
      go_wp2
      go_ret
      exact ⟨_, _, _, zs4, rfl, HRES.out⟩

/-- The sign of x - y. -/
def cmpI (x y : Int) : Int := if x < y then -1 else if y < x then 1 else 0

theorem cmpI_lt {x y : Int} (h : x < y) : cmpI x y = -1 := by simp [cmpI, h]

theorem cmpI_gt {x y : Int} (h : y < x) : cmpI x y = 1 := by unfold cmpI; rw [if_neg (by omega), if_pos h]

theorem cmpI_eq {x y : Int} (h : x = y) : cmpI x y = 0 := by unfold cmpI; rw [if_neg (by omega), if_neg (by omega)]

/-- A number was returned, and nothing was written. -/
def RetQ (w : World) (v : Value) (e : Ending) (w' : World) : Prop := e = .returned v ∧ ∃ q, w' = w.drewN q

theorem Cells.at {w : World} {ao : Option Addr} {zs : List Int} (h : Cells w ao zs) {k : Nat} (hk : k < zs.length) : ∃ b o, ao = some ⟨b, o, none⟩ ∧ w.cell? ⟨b, o + k, none⟩ = some (.int .u32 (zs.getD k 0)) := by
  rcases h with h | ⟨b, o, h1, h2⟩
  · rw [h] at hk; simp at hk
  · exact ⟨b, o, h1, h2 k hk⟩

set_option maxRecDepth 100000 in
theorem compare_any (w : World) (ao bo : Option Addr) (n m capa capb : Nat) (xs ys : List Int) (hx : Sl w ao n capa xs) (hy : Sl w bo m capb ys) (lx : Lim xs) (ly : Lim ys) (tx : Top xs) (ty : Top ys) :
    Calls Tryz.prog 114 #[.slice ao n capa, .slice bo m capb] w (RetQ w (.int .i64 (cmpI (val xs) (val ys)))) := by
  have HEX : Hid (xs.length = n) := hx.len
  have HEY : Hid (ys.length = m) := hy.len
  have HCX := Lib.hid hx.cells
  have HCY := Lib.hid hy.cells
  have hmost := hx.most
  have hle := hx.le
  have HB' : Hid (capb ≤ 9223372036854775807 ∧ m ≤ capb) := ⟨by have := hy.most; unfold maxLen at this; omega, hy.le⟩
  unfold maxLen at hmost
  clear hx hy
  by_cases hnm : n = m
  · subst hnm
    go_enter Tryz.func114, Tryz.ntmps114
    go_wp2
    go_loopw [5] (fun i wr => ∃ p : Int, -1 ≤ p ∧ p < n ∧ i = .int .i64 p ∧ val (xs.drop (p + 1).toNat) = val (ys.drop (p + 1).toNat) ∧ ∃ q, wr = w.drewN q) (fun i _ => (intOf i + 1).toNat)
    case atStart => exact ⟨(n : Int) - 1, by omega, by omega, rfl, by rw [List.drop_of_length_le (by have := HEX.out; omega), List.drop_of_length_le (by have := HEY.out; omega)], 0, rfl⟩
    case round =>
      obtain ⟨p, hp0, hp1, rfl, hd, q, rfl⟩ := hrel
      have HD := Lib.hid hd
      clear hd
      by_cases hp : p < 0
      · obtain rfl : p = -1 := by omega
        go_wp2
        go_ret
        refine ⟨?_, q, rfl⟩
        have := HD.out
        simp at this
        rw [cmpI_eq this]
        rfl
      · obtain ⟨j, rfl⟩ := Int.eq_ofNat_of_zero_le (show 0 ≤ p by omega)
        obtain ⟨ba, oa, rfl, hca⟩ := HCX.out.at (k := j) (by rw [HEX.out]; omega)
        obtain ⟨bb, ob, rfl, hcb⟩ := HCY.out.at (k := j) (by rw [HEY.out]; omega)
        obtain ⟨a, ha⟩ : ∃ a, xs.getD j 0 = a := ⟨_, rfl⟩
        obtain ⟨b, hb⟩ : ∃ b, ys.getD j 0 = b := ⟨_, rfl⟩
        rw [ha] at hca
        rw [hb] at hcb
        have HA := Lib.hid ha
        have HB := Lib.hid hb
        clear ha hb
        have hj0 : (0 : Int) ≤ j := by omega
        have hjx : j < xs.length := by rw [HEX.out]; omega
        have hjy : j < ys.length := by rw [HEY.out]; omega
        have HJX := Lib.hid hjx
        have HJY := Lib.hid hjy
        clear hjx hjy
        have hd : val (xs.drop (j + 1)) = val (ys.drop (j + 1)) := by have := HD.out; rwa [show ((j : Int) + 1).toNat = j + 1 by omega] at this
        have HD' := Lib.hid hd
        clear hd
        by_cases hab : a = b
        · subst hab
          have heq : (a != a) = false := by simp
          go_wp2
          go_quiet (fail)
          go_wp2
          go_roundw
          case rel =>
            refine ⟨(j : Int) - 1, by omega, by omega, rfl, ?_, _, rfl⟩
            rw [show ((j : Int) - 1 + 1).toNat = j by omega, drop_getD HJX.out, drop_getD HJY.out, HA.out, HB.out]
            simp only [val, HD'.out]
          case measure => simp [intOf]
        · have hne : (a != b) = true := by simpa using hab
          by_cases hlt : a < b
          · have hlt' : decide (a < b) = true := by simpa using hlt
            go_wp2
            go_quiet (fail)
            go_wp2
            go_quiet (fail)
            go_wp2
            go_ret
            have hc := cmpI_lt (val_cmp lx ly (by rw [HEX.out, HEY.out]) HJX.out HD'.out (by rw [HA.out, HB.out]; exact hlt))
            exact ⟨by rw [hc]; rfl, _, by rw [World.drewN_drewN, World.drewN_drewN]⟩
          · have hlt' : decide (a < b) = false := by simpa using hlt
            go_wp2
            go_quiet (fail)
            go_wp2
            go_quiet (fail)
            go_wp2
            go_ret
            have hc := cmpI_gt (val_cmp ly lx (by rw [HEX.out, HEY.out]) HJY.out HD'.out.symm (by rw [HA.out, HB.out]; omega))
            exact ⟨by rw [hc]; rfl, _, by rw [World.drewN_drewN, World.drewN_drewN]⟩
  · have hmost' : capb ≤ 9223372036854775807 ∧ m ≤ capb := HB'.out
    have hne : ((n : Int) != (m : Int)) = true := by simp; omega
    by_cases hlt : n < m
    · have hc := cmpI_lt (val_lt_of_len lx ly ty (by rw [HEX.out, HEY.out]; exact hlt))
      have HC := Lib.hid hc
      clear hc
      go_enter Tryz.func114, Tryz.ntmps114
      go_wp2
      go_ret
      exact ⟨by rw [HC.out]; rfl, 0, rfl⟩
    · have hc := cmpI_gt (val_lt_of_len ly lx tx (by rw [HEX.out, HEY.out]; omega))
      have HC := Lib.hid hc
      clear hc
      go_enter Tryz.func114, Tryz.ntmps114
      go_wp2
      go_ret
      exact ⟨by rw [HC.out]; rfl, 0, rfl⟩

set_option maxRecDepth 100000 in
theorem product_any (w : World) (ao bo : Option Addr) (n m capa capb : Nat) (xs ys : List Int) (hx : Sl w ao n capa xs) (hy : Sl w bo m capb ys) (lx : Lim xs) (ly : Lim ys) (hn : n ≤ 34359738368) (hm : m ≤ 34359738368) :
    Calls Tryz.prog 123 #[.slice ao n capa, .slice bo m capb] w (RetNat w (val xs * val ys) (n + m)) := by
  have HEX : Hid (xs.length = n) := hx.len
  have HEY : Hid (ys.length = m) := hy.len
  have HCX := Lib.hid hx.cells
  have HCY := Lib.hid hy.cells
  obtain ⟨i0, hi, hz0, hz1, hz2⟩ := info_parts info_u32
  clear hx hy
  go_enter Tryz.func123, Tryz.ntmps123
  go_wp2_with (at_make; refine wpList_make_full _ rfl _ _ 22 rfl w.heap.size 138 i0 (.int .u32 0) 1 Tryz.underlying22 hi hz0 hz1 _ _ _ _ (n + m) rfl rfl (by omega) (by omega) (by rw [hz2]; omega) (by unfold maxLen; omega) (Nat.le_refl _) ?_)
  intro w1 hown hgrow
  have hb1 : Below w.heap.size w w1 := (Below.refl _ _).grown hgrow (Nat.le_refl _) (by intro k hk; cases hk)
  have hm1 := made_mine (n := n + m) (by simpa using hown)
  clear hown hgrow
  go_wp2_with fail
  go_loopw [20] (fun i wr => ∃ (k : Nat) (zs : List Int), k ≤ n ∧ i = .int .i64 k ∧ zs.length = n + m ∧ Lim zs ∧ (∀ j, k + m ≤ j → zs.getD j 0 = 0) ∧
      val zs = val (xs.take k) * val ys ∧ Mine w.heap.size wr w.heap.size zs ∧ Below w.heap.size w wr)
    (fun i _ => n - (intOf i).toNat)
  case atStart => exact ⟨0, _, Nat.zero_le _, rfl, List.length_replicate, Lim_replicate _, fun j _ => by simp [List.getD, List.getElem?_replicate]; split <;> rfl, by simp [val_replicate, val], hm1, hb1⟩
  case round =>
    obtain ⟨i, zs, hk, rfl, hzl, hlim, hzero, hval, hmine, hbel⟩ := hrel
    have HZ := Lib.hid hzero
    have HV := Lib.hid hval
    have HL := Lib.hid hzl
    have HM := Lib.hid hmine
    clear hzero hval hzl hmine hm1 hb1
    by_cases hin : i < n
    · obtain ⟨x, hx⟩ : ∃ x, xs.getD i 0 = x := ⟨_, rfl⟩
      have hlx := Lim_getD lx i
      obtain ⟨ba, oa, rfl, hca⟩ := (HCX.out.below hbel).at (k := i) (by rw [HEX.out]; exact hin)
      rw [hx] at hlx hca
      obtain ⟨hx0, hx1⟩ := hlx
      have HX := Lib.hid hx
      clear hx
      by_cases hxz : x = 0
      · subst hxz
        go_wp2_with fail
        go_roundw
        case rel =>
          exact ⟨i + 1, zs, by omega, by go_num, HL.out, hlim, fun j hj => HZ.out j (by omega), by rw [HV.out, val_take_succ, HX.out]; simp, HM.out, hbel⟩
        case measure => simp [intOf]; omega
      · have hxb : (x == 0) = false := by simpa using hxz
        go_wp2_with fail
        obtain ⟨wo, rfl⟩ : ∃ wo : World, wo = wr := ⟨_, rfl⟩
        go_loopw [8, 29] (fun c kk wi => ∃ (k : Nat) (cy : Int) (rs : List Int), k ≤ m ∧ kk = .int .i64 k ∧ c = .int .u64 cy ∧ 0 ≤ cy ∧ cy ≤ 4294967295 ∧ rs.length = n + m ∧ Lim rs ∧ (∀ j, i + m ≤ j → rs.getD j 0 = 0) ∧
            val rs + 4294967296 ^ (i + k) * cy = val (xs.take i) * val ys + 4294967296 ^ i * (x * val (ys.take k)) ∧ Mine w.heap.size wi w.heap.size rs ∧ Below w.heap.size w wi)
          (fun _ kk _ => m - (intOf kk).toNat)
        case atStart => exact ⟨0, 0, zs, Nat.zero_le _, rfl, rfl, by omega, by omega, HL.out, hlim, HZ.out, by rw [HV.out]; simp [val], HM.out, hbel⟩
        case round =>
          obtain ⟨k, cy, rs, hkm, rfl, rfl, hc0, hc1, hrl, hrlim, hrzero, hrval, hrmine, hrbel⟩ := hrel
          have HRZ := Lib.hid hrzero
          have HRV := Lib.hid hrval
          have HRL := Lib.hid hrl
          have HRM := Lib.hid hrmine
          clear hrzero hrval hrl hrmine
          by_cases hkm' : k < m
          · obtain ⟨y, hy⟩ : ∃ y, ys.getD k 0 = y := ⟨_, rfl⟩
            obtain ⟨r, hr⟩ : ∃ r, rs.getD (i + k) 0 = r := ⟨_, rfl⟩
            have hly := Lim_getD ly k
            have hlr := Lim_getD hrlim (i + k)
            obtain ⟨bb, ob, rfl, hcb⟩ := (HCY.out.below hrbel).at (k := k) (by rw [HEY.out]; exact hkm')
            obtain ⟨hcell, hfrz⟩ := HRM.out.cell (i + k) (by rw [HRL.out]; omega)
            rw [hy] at hly hcb
            rw [hr] at hlr hcell
            obtain ⟨hy0, hy1⟩ := hly
            obtain ⟨hr0, hr1⟩ := hlr
            obtain ⟨p0, p1, p2, p3, p4, p5⟩ := prod_bound hx0 hx1 hy0 hy1 hr0 hr1 hc0 hc1
            have HY := Lib.hid hy
            have HR := Lib.hid hr
            clear hy hr
            go_wp2_with fail
            go_roundw
            case rel =>
              have hrl := HRL.out
              have hstep := prod_step (r := rs) (i := i) (k := k) (S := val (xs.take i) * val ys) (x := x) (c := cy) (b := ys) (by omega) HRV.out
              rw [HY.out, HR.out] at hstep
              exact ⟨k + 1, _, _, by omega, by go_num, rfl, p4, p5, by rw [List.length_set]; exact hrl, Lim_set hrlim _ (by omega) (by omega),
                fun j hj => by rw [getD_set_ne (by omega)]; exact HRZ.out j hj, hstep, HRM.out.set _ _, hrbel.setCell (Nat.le_refl _) _⟩
            case measure => simp [intOf]; omega
          · obtain rfl : k = m := by omega
            obtain ⟨hcell, hfrz⟩ := HRM.out.cell (i + k) (by rw [HRL.out]; omega)
            go_wp2_with fail
            go_roundw
            case rel =>
              have hrl := HRL.out
              have hend := prod_end (r := rs) (i := i) (m := k) (c := cy) (x := x) (a := xs) (b := ys) HEY.out (by omega) (HRZ.out _ (Nat.le_refl _)) HRV.out HX.out.symm
              exact ⟨i + 1, _, by omega, by go_num, by rw [List.length_set]; exact hrl, Lim_set hrlim _ hc0 hc1,
                fun j hj => by rw [getD_set_ne (by omega)]; exact HRZ.out j (by omega), hend, HRM.out.set _ _, hrbel.setCell (Nat.le_refl _) _⟩
            case measure => simp [intOf]; omega
    · obtain rfl : i = n := by omega
      go_wp2_with fail
      have hzl := HL.out
      have hm3 := HM.out
      have hv3 : val zs = val xs * val ys := by
        have hv := HV.out
        have e1 := HEX.out
        rwa [List.take_of_length_le (by omega)] at hv
      unfold Mine at hm3
      rw [hzl] at hm3
      have hfin := trim_own w _ _ _ _ _ hm3 hlim hbel hv3
      refine hfin.mono ?_
      rintro e w4 ⟨ao4, n4, cap4, zs4, rfl, hres⟩
      have HRES := Lib.hid hres
      clear hres
      go_wp2
      go_ret
      exact ⟨_, _, _, zs4, rfl, HRES.out⟩

theorem heap_alloc3 (w : World) (o1 o2 o3 : Obj) : (((w.alloc o1).alloc o2).alloc o3).heap[w.heap.size + 1 + 1]? = some o3 := by
  have := heap_alloc_new ((w.alloc o1).alloc o2) o3; simpa using this

theorem fin_int {w w2 : World} {B : Nat} {neg : Bool} {ao : Option Addr} {n cap : Nat} {zs : List Int} {x0 x : Int} {L : Nat} (hB : w.heap.size ≤ B) (hb : Below w.heap.size w w2)
    (h : IntAt ((w2.setCell ⟨B, 0, none⟩ (.bool neg)).setCell ⟨B, 1, none⟩ (.slice ao n cap)) neg ao n cap zs x0) (hx : x0 = x) (hn : n ≤ L) :
    RetInt w x L (.returned (.agg #[.bool neg, .slice ao n cap])) ((w2.setCell ⟨B, 0, none⟩ (.bool neg)).setCell ⟨B, 1, none⟩ (.slice ao n cap)) :=
  ⟨_, _, _, _, _, rfl, hx ▸ h, hn, (hb.setCell (p := ⟨B, 0, none⟩) hB _).setCell (p := ⟨B, 1, none⟩) hB _⟩

theorem sgn_add {nx ny : Bool} {a b : Int} (h : nx = ny) : sgn nx a + sgn ny b = sgn nx (a + b) := by
  subst h; cases nx <;> simp [sgn]; omega

theorem sgn_add_ne {nx ny : Bool} {a b : Int} (h : nx ≠ ny) : sgn nx a + sgn ny b = sgn ny (b - a) ∧ sgn nx a + sgn ny b = sgn nx (a - b) := by
  cases nx <;> cases ny <;> simp [sgn] at * <;> omega

theorem sgn_mul (nx ny : Bool) (a b : Int) : sgn nx a * sgn ny b = sgn (!nx == ny) (a * b) := by
  cases nx <;> cases ny <;> simp [sgn, Int.mul_neg, Int.neg_mul]

set_option maxRecDepth 100000 in
theorem add_eq (w : World) (nx ny : Bool) (ao bo : Option Addr) (n m capa capb : Nat) (xs ys : List Int) (x y : Int) (hx : IntAt w nx ao n capa xs x) (hy : IntAt w ny bo m capb ys y) (hn : n ≤ 34359738368) (hm : m ≤ 34359738368) (hxy : nx = ny) :
    Calls Tryz.prog 95 #[.agg #[.bool nx, .slice ao n capa], .agg #[.bool ny, .slice bo m capb]] w (RetInt w (x + y) (max n m + 1)) := by
  have HS : Hid (∀ w1, Below w.heap.size w w1 → Calls Tryz.prog 134 #[.slice ao n capa, .slice bo m capb] w1 (RetNat w1 (val xs + val ys) (max n m + 1))) :=
    fun w1 hb => sum_any w1 ao bo n m capa capb xs ys (hx.sl.below hb) (hy.sl.below hb) hx.lim hy.lim hn hm
  have HX : Hid (sgn nx (val xs + val ys) = x + y) := by rw [hx.val, hy.val]; exact (sgn_add hxy).symm
  have hxb : (nx == ny) = true := by simp [hxy]
  clear hx hy hxy
  go_enter Tryz.func95, Tryz.ntmps95
  go_wp2_with fail
  go_region_held3 (fun w' => w'.cell? ⟨w.heap.size, 0, none⟩ = some (.bool nx) ∧ w'.cell? ⟨w.heap.size, 1, none⟩ = some (.slice ao n capa) ∧ w'.cell? ⟨w.heap.size + 1, 1, none⟩ = some (.slice bo m capb)) (((try dsimp only); (repeat' apply And.intro) <;> (first | (go_keep; done) | (go_split_ands; rw [World.cell?_setCell_far _ _ _ _ (by dsimp only; omega), World.cell?_setCell_far _ _ _ _ (by dsimp only; omega)]; assumption) | (go_split_ands; rw [hb1.cell (by go_size)]; assumption) | (go_split_ands; rw [hb3.cell (by go_size)]; assumption))))
    (first | (go_at_call 134; refine (HS.out _ ?_).mono ?_; (go_grown); rintro e w1 ⟨ao1, n1, cap1, zs1, rfl, hown, hlim1, htop1, hval1, hn1, hb1⟩; have HV1 := Lib.hid hval1; clear hval1; have hr1 := (hb1.block (w.heap.size + 1 + 1) (by go_size)).trans (heap_alloc3 _ _ _ _); have hz1 := hb1.size; simp only [World.drew, World.size_alloc] at hz1) | (go_at_call 112; refine (wrap_int _ _ _ _ _ _ hown.sl hlim1 rfl).mono ?_; rintro e w2 ⟨neg', ao', n', cap', zs', rfl, hint, hn', hb3⟩; have hr2 := (hb3.block _ (by omega)).trans hr1; obtain ⟨c0, c1, f0, f1⟩ := blk2 hr2; have HI := Lib.hid (hint.stored hr2 (.bool neg') (.slice ao' n' cap')); clear hint hr2 hr1))
  have hb4 : Below w.heap.size w w2 := (((((Below.refl _ _).alloc (Nat.le_refl _) _).alloc (by simp) _).alloc (by simp; omega) _).drew.trans (hb1.mono (by simp [World.drew]; omega))).trans (hb3.mono (by omega))
  go_wp2
  refine bodyPost_ret (v := .agg #[.bool neg', .slice ao' n' cap']) (by simp [results, Tryz.results95, go_sem, c0, c1]) rfl ?_
  exact fin_int (by omega) hb4 HI.out (by rw [HV1.out, HX.out]) (Nat.le_trans hn' hn1)

/-- The world behind three new blocks. -/
abbrev W3 (w : World) (a b c : Obj) : World := ((w.alloc a).alloc b).alloc c

theorem ent3 (w : World) (a b c : Obj) : Below w.heap.size w (W3 w a b c) := (((Below.refl _ _).alloc (Nat.le_refl _) _).alloc (by simp) _).alloc (by simp; omega) _

theorem ent3N (w : World) (a b c : Obj) (k : Nat) : Below w.heap.size w ((W3 w a b c).drewN k) := below_drewN (ent3 w a b c) k

theorem ent3D (w : World) (a b c : Obj) : Below w.heap.size w (W3 w a b c).drew := (ent3 w a b c).drew

/-- What a callee leaves of the three blocks that its caller has laid: the third one is as it was. -/
theorem left3 {w w1 : World} {a b c : Obj} (hb : Below (W3 w a b c).heap.size (W3 w a b c) w1) : w.heap.size + 1 + 1 + 1 ≤ w1.heap.size ∧ w1.heap[w.heap.size + 1 + 1]? = some c ∧ Below w.heap.size w w1 := by
  have hs : (W3 w a b c).heap.size = w.heap.size + 1 + 1 + 1 := by simp
  have hb' := hb.size
  refine ⟨by omega, ?_, (ent3 w a b c).trans (hb.mono (by omega))⟩
  rw [hb.block _ (by omega)]
  exact heap_alloc3 w a b c

theorem left3N {w w1 : World} {a b c : Obj} {k : Nat} (hb : Below ((W3 w a b c).drewN k).heap.size ((W3 w a b c).drewN k) w1) : w.heap.size + 1 + 1 + 1 ≤ w1.heap.size ∧ w1.heap[w.heap.size + 1 + 1]? = some c ∧ Below w.heap.size w w1 :=
  left3 (a := a) (b := b) (c := c) ⟨hb.os, hb.tape, hb.output, hb.size, hb.block⟩

theorem left3D {w w1 : World} {a b c : Obj} (hb : Below (W3 w a b c).drew.heap.size (W3 w a b c).drew w1) : w.heap.size + 1 + 1 + 1 ≤ w1.heap.size ∧ w1.heap[w.heap.size + 1 + 1]? = some c ∧ Below w.heap.size w w1 :=
  left3 (a := a) (b := b) (c := c) ⟨hb.os, hb.tape, hb.output, hb.size, hb.block⟩

set_option maxRecDepth 100000 in
theorem add_ne (w : World) (nx ny : Bool) (ao bo : Option Addr) (n m capa capb : Nat) (xs ys : List Int) (x y : Int) (hx : IntAt w nx ao n capa xs x) (hy : IntAt w ny bo m capb ys y) (hn : n ≤ 34359738368) (hm : m ≤ 34359738368) (hxy : nx ≠ ny) (hlt : val xs < val ys) :
    Calls Tryz.prog 95 #[.agg #[.bool nx, .slice ao n capa], .agg #[.bool ny, .slice bo m capb]] w (RetInt w (x + y) m) := by
  have hle : n ≤ m := by have := len_le_of_val hx.lim hy.lim hx.top (by omega); rw [hx.sl.len, hy.sl.len] at this; exact this
  have HS : Hid (∀ w1, Below w.heap.size w w1 → Calls Tryz.prog 135 #[.slice bo m capb, .slice ao n capa] w1 (RetNat w1 (val ys - val xs) m)) :=
    fun w1 hb => difference_any w1 bo ao m n capb capa ys xs (hy.sl.below hb) (hx.sl.below hb) hy.lim hx.lim hm hle (by omega)
  have HC : Hid (∀ w1, Below w.heap.size w w1 → Calls Tryz.prog 114 #[.slice ao n capa, .slice bo m capb] w1 (RetQ w1 (.int .i64 (-1)))) :=
    fun w1 hb => by have := compare_any w1 ao bo n m capa capb xs ys (hx.sl.below hb) (hy.sl.below hb) hx.lim hy.lim hx.top hy.top; rwa [cmpI_lt hlt] at this
  have HX : Hid (sgn ny (val ys - val xs) = x + y) := by rw [hx.val, hy.val]; exact (sgn_add_ne hxy).1.symm
  have hxb : (nx == ny) = false := by simp [hxy]
  clear hx hy hxy
  go_enter Tryz.func95, Tryz.ntmps95
  go_wp2_with fail
  refine (HC.out _ (ent3 _ _ _ _)).mono ?_
  rintro e w0 ⟨rfl, q, rfl⟩
  go_wp2_with fail
  go_region_held3 (fun w' => w'.cell? ⟨w.heap.size + 1, 0, none⟩ = some (.bool ny) ∧ w'.cell? ⟨w.heap.size, 1, none⟩ = some (.slice ao n capa) ∧ w'.cell? ⟨w.heap.size + 1, 1, none⟩ = some (.slice bo m capb)) (((try dsimp only); (repeat' apply And.intro) <;> (first | (go_keep; done) | (go_split_ands; rw [World.cell?_setCell_far _ _ _ _ (by dsimp only; omega), World.cell?_setCell_far _ _ _ _ (by dsimp only; omega)]; assumption) | (go_split_ands; rw [hb1.cell (by go_size)]; assumption) | (go_split_ands; rw [hb3.cell (by go_size)]; assumption))))
    (first | (go_at_call 135; refine (HS.out _ ?_).mono ?_; (exact ent3N _ _ _ _ _); rintro e w1 ⟨ao1, n1, cap1, zs1, rfl, hown, hlim1, htop1, hval1, hn1, hb1⟩; have HV1 := Lib.hid hval1; clear hval1; obtain ⟨hz1, hr1, hb2⟩ := left3N hb1) | (go_at_call 112; refine (wrap_int _ _ _ _ _ _ hown.sl hlim1 rfl).mono ?_; rintro e w2 ⟨neg', ao', n', cap', zs', rfl, hint, hn', hb3⟩; have hr2 := (hb3.block _ (by omega)).trans hr1; obtain ⟨c0, c1, f0, f1⟩ := blk2 hr2; have HI := Lib.hid (hint.stored hr2 (.bool neg') (.slice ao' n' cap')); clear hint hr2 hr1))
  have hb4 : Below w.heap.size w w2 := hb2.trans (hb3.mono (by omega))
  go_wp2
  refine bodyPost_ret (v := .agg #[.bool neg', .slice ao' n' cap']) (by simp [results, Tryz.results95, go_sem, c0, c1]) rfl ?_
  exact fin_int (by omega) hb4 HI.out (by rw [HV1.out, HX.out]) (Nat.le_trans hn' hn1)

set_option maxRecDepth 100000 in
theorem add_ge (w : World) (nx ny : Bool) (ao bo : Option Addr) (n m capa capb : Nat) (xs ys : List Int) (x y : Int) (hx : IntAt w nx ao n capa xs x) (hy : IntAt w ny bo m capb ys y) (hn : n ≤ 34359738368) (hm : m ≤ 34359738368) (hxy : nx ≠ ny) (hge : val ys ≤ val xs) :
    Calls Tryz.prog 95 #[.agg #[.bool nx, .slice ao n capa], .agg #[.bool ny, .slice bo m capb]] w (RetInt w (x + y) n) := by
  have hle : m ≤ n := by have := len_le_of_val hy.lim hx.lim hy.top hge; rw [hx.sl.len, hy.sl.len] at this; exact this
  have HS : Hid (∀ w1, Below w.heap.size w w1 → Calls Tryz.prog 135 #[.slice ao n capa, .slice bo m capb] w1 (RetNat w1 (val xs - val ys) n)) :=
    fun w1 hb => difference_any w1 ao bo n m capa capb xs ys (hx.sl.below hb) (hy.sl.below hb) hx.lim hy.lim hn hle hge
  have HC : Hid (∀ w1, Below w.heap.size w w1 → Calls Tryz.prog 114 #[.slice ao n capa, .slice bo m capb] w1 (RetQ w1 (.int .i64 (cmpI (val xs) (val ys))))) :=
    fun w1 hb => compare_any w1 ao bo n m capa capb xs ys (hx.sl.below hb) (hy.sl.below hb) hx.lim hy.lim hx.top hy.top
  have hcn : 0 ≤ cmpI (val xs) (val ys) := by unfold cmpI; rw [if_neg (by omega)]; split <;> omega
  generalize cmpI (val xs) (val ys) = cc at hcn HC
  have HX : Hid (sgn nx (val xs - val ys) = x + y) := by rw [hx.val, hy.val]; exact (sgn_add_ne hxy).2.symm
  have hxb : (nx == ny) = false := by simp [hxy]
  clear hx hy hxy
  go_enter Tryz.func95, Tryz.ntmps95
  go_wp2_with fail
  refine (HC.out _ (ent3 _ _ _ _)).mono ?_
  rintro e w0 ⟨rfl, q, rfl⟩
  go_wp2_with fail
  go_region_held3 (fun w' => w'.cell? ⟨w.heap.size, 0, none⟩ = some (.bool nx) ∧ w'.cell? ⟨w.heap.size, 1, none⟩ = some (.slice ao n capa) ∧ w'.cell? ⟨w.heap.size + 1, 1, none⟩ = some (.slice bo m capb)) (((try dsimp only); (repeat' apply And.intro) <;> (first | (go_keep; done) | (go_split_ands; rw [World.cell?_setCell_far _ _ _ _ (by dsimp only; omega), World.cell?_setCell_far _ _ _ _ (by dsimp only; omega)]; assumption) | (go_split_ands; rw [hb1.cell (by go_size)]; assumption) | (go_split_ands; rw [hb3.cell (by go_size)]; assumption))))
    (first | (go_at_call 135; refine (HS.out _ ?_).mono ?_; (exact ent3N _ _ _ _ _); rintro e w1 ⟨ao1, n1, cap1, zs1, rfl, hown, hlim1, htop1, hval1, hn1, hb1⟩; have HV1 := Lib.hid hval1; clear hval1; obtain ⟨hz1, hr1, hb2⟩ := left3N hb1) | (go_at_call 112; refine (wrap_int _ _ _ _ _ _ hown.sl hlim1 rfl).mono ?_; rintro e w2 ⟨neg', ao', n', cap', zs', rfl, hint, hn', hb3⟩; have hr2 := (hb3.block _ (by omega)).trans hr1; obtain ⟨c0, c1, f0, f1⟩ := blk2 hr2; have HI := Lib.hid (hint.stored hr2 (.bool neg') (.slice ao' n' cap')); clear hint hr2 hr1))
  have hb4 : Below w.heap.size w w2 := hb2.trans (hb3.mono (by omega))
  go_wp2
  refine bodyPost_ret (v := .agg #[.bool neg', .slice ao' n' cap']) (by simp [results, Tryz.results95, go_sem, c0, c1]) rfl ?_
  exact fin_int (by omega) hb4 HI.out (by rw [HV1.out, HX.out]) (Nat.le_trans hn' hn1)

set_option maxRecDepth 100000 in
theorem mul_int (w : World) (nx ny : Bool) (ao bo : Option Addr) (n m capa capb : Nat) (xs ys : List Int) (x y : Int) (hx : IntAt w nx ao n capa xs x) (hy : IntAt w ny bo m capb ys y) (hn : n ≤ 34359738368) (hm : m ≤ 34359738368) :
    Calls Tryz.prog 84 #[.agg #[.bool nx, .slice ao n capa], .agg #[.bool ny, .slice bo m capb]] w (RetInt w (x * y) (n + m)) := by
  have HS : Hid (∀ w1, Below w.heap.size w w1 → Calls Tryz.prog 123 #[.slice ao n capa, .slice bo m capb] w1 (RetNat w1 (val xs * val ys) (n + m))) :=
    fun w1 hb => product_any w1 ao bo n m capa capb xs ys (hx.sl.below hb) (hy.sl.below hb) hx.lim hy.lim hn hm
  have HX : Hid (sgn (!nx == ny) (val xs * val ys) = x * y) := by rw [hx.val, hy.val]; exact (sgn_mul nx ny _ _).symm
  clear hx hy
  go_enter Tryz.func84, Tryz.ntmps84
  go_wp2_with fail
  go_region_held3 (fun w' => w'.cell? ⟨w.heap.size, 0, none⟩ = some (.bool nx) ∧ w'.cell? ⟨w.heap.size + 1, 0, none⟩ = some (.bool ny) ∧ w'.cell? ⟨w.heap.size, 1, none⟩ = some (.slice ao n capa) ∧ w'.cell? ⟨w.heap.size + 1, 1, none⟩ = some (.slice bo m capb)) (((try dsimp only); (repeat' apply And.intro) <;> (first | (go_keep; done) | (go_split_ands; rw [World.cell?_setCell_far _ _ _ _ (by dsimp only; omega), World.cell?_setCell_far _ _ _ _ (by dsimp only; omega)]; assumption) | (go_split_ands; rw [hb1.cell (by go_size)]; assumption) | (go_split_ands; rw [hb3.cell (by go_size)]; assumption))))
    (first | (go_at_call 123; refine (HS.out _ ?_).mono ?_; (exact ent3D _ _ _ _); rintro e w1 ⟨ao1, n1, cap1, zs1, rfl, hown, hlim1, htop1, hval1, hn1, hb1⟩; have HV1 := Lib.hid hval1; clear hval1; obtain ⟨hz1, hr1, hb2⟩ := left3D hb1) | (go_at_call 112; refine (wrap_int _ _ _ _ _ _ hown.sl hlim1 rfl).mono ?_; rintro e w2 ⟨neg', ao', n', cap', zs', rfl, hint, hn', hb3⟩; have hr2 := (hb3.block _ (by omega)).trans hr1; obtain ⟨c0, c1, f0, f1⟩ := blk2 hr2; have HI := Lib.hid (hint.stored hr2 (.bool neg') (.slice ao' n' cap')); clear hint hr2 hr1))
  have hb4 : Below w.heap.size w w2 := hb2.trans (hb3.mono (by omega))
  go_wp2
  refine bodyPost_ret (v := .agg #[.bool neg', .slice ao' n' cap']) (by simp [results, Tryz.results84, go_sem, c0, c1]) rfl ?_
  exact fin_int (by omega) hb4 HI.out (by rw [HV1.out, HX.out]) (Nat.le_trans hn' hn1)

theorem add_int (w : World) (nx ny : Bool) (ao bo : Option Addr) (n m capa capb : Nat) (xs ys : List Int) (x y : Int) (hx : IntAt w nx ao n capa xs x) (hy : IntAt w ny bo m capb ys y) (hn : n ≤ 34359738368) (hm : m ≤ 34359738368) :
    Calls Tryz.prog 95 #[.agg #[.bool nx, .slice ao n capa], .agg #[.bool ny, .slice bo m capb]] w (RetInt w (x + y) (max n m + 1)) := by
  have up : ∀ L, L ≤ max n m + 1 → Calls Tryz.prog 95 #[.agg #[.bool nx, .slice ao n capa], .agg #[.bool ny, .slice bo m capb]] w (RetInt w (x + y) L) →
      Calls Tryz.prog 95 #[.agg #[.bool nx, .slice ao n capa], .agg #[.bool ny, .slice bo m capb]] w (RetInt w (x + y) (max n m + 1)) := by
    intro L hL h
    refine h.mono ?_
    rintro e w' ⟨a, b, c, d, f, h1, h2, h3, h4⟩
    exact ⟨a, b, c, d, f, h1, h2, Nat.le_trans h3 hL, h4⟩
  by_cases hxy : nx = ny
  · exact add_eq w nx ny ao bo n m capa capb xs ys x y hx hy hn hm hxy
  · by_cases hlt : val xs < val ys
    · exact up m (by omega) (add_ne w nx ny ao bo n m capa capb xs ys x y hx hy hn hm hxy hlt)
    · exact up n (by omega) (add_ge w nx ny ao bo n m capa capb xs ys x y hx hy hn hm hxy (by omega))

set_option maxRecDepth 100000 in
theorem sub_int (w : World) (nx ny : Bool) (ao bo : Option Addr) (n m capa capb : Nat) (xs ys : List Int) (x y : Int) (hx : IntAt w nx ao n capa xs x) (hy : IntAt w ny bo m capb ys y) (hn : n ≤ 34359738368) (hm : m ≤ 34359738368) :
    Calls Tryz.prog 136 #[.agg #[.bool nx, .slice ao n capa], .agg #[.bool ny, .slice bo m capb]] w (RetInt w (x - y) (max n m + 1)) := by
  have HN : Hid (∀ w1, Below w.heap.size w w1 → Calls Tryz.prog 62 #[.agg #[.bool ny, .slice bo m capb]] w1 (RetInt w1 (-y) m)) :=
    fun w1 hb => neg_int w1 ny bo m capb ys y (hy.below hb) hm
  have HA : Hid (∀ w1, Below w.heap.size w w1 → ∀ nz co k capc zs z, IntAt w1 nz co k capc zs z → k ≤ m → Calls Tryz.prog 95 #[.agg #[.bool nx, .slice ao n capa], .agg #[.bool nz, .slice co k capc]] w1 (RetInt w1 (x + z) (max n k + 1))) :=
    fun w1 hb nz co k capc zs z hz hk => add_int w1 nx nz ao co n k capa capc xs zs x z (hx.below hb) hz hn (by omega)
  clear hx hy
  go_enter Tryz.func136, Tryz.ntmps136
  go_wp2_with fail
  go_region_held3 (fun w' => w'.cell? ⟨w.heap.size, 0, none⟩ = some (.bool nx) ∧ w'.cell? ⟨w.heap.size + 1, 0, none⟩ = some (.bool ny) ∧ w'.cell? ⟨w.heap.size, 1, none⟩ = some (.slice ao n capa) ∧ w'.cell? ⟨w.heap.size + 1, 1, none⟩ = some (.slice bo m capb)) (((try dsimp only); (repeat' apply And.intro) <;> (first | (go_keep; done) | (go_split_ands; rw [World.cell?_setCell_far _ _ _ _ (by dsimp only; omega), World.cell?_setCell_far _ _ _ _ (by dsimp only; omega)]; assumption) | (go_split_ands; rw [hb1.cell (by go_size)]; assumption) | (go_split_ands; rw [hb3.cell (by go_size)]; assumption))))
    (first | (go_at_call 62; refine (HN.out _ ?_).mono ?_; (exact ent3D _ _ _ _); rintro e w1 ⟨neg1, ao1, n1, cap1, zs1, rfl, hint1, hn1, hb1⟩; have HI1 := Lib.hid hint1; clear hint1; obtain ⟨hz1, hr1, hb2⟩ := left3D hb1) | (go_at_call 95; refine (HA.out _ hb2 _ _ _ _ _ _ HI1.out hn1).mono ?_; rintro e w2 ⟨neg', ao', n', cap', zs', rfl, hint, hn', hb3⟩; have hr2 := (hb3.block _ (by omega)).trans hr1; obtain ⟨c0, c1, f0, f1⟩ := blk2 hr2; have HI := Lib.hid (hint.stored hr2 (.bool neg') (.slice ao' n' cap')); clear hint hr2 hr1))
  have hb4 : Below w.heap.size w w2 := hb2.trans (hb3.mono (by omega))
  go_wp2
  refine bodyPost_ret (v := .agg #[.bool neg', .slice ao' n' cap']) (by simp [results, Tryz.results136, go_sem, c0, c1]) rfl ?_
  exact fin_int (by omega) hb4 HI.out (by omega) (by omega)

theorem RetQ.below {w w' : World} {v : Value} {e : Ending} (h : RetQ w v e w') : Below w.heap.size w w' := by
  obtain ⟨_, q, rfl⟩ := h
  exact below_drewN (Below.refl _ _) q

/-- A number was returned; what there was is as it was. -/
def RetV (w : World) (v : Value) (e : Ending) (w' : World) : Prop := e = .returned v ∧ Below w.heap.size w w'

theorem sign_int (w : World) (nx : Bool) (ao : Option Addr) (n capa : Nat) (xs : List Int) (x : Int) (hx : IntAt w nx ao n capa xs x) :
    Calls Tryz.prog 64 #[.agg #[.bool nx, .slice ao n capa]] w (RetV w (.int .i64 (cmpI x 0))) := by
  have hlen := hx.sl.len
  have h0 := val_nonneg hx.lim
  by_cases hn : n = 0
  · have hxs : xs = [] := List.eq_nil_of_length_eq_zero (by omega)
    have hx0 : cmpI x 0 = 0 := by rw [hx.val, hxs]; cases nx <;> simp [sgn, val, cmpI]
    rw [hx0]
    subst hn
    clear hlen h0 hx hxs hx0
    go_enter Tryz.func64, Tryz.ntmps64
    go_wp2
    go_ret
    exact ⟨rfl, by go_grown⟩
  · have hne : xs ≠ [] := by intro h; rw [h] at hlen; simp at hlen; omega
    have hpos := val_pos_of_top hx.lim hx.top hne
    have hp := pow_pos (xs.length - 1)
    have hne0 : ((n : Int) == 0) = false := by simp; omega
    cases nx
    · have hx0 : cmpI x 0 = 1 := cmpI_gt (by rw [hx.val]; simp [sgn]; omega)
      rw [hx0]
      clear hlen h0 hx hne hpos hp hx0
      go_enter Tryz.func64, Tryz.ntmps64
      go_wp2
      go_ret
      exact ⟨rfl, by go_grown⟩
    · have hx0 : cmpI x 0 = -1 := cmpI_lt (by rw [hx.val]; simp [sgn]; omega)
      rw [hx0]
      clear hlen h0 hx hne hpos hp hx0
      go_enter Tryz.func64, Tryz.ntmps64
      go_wp2
      go_ret
      exact ⟨rfl, by go_grown⟩

theorem cmp_int (w : World) (nx ny : Bool) (ao bo : Option Addr) (n m capa capb : Nat) (xs ys : List Int) (x y : Int) (hx : IntAt w nx ao n capa xs x) (hy : IntAt w ny bo m capb ys y) :
    Calls Tryz.prog 63 #[.agg #[.bool nx, .slice ao n capa], .agg #[.bool ny, .slice bo m capb]] w (RetV w (.int .i64 (cmpI x y))) := by
  have HC : Hid (∀ w1, Below w.heap.size w w1 → Calls Tryz.prog 114 #[.slice ao n capa, .slice bo m capb] w1 (RetQ w1 (.int .i64 (cmpI (val xs) (val ys))))) :=
    fun w1 hb => compare_any w1 ao bo n m capa capb xs ys (hx.sl.below hb) (hy.sl.below hb) hx.lim hy.lim hx.top hy.top
  have HD : Hid (∀ w1, Below w.heap.size w w1 → Calls Tryz.prog 114 #[.slice bo m capb, .slice ao n capa] w1 (RetQ w1 (.int .i64 (cmpI (val ys) (val xs))))) :=
    fun w1 hb => compare_any w1 bo ao m n capb capa ys xs (hy.sl.below hb) (hx.sl.below hb) hy.lim hx.lim hy.top hx.top
  have hvx := val_nonneg hx.lim
  have hvy := val_nonneg hy.lim
  have posx : nx = true → 0 < val xs := fun h => by have := val_pos_of_top hx.lim hx.top (hx.sign h); have := pow_pos (xs.length - 1); omega
  have posy : ny = true → 0 < val ys := fun h => by have := val_pos_of_top hy.lim hy.top (hy.sign h); have := pow_pos (ys.length - 1); omega
  have ex := hx.val
  have ey := hy.val
  clear hx hy
  cases nx <;> cases ny
  · have e : cmpI x y = cmpI (val xs) (val ys) := by rw [ex, ey]; rfl
    rw [e]
    clear posx posy ex ey e
    go_enter Tryz.func63, Tryz.ntmps63
    go_wp2_with fail
    refine (HC.out _ (by go_grown)).mono ?_
    rintro e w0 ⟨rfl, q, rfl⟩
    go_wp2
    go_ret
    exact ⟨rfl, below_drewN (by go_grown) q⟩
  · have e : cmpI x y = 1 := cmpI_gt (by have := posy rfl; simp [sgn] at ex ey; omega)
    rw [e]
    clear posx posy ex ey e
    go_enter Tryz.func63, Tryz.ntmps63
    go_wp2_with fail
    go_ret
    exact ⟨rfl, by go_grown⟩
  · have e : cmpI x y = -1 := cmpI_lt (by have := posx rfl; simp [sgn] at ex ey; omega)
    rw [e]
    clear posx posy ex ey e
    go_enter Tryz.func63, Tryz.ntmps63
    go_wp2_with fail
    go_ret
    exact ⟨rfl, by go_grown⟩
  · have e : cmpI x y = cmpI (val ys) (val xs) := by rw [ex, ey]; simp [sgn, cmpI]
    rw [e]
    clear posx posy ex ey e
    go_enter Tryz.func63, Tryz.ntmps63
    go_wp2_with fail
    refine (HD.out _ (by go_grown)).mono ?_
    rintro e w0 ⟨rfl, q, rfl⟩
    go_wp2
    go_ret
    exact ⟨rfl, below_drewN (by go_grown) q⟩

theorem Own.set {B : Nat} {w : World} {g n cap : Nat} {zs : List Int} (h : Own B w (some ⟨g, 0, none⟩) n cap zs) (j : Nat) (v : Int) : Own B (w.setCell ⟨g, j, none⟩ (.int .u32 v)) (some ⟨g, 0, none⟩) n cap (zs.set j v) := by
  have := (World.ownsRow.stored h j (.int .u32 v)).1
  unfold Own
  rw [List.map_set]
  exact this

theorem Own.at {B : Nat} {w : World} {ao : Option Addr} {n cap : Nat} {zs : List Int} (h : Own B w ao n cap zs) {j : Nat} (hj : j < n) :
    ∃ g, ao = some ⟨g, 0, none⟩ ∧ B ≤ g ∧ w.cell? ⟨g, j, none⟩ = some (.int .u32 (zs.getD j 0)) ∧ w.frozen? ⟨g, j, none⟩ = false := by
  have h' := h
  rcases h'.2 with ⟨hv, hn⟩ | ⟨g, c, cur, hv, hb, hg, hnc, hcm, hcs, htake⟩
  · omega
  · simp only [Value.slice.injEq] at hv
    obtain ⟨rfl, _, rfl⟩ := hv
    have hl := h.sl.len
    refine ⟨g, rfl, hb, ?_, World.ownsRow.frozenAt h j⟩
    rw [World.ownsRow.cellAt h j (by omega), List.getElem?_map, List.getElem?_eq_getElem (by omega), getD_lt (by omega)]
    rfl

theorem split_any (w : World) (u : Int) (h0 : 0 ≤ u) (h1 : u ≤ 18446744073709551615) : Calls Tryz.prog 115 #[.int .u64 u] w (RetNat w u 2) := by
  have hown : Own w.heap.size (w.alloc (.cells #[.int .u32 (u % 4294967296), .int .u32 (u / 4294967296)] 138)) (some ⟨w.heap.size, 0, none⟩) 2 2 [u % 4294967296, u / 4294967296] := by
    have := World.ownsRow_lit (base := w.heap.size) (e := 138) (size := 1) w #[.int .u32 (u % 4294967296), .int .u32 (u / 4294967296)] 2 (Nat.le_refl _) (by unfold maxLen; omega) rfl
    exact this
  have hl : Lim [u % 4294967296, u / 4294967296] := by intro z hz; simp at hz; omega
  have hv : val [u % 4294967296, u / 4294967296] = u := by simp [val]; omega
  have ht := trim_own w _ _ _ _ _ hown hl ((Below.refl _ _).alloc (Nat.le_refl _) _) hv
  have HT := Lib.hid ht
  clear hown hl hv ht
  go_enter Tryz.func115, Tryz.ntmps115
  go_wp2_with fail
  refine HT.out.mono ?_
  rintro e w1 ⟨ao, n, cap, zs, rfl, hres⟩
  have HR := Lib.hid hres
  clear hres
  go_wp2
  go_ret
  exact ⟨_, _, _, zs, rfl, HR.out⟩

theorem or_low (a b : Int) (ha0 : 0 ≤ a) (ha1 : a ≤ 4294967295) (hb0 : 0 ≤ b) (hb1 : b ≤ 4294967295) : bits BinOp.or IntKind.u64 (a * 4294967296) b = a * 4294967296 + b := by
  obtain ⟨x, rfl⟩ := Int.eq_ofNat_of_zero_le ha0
  obtain ⟨y, rfl⟩ := Int.eq_ofNat_of_zero_le hb0
  have e : ((x : Int) * 4294967296) = ((x * 4294967296 : Nat) : Int) := by omega
  have e2 : x * 4294967296 ||| y = x * 4294967296 + y := by
    rw [show 4294967296 = 2 ^ 32 from rfl, ← Nat.shiftLeft_eq, Nat.shiftLeft_add_eq_or_of_lt (by omega)]
  rw [e, u64_or_nat _ _ (by omega) (by omega), e2]
  omega

theorem dsm_step {xs zs : List Int} {j : Nat} {d rest t : Int} (hj : j < xs.length) (hl : zs.length = xs.length) (hsame : zs.getD j 0 = xs.getD j 0) (h : val (xs.drop (j + 1)) = d * val (zs.drop (j + 1)) + rest) (ht : t = rest * 4294967296 + xs.getD j 0) :
    val (xs.drop j) = d * val ((zs.set j (t / d)).drop j) + t % d := by
  rw [drop_getD hj, drop_getD (a := zs.set j (t / d)) (by rw [List.length_set]; omega), getD_set_eq (by omega), List.drop_set_of_lt (by omega)]
  simp only [val]
  rw [h]
  have := Int.emod_add_mul_ediv t d
  grind

theorem grownBy.setRow {w wr : World} {g : Nat} (h : w.grownBy wr (some g)) (j : Nat) (u : Value) : w.grownBy (wr.setCell ⟨g, j, none⟩ u) (some g) :=
  ⟨h.os, h.tape, h.output, by simpa [World.setCell] using h.size, fun k hk hne => by rw [Below.heap_setCell _ _ _ _ (by intro e; exact hne (by rw [e]))]; exact h.block k hk hne⟩

/-- Quotient and remainder of a small division. -/
def RetSmall (B : Nat) (w : World) (ao : Option Addr) (cap : Nat) (q r : Int) (L : Nat) (e : Ending) (w' : World) : Prop :=
  ∃ n zs, e = .returned (.tuple #[.slice ao n cap, .int .u32 r]) ∧ Own B w' ao n cap zs ∧ Lim zs ∧ Top zs ∧ val zs = q ∧ n ≤ L ∧ w.grownBy w' (Value.slice ao L cap).ownBlock ∧ Below B w w'

set_option maxRecDepth 100000 in
theorem divideSmall_any (B : Nat) (w : World) (ao : Option Addr) (n cap : Nat) (xs : List Int) (d : Int) (hx : Own B w ao n cap xs) (lx : Lim xs) (hd0 : 0 < d) (hd1 : d ≤ 4294967295) :
    Calls Tryz.prog 161 #[.slice ao n cap, .int .u32 d] w (RetSmall B w ao cap (val xs / d) (val xs % d) n) := by
  have HL : Hid (xs.length = n) := hx.sl.len
  have hmost := hx.sl.most
  have hle := hx.sl.le
  unfold maxLen at hmost
  have HX := Lib.hid hx
  clear hx
  go_enter Tryz.func161, Tryz.ntmps161
  go_wp2_with fail
  go_loopw [6, 7] (fun r i wr => ∃ (p rest : Int) (zs : List Int), -1 ≤ p ∧ p < n ∧ i = .int .i64 p ∧ r = .int .u64 rest ∧ 0 ≤ rest ∧ rest < d ∧ zs.length = xs.length ∧ Lim zs ∧ (∀ i : Nat, (i : Int) ≤ p → zs.getD i 0 = xs.getD i 0) ∧
      val (xs.drop (p + 1).toNat) = d * val (zs.drop (p + 1).toNat) + rest ∧ Own B wr ao n cap zs ∧ w.grownBy wr (Value.slice ao n cap).ownBlock ∧ Below B w wr) (fun _ i _ => (intOf i + 1).toNat)
  case atStart =>
    have e1 := HL.out
    exact ⟨(n : Int) - 1, 0, xs, by omega, by omega, rfl, rfl, by omega, hd0, rfl, lx, fun _ _ => rfl, by rw [List.drop_of_length_le (by omega)]; simp [val], HX.out, World.grownBy.refl _ _, Below.refl _ _⟩
  case round =>
    obtain ⟨p, rest, zs, hp0, hp1, rfl, rfl, hr0, hr1, hzl, hlim, hsame, hval, hown, hgr, hbel⟩ := hrel
    have HO := Lib.hid hown
    have HG := Lib.hid hgr
    have HS := Lib.hid hsame
    have HV := Lib.hid hval
    have HZ := Lib.hid hzl
    clear hown hsame hval hzl hgr
    by_cases hp : p < 0
    · obtain rfl : p = -1 := by omega
      have hv : val xs = d * val zs + rest := by have := HV.out; simpa using this
      have hq : val zs = val xs / d := by rw [hv, Int.mul_comm, Int.add_comm, Int.add_mul_ediv_right _ _ (by omega), Int.ediv_eq_zero_of_lt hr0 hr1]; omega
      have hrr : rest = val xs % d := by rw [hv, Int.add_comm, Int.add_mul_emod_self_left, Int.emod_eq_of_lt hr0 hr1]
      have HQ := Lib.hid hq
      have HR := Lib.hid hrr
      have hs := HO.out.sl
      have ht := trim_any wr ao n cap zs hs.len hs.le hs.most hs.cells
      have htop : zs.take (tl zs n) = trm zs := by rw [trm, hs.len]
      have HT := Lib.hid ht
      have HP := Lib.hid htop
      clear hv hq hrr hs ht htop
      go_wp2_with fail
      refine HT.out.mono ?_
      rintro e w1 ⟨rfl, rfl⟩
      go_wp2
      go_ret2
      have hown := HO.out.trimmed (tl zs n) (tl_le zs n)
      rw [HP.out] at hown
      refine ⟨tl zs n, trm zs, ?_, hown, trm_lim hlim, trm_top zs, (trm_val zs).trans HQ.out, tl_le zs n, HG.out, hbel⟩
      rw [← HR.out]
      rfl
    · obtain ⟨j, rfl⟩ := Int.eq_ofNat_of_zero_le (show 0 ≤ p by omega)
      obtain ⟨g, rfl, hB, hc, hf⟩ := HO.out.at (j := j) (by omega)
      obtain ⟨a, ha⟩ : ∃ a, xs.getD j 0 = a := ⟨_, rfl⟩
      rw [HS.out j (Int.le_refl _), ha] at hc
      have hla := Lim_getD lx j
      rw [ha] at hla
      obtain ⟨ha0, ha1⟩ := hla
      obtain ⟨t, ht⟩ : ∃ t, rest * 4294967296 + a = t := ⟨_, rfl⟩
      have hor : bits BinOp.or IntKind.u64 (rest * 4294967296) a = t := by rw [or_low rest a hr0 (by omega) ha0 ha1, ht]
      have ht0 : 0 ≤ t := by omega
      have ht1 : t ≤ 18446744073709551615 := by omega
      have hq0 : 0 ≤ t / d := Int.ediv_nonneg ht0 (by omega)
      have hq1 : t / d ≤ 4294967295 := by
        have : t / d < 4294967296 := Int.ediv_lt_of_lt_mul hd0 (by
          have : rest + 1 ≤ d := by omega
          have h2 : (rest + 1) * 4294967296 ≤ d * 4294967296 := Int.mul_le_mul_of_nonneg_right this (by omega)
          rw [Int.mul_comm 4294967296 d]; omega)
        omega
      have hm0 : 0 ≤ t % d := Int.emod_nonneg _ (by omega)
      have hm1 : t % d < d := Int.emod_lt_of_pos _ hd0
      have HA := Lib.hid ha
      have HT := Lib.hid ht
      clear ha ht
      go_wp2_with fail
      go_roundw
      case rel =>
        have hzl := HZ.out
        have hlx := HL.out
        have hstep := dsm_step (xs := xs) (zs := zs) (j := j) (d := d) (rest := rest) (t := t) (by omega) hzl (HS.out j (Int.le_refl _)) (by have := HV.out; rwa [show ((j : Int) + 1).toNat = j + 1 by omega] at this) (by rw [HA.out]; exact HT.out.symm)
        exact ⟨(j : Int) - 1, t % d, zs.set j (t / d), by omega, by omega, rfl, rfl, hm0, hm1, by rw [List.length_set]; exact hzl, Lim_set hlim j hq0 hq1,
          fun i hi => by rw [getD_set_ne (by omega)]; exact HS.out i (by omega), by rw [show ((j : Int) - 1 + 1).toNat = j by omega]; exact hstep, HO.out.set j _, grownBy.setRow HG.out j _, hbel.setCell hB _⟩
      case measure => simp [intOf]

/-- Quotient and remainder were returned, each in limbs of the call's own. -/
def RetDiv (w : World) (q r : Int) (L M : Nat) (e : Ending) (w' : World) : Prop :=
  ∃ a1 n1 c1 z1 a2 n2 c2 z2, e = .returned (.tuple #[.slice a1 n1 c1, .slice a2 n2 c2]) ∧ Own w.heap.size w' a1 n1 c1 z1 ∧ Lim z1 ∧ Top z1 ∧ val z1 = q ∧ n1 ≤ L ∧
    Own w.heap.size w' a2 n2 c2 z2 ∧ Lim z2 ∧ Top z2 ∧ val z2 = r ∧ n2 ≤ M ∧ Below w.heap.size w w'

theorem Sl.drew {w : World} {ao : Option Addr} {n cap : Nat} {zs : List Int} (h : Sl w ao n cap zs) : Sl w.drew ao n cap zs := h.below (Below.refl _ _).drew

theorem Own.nil (B : Nat) (w : World) : Own B w none 0 0 [] := World.ownsRow_nil w B 138 1

theorem Own.mono {B B' : Nat} {w : World} {ao : Option Addr} {n cap : Nat} {zs : List Int} (h : Own B w ao n cap zs) (hB : B' ≤ B) : Own B' w ao n cap zs := by
  refine ⟨h.1, ?_⟩
  rcases h.2 with h2 | ⟨g, c, cur, hv, hb, r⟩
  · exact .inl h2
  · exact .inr ⟨g, c, cur, hv, by omega, r⟩

/-- What is owned stays owned while nothing below the heap's end is written. -/
theorem Own.kept {B : Nat} {w w' : World} {ao : Option Addr} {n cap : Nat} {zs : List Int} (h : Own B w ao n cap zs) (hb : Below w.heap.size w w') : Own B w' ao n cap zs := by
  refine ⟨h.1, ?_⟩
  rcases h.2 with h2 | ⟨g, c, cur, hv, hbg, hg, r⟩
  · exact .inl h2
  · refine .inr ⟨g, c, cur, hv, hbg, ?_, r⟩
    rw [hb.block g (Array.getElem?_eq_some_iff.1 hg).1]
    exact hg

theorem divide_lt (w : World) (ao bo : Option Addr) (n m capa capb : Nat) (xs ys : List Int) (hx : Sl w ao n capa xs) (hy : Sl w bo m capb ys) (lx : Lim xs) (ly : Lim ys) (tx : Top xs) (ty : Top ys) (hn : n ≤ 34359738368) (hlt : val xs < val ys) :
    Calls Tryz.prog 154 #[.slice ao n capa, .slice bo m capb] w (RetDiv w (val xs / val ys) (val xs % val ys) 0 n) := by
  have h0 := val_nonneg lx
  have eq : val xs / val ys = 0 := Int.ediv_eq_zero_of_lt h0 hlt
  have er : val xs % val ys = val xs := Int.emod_eq_of_lt h0 hlt
  rw [eq, er]
  have HC : Hid (Calls Tryz.prog 114 #[.slice ao n capa, .slice bo m capb] w (RetQ w (.int .i64 (-1)))) := by
    have := compare_any w ao bo n m capa capb xs ys hx hy lx ly tx ty
    rwa [cmpI_lt hlt] at this
  have HK : Hid (∀ w1, Below w.heap.size w w1 → _) := fun w1 hb => clone_any w1 ao n capa xs (hx.below hb) hn
  clear hx hy eq er h0 hlt
  go_enter Tryz.func154, Tryz.ntmps154
  go_wp2_with fail
  refine HC.out.mono ?_
  rintro e w0 ⟨rfl, q, rfl⟩
  go_wp2_with fail
  refine (HK.out _ (below_drewN (Below.refl _ _) q)).mono ?_
  rintro e w1 ⟨a2, c2, rfl, hown, hb⟩
  have HO := Lib.hid hown
  clear hown
  go_wp2
  go_ret2
  exact ⟨none, 0, 0, [], a2, n, c2, xs, rfl, Own.nil _ _, Lim_nil, .inl rfl, rfl, Nat.le_refl _, HO.out, lx, tx, rfl, Nat.le_refl _, (below_drewN (Below.refl _ _) q).trans hb⟩

set_option maxRecDepth 100000 in
theorem divide_one (w : World) (ao bo : Option Addr) (n capa capb : Nat) (xs : List Int) (d : Int) (hx : Sl w ao n capa xs) (hy : Sl w bo 1 capb [d]) (lx : Lim xs) (ly : Lim [d]) (tx : Top xs) (ty : Top [d]) (hn : n ≤ 34359738368) (hge : val [d] ≤ val xs) :
    Calls Tryz.prog 154 #[.slice ao n capa, .slice bo 1 capb] w (RetDiv w (val xs / val [d]) (val xs % val [d]) n 2) := by
  have hld := ly d (by simp)
  have hd1 : d ≤ 4294967295 := hld.2
  have hd0 : 0 < d := by
    rcases ty with h | h
    · simp at h
    · simp [List.getD] at h; omega
  have ed : val [d] = d := by simp [val]
  rw [ed] at hge ⊢
  obtain ⟨bb, ob, rfl, hcb⟩ := hy.cells.at (k := 0) (by simp)
  have hcn : 0 ≤ cmpI (val xs) d := by unfold cmpI; rw [if_neg (by omega)]; split <;> omega
  have HC : Hid (Calls Tryz.prog 114 #[.slice ao n capa, .slice (some ⟨bb, ob, none⟩) 1 capb] w (RetQ w (.int .i64 (cmpI (val xs) d)))) := by
    have := compare_any w ao _ n 1 capa capb xs [d] hx hy lx ly tx ty
    rwa [ed] at this
  generalize cmpI (val xs) d = cc at hcn HC
  have HK : Hid (∀ w1, Below w.heap.size w w1 → _) := fun w1 hb => clone_any w1 ao n capa xs (hx.below hb) hn
  have hcb' : w.cell? ⟨bb, ob, none⟩ = some (.int .u32 d) := by simpa [List.getD] using hcb
  have hlt := World.block_lt_of_cell? w _ hcb'
  clear hx hy hge hcb ty ed
  go_enter Tryz.func154, Tryz.ntmps154
  go_wp2_with fail
  refine HC.out.mono ?_
  rintro e w0 ⟨rfl, q, rfl⟩
  go_wp2_with fail
  go_region_held3 (fun w' => w'.cell? ⟨bb, ob, none⟩ = some (.int .u32 d)) (((try dsimp only); (first | (go_keep; done) | (go_split_ands; rw [hb1.cell (by go_size)]; assumption) | (go_split_ands; rw [hb3.cell (by go_size)]; assumption))))
    (first | (go_at_call 113; refine (HK.out _ ?_).mono ?_; (exact (below_drewN (Below.refl _ _) _)); rintro e w1 ⟨ao1, c1, rfl, hown, hb1⟩) | (go_at_call 161; refine (divideSmall_any _ _ _ _ _ _ _ hown lx hd0 hd1).mono ?_; rintro e w2 ⟨n2, z2, rfl, hown2, hl2, ht2, hv2, hn2, -, hb3⟩; have HO2 := Lib.hid hown2; have HV2 := Lib.hid hv2; clear hown2 hv2 hown))
  have hr0 : 0 ≤ val xs % d := Int.emod_nonneg _ (by omega)
  have hr1 : val xs % d < d := Int.emod_lt_of_pos _ hd0
  have HR : Hid (∃ r, r = val xs % d) := ⟨_, rfl⟩
  obtain ⟨r, hr⟩ := HR.out
  rw [← hr] at hr0 hr1 ⊢
  have HRR := Lib.hid hr
  clear hr HR
  have hbw1 : Below w.heap.size w w1 := (below_drewN (Below.refl _ _) (q + 1)).trans hb1
  have hbw2 : Below w.heap.size w w2 := hbw1.trans hb3
  go_wp2_with fail
  refine (split_any w2 r hr0 (by omega)).mono ?_
  rintro e w3 ⟨a3, n3, c3, z3, rfl, hown3, hl3, ht3, hv3, hn3, hb4⟩
  have HO3 := Lib.hid hown3
  have HV3 := Lib.hid hv3
  clear hown3 hv3
  go_wp2
  go_ret2
  have hs2 : w.heap.size ≤ w2.heap.size := hbw2.size
  exact ⟨_, _, _, z2, _, _, _, z3, rfl, (HO2.out.kept hb4), hl2, ht2, HV2.out, hn2, HO3.out.mono hs2, hl3, ht3, (HV3.out.trans HRR.out), hn3, hbw2.trans (hb4.mono hs2)⟩

/-- What a callee leaves of the one block that its caller has laid. -/
theorem left1 {w w1 : World} {a : Obj} (hb : Below (w.alloc a).heap.size (w.alloc a) w1) : w.heap.size + 1 ≤ w1.heap.size ∧ w1.heap[w.heap.size]? = some a ∧ Below w.heap.size w w1 := by
  have hs : (w.alloc a).heap.size = w.heap.size + 1 := by simp
  have hb' := hb.size
  refine ⟨by omega, ?_, ((Below.refl _ _).alloc (Nat.le_refl _) _).trans (hb.mono (by omega))⟩
  rw [hb.block _ (by omega)]
  exact heap_alloc_new w a

theorem sgn_abs (x : Int) : sgn (decide (x < 0)) x.natAbs = x := by
  by_cases h : x < 0 <;> simp [sgn, h] <;> omega

theorem new_int (w : World) (x : Int) (h0 : -9223372036854775808 ≤ x) (h1 : x ≤ 9223372036854775807) : Calls Tryz.prog 65 #[.int .i64 x] w (RetInt w x 2) := by
  obtain ⟨u, hu⟩ : ∃ u : Int, u = x.natAbs := ⟨_, rfl⟩
  have hs := sgn_abs x
  rw [← hu] at hs
  have hu0 : 0 ≤ u := by omega
  have hu1 : u ≤ 9223372036854775808 := by omega
  have HS := Lib.hid hs
  clear hs
  by_cases hx : x < 0
  rotate_left
  · have e2 : IntKind.u64.wrap x = u := by rw [IntKind.wrap_u64]; omega
    clear hu
    go_enter Tryz.func65, Tryz.ntmps65
    go_wp2_with fail
    refine (split_any _ u hu0 (by omega)).mono ?_
    rintro e w1 ⟨a1, n1, c1, z1, rfl, hown, hl1, ht1, hv1, hn1, hb1⟩
    obtain ⟨hz1, hr1, hb2⟩ := left1 hb1
    have HO := Lib.hid hown
    have HV := Lib.hid hv1
    have HR := Lib.hid hr1
    clear hown hv1 hr1
    go_wp2_with fail
    refine (wrap_int w1 _ _ _ _ _ HO.out.sl hl1 rfl).mono ?_
    rintro e w2 ⟨neg', ao', n', cap', zs', rfl, hint, hn', hb3⟩
    have hr2 := (hb3.block _ (by omega)).trans HR.out
    obtain ⟨c0, c1, f0, f1⟩ := blk2 hr2
    have HI := Lib.hid (hint.stored hr2 (.bool neg') (.slice ao' n' cap'))
    clear hint hr2
    have hb4 : Below w.heap.size w w2 := hb2.trans (hb3.mono (by omega))
    go_wp2
    refine bodyPost_ret (v := .agg #[.bool neg', .slice ao' n' cap']) (by simp [results, Tryz.results65, go_sem, c0, c1]) rfl ?_
    exact fin_int (Nat.le_refl _) hb4 HI.out (by have := HS.out; rw [HV.out]; simpa [hx, show ¬ x < 0 by omega] using this) (Nat.le_trans hn' hn1)
  · have e2 : IntKind.u64.wrap (- IntKind.u64.wrap x) = u := by rw [IntKind.wrap_u64, IntKind.wrap_u64]; omega
    clear hu
    go_enter Tryz.func65, Tryz.ntmps65
    go_wp2_with fail
    refine (split_any _ u hu0 (by omega)).mono ?_
    rintro e w1 ⟨a1, n1, c1, z1, rfl, hown, hl1, ht1, hv1, hn1, hb1⟩
    obtain ⟨hz1, hr1, hb2⟩ := left1 hb1
    have HO := Lib.hid hown
    have HV := Lib.hid hv1
    have HR := Lib.hid hr1
    clear hown hv1 hr1
    go_wp2_with fail
    refine (wrap_int w1 _ _ _ _ _ HO.out.sl hl1 rfl).mono ?_
    rintro e w2 ⟨neg', ao', n', cap', zs', rfl, hint, hn', hb3⟩
    have hr2 := (hb3.block _ (by omega)).trans HR.out
    obtain ⟨c0, c1, f0, f1⟩ := blk2 hr2
    have HI := Lib.hid (hint.stored hr2 (.bool neg') (.slice ao' n' cap'))
    clear hint hr2
    have hb4 : Below w.heap.size w w2 := hb2.trans (hb3.mono (by omega))
    go_wp2
    refine bodyPost_ret (v := .agg #[.bool neg', .slice ao' n' cap']) (by simp [results, Tryz.results65, go_sem, c0, c1]) rfl ?_
    exact fin_int (Nat.le_refl _) hb4 HI.out (by have := HS.out; rw [HV.out]; simpa [hx] using this) (Nat.le_trans hn' hn1)

/-- Quotient and remainder of integers, cut towards 0. -/
def RetQR (w : World) (q r : Int) (L M : Nat) (e : Ending) (w' : World) : Prop :=
  ∃ s1 a1 n1 c1 z1 s2 a2 n2 c2 z2, e = .returned (.tuple #[.agg #[.bool s1, .slice a1 n1 c1], .agg #[.bool s2, .slice a2 n2 c2], .int .i64 0]) ∧
    IntAt w' s1 a1 n1 c1 z1 q ∧ n1 ≤ L ∧ IntAt w' s2 a2 n2 c2 z2 r ∧ n2 ≤ M ∧ Below w.heap.size w w'

theorem heap_alloc4 (w : World) (o1 o2 o3 o4 : Obj) : ((((w.alloc o1).alloc o2).alloc o3).alloc o4).heap[w.heap.size + 1 + 1 + 1]? = some o4 := by
  have := heap_alloc_new (((w.alloc o1).alloc o2).alloc o3) o4; simpa using this

theorem tdiv_sgn (nx ny : Bool) (a b : Int) (ha : 0 ≤ a) (hb : 0 ≤ b) : (sgn nx a).tdiv (sgn ny b) = sgn (!nx == ny) (a / b) ∧ (sgn nx a).tmod (sgn ny b) = sgn nx (a % b) := by
  have e1 : a.tdiv b = a / b := Int.tdiv_eq_ediv_of_nonneg ha
  have e2 : a.tmod b = a % b := Int.tmod_eq_emod_of_nonneg ha
  cases nx <;> cases ny <;> simp [sgn, e1, e2, Int.neg_tdiv, Int.tdiv_neg, Int.neg_tmod, Int.tmod_neg]

/-- Four new blocks of two cells each. -/
def Four (N : Nat) (w : World) (a b c d : Array Value) : Prop :=
  w.heap[N]? = some (.cells a 31 (0, 0)) ∧ w.heap[N + 1]? = some (.cells b 31 (0, 0)) ∧ w.heap[N + 1 + 1]? = some (.cells c 31 (0, 0)) ∧ w.heap[N + 1 + 1 + 1]? = some (.cells d 31 (0, 0))

theorem Four.below {N : Nat} {w w' : World} {a b c d : Array Value} (h : Four N w a b c d) (hb : Below w.heap.size w w') (hN : N + 1 + 1 + 1 + 1 ≤ w.heap.size) : Four N w' a b c d := by
  obtain ⟨h1, h2, h3, h4⟩ := h
  exact ⟨by rw [hb.block _ (by omega)]; exact h1, by rw [hb.block _ (by omega)]; exact h2, by rw [hb.block _ (by omega)]; exact h3, by rw [hb.block _ (by omega)]; exact h4⟩

theorem Four.drew {N : Nat} {w : World} {a b c d : Array Value} (h : Four N w a b c d) : Four N w.drew a b c d := h

theorem left4 {w w1 : World} {a b c d : Array Value} (hb : Below ((((w.alloc (.cells a 31)).alloc (.cells b 31)).alloc (.cells c 31)).alloc (.cells d 31)).heap.size ((((w.alloc (.cells a 31)).alloc (.cells b 31)).alloc (.cells c 31)).alloc (.cells d 31)) w1) :
    w.heap.size + 1 + 1 + 1 + 1 ≤ w1.heap.size ∧ Four w.heap.size w1 a b c d ∧ Below w.heap.size w w1 := by
  have hs : ((((w.alloc (.cells a 31)).alloc (.cells b 31)).alloc (.cells c 31)).alloc (.cells d 31)).heap.size = w.heap.size + 1 + 1 + 1 + 1 := by simp
  have hb' := hb.size
  have h3 : Below w.heap.size w ((((w.alloc (.cells a 31)).alloc (.cells b 31)).alloc (.cells c 31)).alloc (.cells d 31)) := (ent3 w _ _ _).alloc (by simp; omega) _
  refine ⟨by omega, ⟨?_, ?_, ?_, ?_⟩, h3.trans (hb.mono (by omega))⟩
  · rw [hb.block _ (by omega), heap_alloc_old _ _ (by simp; omega), heap_alloc_old _ _ (by simp; omega), heap_alloc_old _ _ (by simp), heap_alloc_new]
  · rw [hb.block _ (by omega), heap_alloc_old _ _ (by simp), heap_alloc_old _ _ (by simp)]; have := heap_alloc_new (w.alloc (.cells a 31)) (.cells b 31); simpa using this
  · rw [hb.block _ (by omega), heap_alloc_old _ _ (by simp)]; exact heap_alloc3 w _ _ _
  · rw [hb.block _ (by omega)]; exact heap_alloc4 w _ _ _ _

set_option maxRecDepth 100000 in
theorem div_int (w : World) (nx ny : Bool) (ao bo : Option Addr) (n m capa capb : Nat) (xs ys : List Int) (x y : Int) (hx : IntAt w nx ao n capa xs x) (hy : IntAt w ny bo m capb ys y) (hy0 : y ≠ 0) (L M : Nat)
    (hdiv : ∀ w1, Below w.heap.size w w1 → Calls Tryz.prog 154 #[.slice ao n capa, .slice bo m capb] w1 (RetDiv w1 (val xs / val ys) (val xs % val ys) L M)) :
    Calls Tryz.prog 120 #[.agg #[.bool nx, .slice ao n capa], .agg #[.bool ny, .slice bo m capb]] w (RetQR w (x.tdiv y) (x.tmod y) L M) := by
  have HD := Lib.hid hdiv
  have hs : ∃ c, c = cmpI y 0 ∧ (c == 0) = false := ⟨_, rfl, by unfold cmpI; by_cases h1 : y < 0 <;> by_cases h2 : 0 < y <;> simp [h1, h2] <;> omega⟩
  obtain ⟨c, hc, hcz⟩ := hs
  have HSG : Hid (∀ w1, Below w.heap.size w w1 → Calls Tryz.prog 64 #[.agg #[.bool ny, .slice bo m capb]] w1 (RetV w1 (.int .i64 c))) :=
    fun w1 hb => by rw [hc]; exact sign_int w1 ny bo m capb ys y (hy.below hb)
  clear hdiv hc
  go_enter Tryz.func120, Tryz.ntmps120
  go_wp2_with fail
  refine (HSG.out _ (by go_grown)).mono ?_
  rintro e w1 ⟨rfl, hb1⟩
  obtain ⟨hz1, bk1, hb2⟩ := left4 hb1
  have HB1 := Lib.hid bk1
  obtain ⟨k1, k2, _, _⟩ := bk1
  obtain ⟨x0, x1, _, _⟩ := blk2 k1
  obtain ⟨y0, y1, _, _⟩ := blk2 k2
  clear hb1 k1 k2
  go_wp2_with fail
  refine (HD.out w1 hb2).mono ?_
  rintro e w2 ⟨a1, n1, c1, z1, a2, n2, c2, z2, rfl, ho1, hl1, ht1, hv1, hn1, ho2, hl2, ht2, hv2, hn2, hb3⟩
  have hz2 : w.heap.size + 1 + 1 + 1 + 1 ≤ w2.heap.size := Nat.le_trans hz1 hb3.size
  have HB2 := Lib.hid (Four.below HB1.out hb3 hz1)
  have HO1 := Lib.hid ho1.sl
  have HO2 := Lib.hid ho2.sl
  have HV1 := Lib.hid hv1
  have HV2 := Lib.hid hv2
  have HW2 : Below w.heap.size w w2 := hb2.trans (hb3.mono (by omega))
  clear ho1 ho2 hv1 hv2 x0 x1 y0 y1 HB1 hb3 hb2
  obtain ⟨x0, -, -, -⟩ := blk2 HB2.out.1
  obtain ⟨y0, -, -, -⟩ := blk2 HB2.out.2.1
  go_wp2_with fail
  go_region_held3 (fun w' => w'.cell? ⟨w.heap.size, 0, none⟩ = some (.bool nx) ∧ w'.cell? ⟨w.heap.size + 1, 0, none⟩ = some (.bool ny)) (((try dsimp only); (repeat' apply And.intro) <;> (first | (go_keep; done) | (go_split_ands; rw [World.cell?_setCell_far _ _ _ _ (by dsimp only; omega), World.cell?_setCell_far _ _ _ _ (by dsimp only; omega)]; assumption) | (go_split_ands; rw [hb5.cell (by go_size)]; assumption) | (go_split_ands; rw [hb7.cell (by go_size)]; assumption))))
    (first | (go_at_call_of 112 a1; refine (wrap_int _ _ _ _ _ _ ?_ hl1 rfl).mono ?_; (exact HO1.out.drew); rintro e w3 ⟨s3, a3, n3, c3, z3, rfl, hint3, hn3, hb5⟩; have hz3 := Nat.le_trans hz2 hb5.size; have HB3 := Lib.hid (Four.below HB2.out.drew hb5 hz2); have HI3 := Lib.hid hint3; clear hint3) | (go_at_call_of 112 a2; refine (wrap_int _ _ _ _ _ _ ?_ hl2 rfl).mono ?_; (exact HO2.out.drew.below hb5); rintro e w4 ⟨s4, a4, n4, c4, z4, rfl, hint4, hn4, hb7⟩; have HB4 := Lib.hid (Four.below HB3.out hb7 hz3); have HI4 := Lib.hid hint4; clear hint4; obtain ⟨q0, q1, qf0, qf1⟩ := blk2 HB4.out.2.2.1; obtain ⟨r0, r1, rf0, rf1⟩ := blk2 HB4.out.2.2.2))
  have hk : ((w4.setCell ⟨w.heap.size + 1 + 1, 0, none⟩ (.bool s3)).setCell ⟨w.heap.size + 1 + 1, 1, none⟩ (.slice a3 n3 c3)).heap[w.heap.size + 1 + 1 + 1]? = some (.cells #[.bool false, .slice none 0 0] 31 (0, 0)) := by
    rw [Below.heap_setCell _ _ _ _ (by dsimp only; omega), Below.heap_setCell _ _ _ _ (by dsimp only; omega)]
    exact HB4.out.2.2.2
  have hq := ((HI3.out.below hb7).stored HB4.out.2.2.1 (.bool s3) (.slice a3 n3 c3)).stored hk (.bool s4) (.slice a4 n4 c4)
  have hr := (HI4.out.stored HB4.out.2.2.1 (.bool s3) (.slice a3 n3 c3)).stored hk (.bool s4) (.slice a4 n4 c4)
  obtain ⟨ex1, ex2⟩ := tdiv_sgn nx ny (val xs) (val ys) (val_nonneg hx.lim) (val_nonneg hy.lim)
  have eq : sgn (!nx == ny) (val z1) = x.tdiv y := by rw [HV1.out, hx.val, hy.val]; exact ex1.symm
  have er : sgn nx (val z2) = x.tmod y := by rw [HV2.out, hx.val, hy.val]; exact ex2.symm
  rw [eq] at hq
  rw [er] at hr
  have HQ := Lib.hid hq
  have HR := Lib.hid hr
  have hb8 : Below w.heap.size w w4 := HW2.drew.trans ((hb5.trans (hb7.mono hb5.size)).mono HW2.size)
  have hb9 := (((hb8.setCell (p := ⟨w.heap.size + 1 + 1, 0, none⟩) (by dsimp only; omega) (.bool s3)).setCell (p := ⟨w.heap.size + 1 + 1, 1, none⟩) (by dsimp only; omega) (.slice a3 n3 c3)).setCell (p := ⟨w.heap.size + 1 + 1 + 1, 0, none⟩) (by dsimp only; omega) (.bool s4)).setCell (p := ⟨w.heap.size + 1 + 1 + 1, 1, none⟩) (by dsimp only; omega) (.slice a4 n4 c4)
  clear hx hy hq hr hk ex1 ex2 eq er
  go_wp2
  refine bodyPost_ret (v := .tuple #[.agg #[.bool s3, .slice a3 n3 c3], .agg #[.bool s4, .slice a4 n4 c4], .int .i64 0]) (by simp [results, Tryz.results120, go_sem, q0, q1, r0, r1]) rfl ?_
  exact ⟨_, _, _, _, _, _, _, _, _, _, rfl, HQ.out, Nat.le_trans hn3 hn1, HR.out, Nat.le_trans hn4 hn2, hb9⟩
end Go.Proofs.YtdfepdhflnnjpaaGreat
