/- TextMath, Text1, Text2 in one text. -/
import Derived.Test.YtdfepdhflnnjpaaGreatNats
import Derived.RegionTactic
import Derived.ChangeAlike
import Derived.BigRegion
import Derived.Laws.BytesArg
namespace Go.Proofs.YtdfepdhflnnjpaaGreat
open Go.RowKit
set_option autoImplicit false
set_option maxHeartbeats 1000000
set_option linter.unusedVariables false

/-- The value of digits to the base r. -/
def dval (r : Int) : List Int → Int
  | [] => 0
  | d :: ds => d + r * dval r ds

def Dig (r : Int) (ds : List Int) : Prop := ∀ d ∈ ds, 0 ≤ d ∧ d < r

theorem dval_append (r : Int) (a b : List Int) : dval r (a ++ b) = dval r a + r ^ a.length * dval r b := by
  induction a with
  | nil => simp [dval]
  | cons z zs ih =>
    simp only [List.cons_append, dval, ih, List.length_cons, Int.pow_succ]
    grind

theorem dval_snoc (r : Int) (a : List Int) (d : Int) : dval r (a ++ [d]) = dval r a + r ^ a.length * d := by
  rw [dval_append]; simp [dval]

theorem Dig_snoc {r : Int} {a : List Int} {d : Int} (h : Dig r a) (h0 : 0 ≤ d) (h1 : d < r) : Dig r (a ++ [d]) := by
  intro z hz
  rcases List.mem_append.1 hz with hz | hz
  · exact h z hz
  · simp at hz; subst hz; exact ⟨h0, h1⟩

theorem Dig_take {r : Int} {a : List Int} (h : Dig r a) (n : Nat) : Dig r (a.take n) := fun z hz => h z (List.mem_of_mem_take hz)

theorem dval_nonneg {r : Int} (hr : 0 ≤ r) {ds : List Int} (h : Dig r ds) : 0 ≤ dval r ds := by
  induction ds with
  | nil => simp [dval]
  | cons z zs ih =>
    have h1 := h z (by simp)
    have h2 := ih (fun y hy => h y (by simp [hy]))
    simp only [dval]
    have := Int.mul_nonneg hr h2
    omega

theorem rpow_pos {r : Int} (hr : 2 ≤ r) (n : Nat) : 0 < r ^ n := Int.pow_pos (by omega)

theorem two_le_rpow {r : Int} (hr : 2 ≤ r) (n : Nat) : (2 : Int) ^ n ≤ r ^ n := by
  induction n with
  | zero => simp
  | succ n ih =>
    rw [Int.pow_succ, Int.pow_succ]
    exact Int.mul_le_mul ih hr (by omega) (by have := rpow_pos hr n; omega)

theorem lt_of_two_pow {a b : Nat} (h : (2 : Int) ^ a < 2 ^ b) : a < b := by
  rcases Nat.lt_or_ge a b with h1 | h1
  · exact h1
  · obtain ⟨k, rfl⟩ := Nat.exists_eq_add_of_le h1
    rw [Int.pow_add] at h
    have h2 : (0 : Int) < 2 ^ b := Int.pow_pos (by omega)
    have h3 : (0 : Int) < 2 ^ k := Int.pow_pos (by omega)
    have h4 : (2 : Int) ^ b * 1 ≤ 2 ^ b * 2 ^ k := Int.mul_le_mul_of_nonneg_left (by omega) (by omega)
    omega

theorem base_pow (n : Nat) : (4294967296 : Int) ^ n = 2 ^ (32 * n) := by
  rw [Int.pow_mul]; rfl

theorem dval_take_succ (r : Int) (a : List Int) (i : Nat) : dval r (a.take (i + 1)) = dval r (a.take i) + r ^ i * a.getD i 0 := by
  by_cases h : i < a.length
  · rw [take_succ_getD h, dval_snoc, List.length_take, Nat.min_eq_left (by omega)]
  · rw [getD_ge (by omega), List.take_of_length_le (by omega), List.take_of_length_le (by omega)]; omega

/-- The digits of v to the base r, the least significant one first. -/
def digs (r v : Nat) : List Int := if h : v = 0 ∨ r < 2 then [] else ((v % r : Nat) : Int) :: digs r (v / r)
termination_by v
decreasing_by exact Nat.div_lt_self (by omega) (by omega)

theorem digs_zero (r : Nat) : digs r 0 = [] := by rw [digs]; simp

theorem digs_pos {r v : Nat} (hr : 2 ≤ r) (hv : v ≠ 0) : digs r v = ((v % r : Nat) : Int) :: digs r (v / r) := by
  rw [digs, dif_neg (by omega)]

/-- Digits without a zero at the top are those of their value. -/
theorem digs_of {r : Nat} (hr : 2 ≤ r) {ds : List Int} (h : Dig r ds) (ht : ds = [] ∨ ds.getD (ds.length - 1) 0 ≠ 0) : ∃ v : Nat, dval r ds = v ∧ digs r v = ds ∧ (ds ≠ [] → v ≠ 0) := by
  induction ds with
  | nil => exact ⟨0, rfl, digs_zero r, fun h => absurd rfl h⟩
  | cons z zs ih =>
    have hz := h z (by simp)
    obtain ⟨k, rfl⟩ := Int.eq_ofNat_of_zero_le hz.1
    obtain ⟨v, hv, hd, hne⟩ := ih (fun y hy => h y (by simp [hy])) (by
      rcases ht with ht | ht
      · simp at ht
      · cases zs with
        | nil => exact .inl rfl
        | cons y ys => right; simpa [List.getD] using ht)
    have hkr : k < r := by omega
    have hpos : k + r * v ≠ 0 := by
      intro h0
      have hk0 : k = 0 := by omega
      have hv0 : v = 0 := by
        have : r * v = 0 := by omega
        rcases Nat.mul_eq_zero.1 this with h1 | h1
        · omega
        · exact h1
      have hzs : zs = [] := by
        rcases Classical.em (zs = []) with h1 | h1
        · exact h1
        · exact absurd hv0 (hne h1)
      rcases ht with ht | ht
      · simp at ht
      · rw [hzs, hk0] at ht; simp [List.getD] at ht
    refine ⟨k + r * v, ?_, ?_, fun _ => hpos⟩
    · simp only [dval, hv]; simp
    · rw [digs_pos hr hpos, Nat.add_mul_mod_self_left, Nat.mod_eq_of_lt hkr, Nat.add_mul_div_left _ _ (by omega), Nat.div_eq_of_lt hkr, Nat.zero_add, hd]

/-- A digit's letter. -/
def letter (d : Int) : Int := if d < 10 then 48 + d else 55 + d

theorem letter_range {d : Int} (h0 : 0 ≤ d) (h1 : d < 36) : 48 ≤ letter d ∧ letter d ≤ 90 := by unfold letter; split <;> omega

theorem letter_zero {d : Int} (h0 : 0 ≤ d) : letter d = 48 ↔ d = 0 := by unfold letter; split <;> omega

/-- The text of x to the base r: the sign, and the digits, the most significant one first. -/
def textOf (r : Nat) (x : Int) : List Int := if x = 0 then [48] else (if x < 0 then [45] else []) ++ ((digs r x.natAbs).map letter).reverse

theorem group_any (w : World) (r : Int) (h2 : 2 ≤ r) (h36 : r ≤ 36) :
    Calls Tryz.prog 160 #[.int .i64 r] w fun e w' => ∃ c : Nat, 1 ≤ c ∧ c < 32 ∧ r ^ c ≤ 4294967295 ∧ e = .returned (.tuple #[.int .i64 c, .int .u32 (r ^ c)]) ∧ w = w' := by
  go_enter Tryz.func160, Tryz.ntmps160
  go_wp2_with fail
  go_loop [2, 4] (fun cc p => ∃ c : Nat, cc = .int .i64 c ∧ p = .int .u64 (r ^ c) ∧ r ^ c ≤ 4294967295 ∧ c < 32) (fun cc _ => 32 - (intOf cc).toNat)
  case atStart => exact ⟨0, rfl, by simp, by simp, by omega⟩
  case round =>
    obtain ⟨c, rfl, rfl, hp, hc⟩ := hrel
    have hp0 := rpow_pos h2 c
    have hs : r ^ (c + 1) = r ^ c * r := Int.pow_succ ..
    have h2p := two_le_rpow h2 (c + 1)
    obtain ⟨p, hpe⟩ : ∃ p, r ^ c = p := ⟨_, rfl⟩
    rw [hpe] at hp hp0 hs ⊢
    have hm0 : 0 ≤ p * r := Int.mul_nonneg (by omega) (by omega)
    have hm1 : p * r ≤ 4294967295 * 36 := Int.mul_le_mul hp h36 (by omega) (by omega)
    have HS := Lib.hid hs
    have HP := Lib.hid hpe
    clear hs hpe
    by_cases hlt : p * r < 4294967296
    · have hc2 : c + 1 < 32 := lt_of_two_pow (by rw [HS.out] at h2p; exact Int.lt_of_le_of_lt h2p hlt)
      have HC2 := Lib.hid hc2
      clear hc2 h2p
      go_wp2_with fail
      go_round
      case rel => exact ⟨c + 1, by go_num, by rw [HS.out], by rw [HS.out]; omega, HC2.out⟩
      case measure => simp [intOf]; omega
    · have hc1 : 1 ≤ c := by
        rcases Nat.eq_zero_or_pos c with h0 | h0
        · subst h0
          have := HP.out
          simp at this
          subst this
          omega
        · exact h0
      clear h2p
      go_wp2_with fail
      go_ret2
      exact ⟨c, hc1, hc, by rw [HP.out]; omega, by rw [HP.out]; rfl, rfl⟩

/-- Bytes in a row of the call's own. -/
def Own8 (B : Nat) (w : World) (ao : Option Addr) (n cap : Nat) (bs : List Int) : Prop :=
  w.ownsRow B 5 1 (.slice ao n cap) n (bs.map (Value.int .u8))

theorem info_u8 : (Tryz.prog.info? 5).map (fun i => (i.zero, i.size, i.bytes)) = some (some (.int .u8 0), 1, 1) := by kernel_rfl

def letterBytes : ByteArray := { data := #[48, 49, 50, 51, 52, 53, 54, 55, 56, 57, 65, 66, 67, 68, 69, 70, 71, 72, 73, 74, 75, 76, 77, 78, 79, 80, 81, 82, 83, 84, 85, 86, 87, 88, 89, 90] }

theorem letters_all : ∀ k : Fin 36, ((letterBytes[k.val]'(by have := k.isLt; exact this)).toNat : Int) = letter (k.val : Int) := by decide +kernel

theorem letters_at (d : Int) (h0 : 0 ≤ d) (h1 : d < 36) (w : World) :
    (Instr.index 9 (.string { data := #[48, 49, 50, 51, 52, 53, 54, 55, 56, 57, 65, 66, 67, 68, 69, 70, 71, 72, 73, 74, 75, 76, 77, 78, 79, 80, 81, 82, 83, 84, 85, 86, 87, 88, 89, 90] }) (.int .u32 d)).run Tryz.prog w = .ok (.int .u8 (letter d)) w := by
  obtain ⟨k, rfl⟩ := Int.eq_ofNat_of_zero_le h0
  have hk : k < 36 := by omega
  have h := letters_all ⟨k, hk⟩
  simp only at h
  simp [go_sem]
  rw [dif_pos h1]
  rw [← h]
  rfl

theorem own_ne {w : World} {B B' : Nat} {e e' : TypeId} {s s' : Nat} {v v' : Value} {n n' : Nat} {xs xs' : List Value} (h : w.ownsRow B e s v n xs) (h' : w.ownsRow B' e' s' v' n' xs') (hne : e ≠ e') : v.ownBlock = none ∨ v.ownBlock ≠ v'.ownBlock := by
  rcases h.2 with ⟨rfl, _⟩ | ⟨g, c, cur, rfl, _, hg, _⟩
  · exact .inl rfl
  · rcases h'.2 with ⟨rfl, _⟩ | ⟨g', c', cur', rfl, _, hg', _⟩
    · exact .inr (by simp [Value.ownBlock])
    · refine .inr ?_
      simp only [Value.ownBlock, ne_eq, Option.some.injEq]
      intro hgg
      rw [hgg, hg'] at hg
      simp at hg
      exact hne hg.2.symm

/-- The text's digits were returned, the least significant one first. -/
def RetDigits (B : Nat) (w : World) (r v : Int) (n : Nat) (e : Ending) (w' : World) : Prop :=
  ∃ to tn tc ds, e = .returned (.slice to tn tc) ∧ Own8 w.heap.size w' to tn tc (List.map letter ds) ∧ Dig r ds ∧ dval r ds = v ∧ tn ≤ 32 * n + 32 ∧ Below B w w'

theorem dig_step {r q : Int} {ds : List Int} {S : Int} (h : dval r ds + r ^ ds.length * q = S) : dval r (ds ++ [q % r]) + r ^ (ds ++ [q % r]).length * (q / r) = S := by
  rw [dval_snoc, List.length_append, List.length_singleton, Int.pow_succ]
  have := Int.emod_add_mul_ediv q r
  grind

set_option maxRecDepth 100000 in
theorem digits_any (B : Nat) (w : World) (ao : Option Addr) (n cap : Nat) (xs : List Int) (r : Int) (hx : Own B w ao n cap xs) (lx : Lim xs) (tx : Top xs) (hB : B ≤ w.heap.size) (h2 : 2 ≤ r) (h36 : r ≤ 36) (hn : n ≤ 34359738368) :
    Calls Tryz.prog 145 #[.slice ao n cap, .int .u32 r] w (RetDigits B w r (val xs) n) := by
  obtain ⟨i0, hi, hz0, hz1, hz2⟩ := info_parts info_u8
  have HX := Lib.hid hx
  have HXL : Hid (val xs < 2 ^ (32 * n)) := by have := val_lt lx; rwa [hx.sl.len, base_pow] at this
  clear hx
  go_enter Tryz.func145, Tryz.ntmps145
  go_wp2_with fail
  refine (group_any w r h2 h36).mono ?_
  rintro e w0 ⟨c, hc1, hc2, hp, rfl, rfl⟩
  have hr0 : 0 < r ^ c := rpow_pos h2 c
  have hr2 : 2 ≤ r ^ c := by
    have h := two_le_rpow h2 c
    have : (2 : Int) ^ 1 ≤ 2 ^ c := by
      obtain ⟨k, rfl⟩ := Nat.exists_eq_add_of_le hc1
      rw [Int.pow_add]
      have : (0 : Int) < 2 ^ k := Int.pow_pos (by omega)
      omega
    simp at this
    omega
  obtain ⟨p, hpe⟩ : ∃ p, r ^ c = p := ⟨_, rfl⟩
  rw [hpe] at hp hr0 hr2
  simp only [hpe]
  have HP := Lib.hid hpe
  clear hpe
  go_wp2_with fail
  go_loopg [0, 5] (val xs).toNat (fun k a t wr => ∃ n' zs to tn tc ds, a = .slice ao n' cap ∧ t = .slice to tn tc ∧ Own B wr ao n' cap zs ∧ Lim zs ∧ Top zs ∧ n' ≤ n ∧ k = (val zs).toNat ∧ Own8 w.heap.size wr to tn tc (List.map letter ds) ∧ Dig r ds ∧
      dval r ds + r ^ ds.length * val zs = val xs ∧ tn ≤ 32 * n + 32 ∧ Below B w wr)
  case atStart => exact ⟨n, xs, none, 0, 0, [], rfl, rfl, HX.out, lx, tx, Nat.le_refl _, rfl, World.ownsRow_nil _ _ _ _, (by intro d hd; cases hd), by simp [dval], by omega, Below.refl _ _⟩
  case round =>
    obtain ⟨n', zs, to, tn, tc, ds, rfl, rfl, ho, hl, ht, hn', hgk, hot, hdig, hval, htn, hbel⟩ := hrel
    have HO := Lib.hid ho
    have HT := Lib.hid hot
    have HV := Lib.hid hval
    have HG := Lib.hid hgk
    have HN := Lib.hid (show tn = ds.length by have := hot.1; simp at this; omega)
    clear ho hot hval hgk
    by_cases hn0 : n' = 0
    · subst hn0
      have hzs : zs = [] := List.eq_nil_of_length_eq_zero HO.out.sl.len
      have hv : dval r ds = val xs := by have := HV.out; rw [hzs] at this; simpa [val] using this
      have HV2 := Lib.hid hv
      clear hv
      go_wp2_with fail
      go_ret
      exact ⟨to, tn, tc, ds, rfl, HT.out, hdig, HV2.out, htn, hbel⟩
    · have hzs : zs ≠ [] := by intro h; have := HO.out.sl.len; rw [h] at this; simp at this; omega
      have hvp : 0 < val zs := Int.lt_of_lt_of_le (pow_pos (zs.length - 1)) (val_pos_of_top hl ht hzs)
      have hrp := rpow_pos h2 ds.length
      have hdn := dval_nonneg (by omega) hdig
      have hbd : ds.length < 32 * n := by
        apply lt_of_two_pow
        have h1 := two_le_rpow h2 ds.length
        have h2' : r ^ ds.length * 1 ≤ r ^ ds.length * val zs := Int.mul_le_mul_of_nonneg_left (by omega) (by omega)
        have h3 := HV.out
        have h4 := HXL.out
        omega
      have htn' : tn < 32 * n := by rw [HN.out]; exact hbd
      have hm : n' ≤ 9223372036854775807 := by omega
      have hnp : 0 < n' := by omega
      have HD := Lib.hid (divideSmall_any B wr ao n' cap zs p HO.out hl hr0 hp)
      have HVP := Lib.hid hvp
      have HBD := Lib.hid hbd
      clear hvp hrp hdn hbd hzs
      go_wp2_with fail
      refine HD.out.mono ?_
      rintro e w1 ⟨n1, z1, rfl, ho1, hl1, ht1, hv1, hn1, hg1, hb1⟩
      have HV1 := Lib.hid hv1
      have HO1 := Lib.hid ho1
      have hkeep := (World.ownsRow.kept HT.out hg1 (own_ne HT.out HO.out (by decide)) : Own8 w.heap.size w1 to tn tc (List.map letter ds))
      have HT1 := Lib.hid hkeep
      have hb1' := hbel.trans hb1
      clear hv1 ho1 hg1 hkeep hb1
      obtain ⟨R, hR⟩ : ∃ R, R = val zs % p := ⟨_, rfl⟩
      have hR0 : 0 ≤ R := by rw [hR]; exact Int.emod_nonneg _ (by omega)
      have hR1 : R < p := by rw [hR]; exact Int.emod_lt_of_pos _ hr0
      rw [← hR]
      have HR := Lib.hid hR
      clear hR
      go_wp2_with fail
      obtain ⟨wo, rfl⟩ : ∃ wo : World, wo = w1 := ⟨_, rfl⟩
      go_loopw [5, 8, 25] (fun t rest i wi => ∃ (k : Nat) (q : Int), ∃ to tn tc es, k ≤ c ∧ i = .int .i64 k ∧ rest = .int .u32 q ∧ 0 ≤ q ∧ q ≤ 4294967295 ∧ q * r ^ k ≤ R ∧ t = .slice to tn tc ∧ Own8 w.heap.size wi to tn tc (List.map letter es) ∧ Dig r es ∧
          es.length = ds.length + k ∧ dval r es + r ^ es.length * q = dval r ds + r ^ ds.length * R ∧ tn = ds.length + k ∧ Own B wi ao n1 cap z1 ∧ Below B w wi) (fun _ _ i _ => c - (intOf i).toNat)
      case atStart => exact ⟨0, R, to, tn, tc, ds, Nat.zero_le _, rfl, rfl, hR0, by omega, by simp, rfl, HT1.out, hdig, rfl, rfl, HN.out, HO1.out, hb1'⟩
      case round =>
        obtain ⟨k, q, to, tn, tc, es, hk, rfl, rfl, hq0, hq1, hqk, rfl, hot, hes, hel, hev, hetn, hoz, hbe⟩ := hrel
        have HOT := Lib.hid hot
        have HEL := Lib.hid hel
        have HEV := Lib.hid hev
        have HOZ := Lib.hid hoz
        have HQK := Lib.hid hqk
        have HTN := Lib.hid hetn
        clear hot hel hev hoz hqk hetn
        by_cases hkc : k < c
        · have hm0 : 0 ≤ q % r := Int.emod_nonneg _ (by omega)
          have hm1 : q % r < r := Int.emod_lt_of_pos _ (by omega)
          have hidx := letters_at (q % r) hm0 (by omega)
          have hlr := letter_range hm0 (by omega : q % r < 36)
          have hbound : tn + 1 ≤ 281474976710656 := by have := HTN.out; have := HBD.out; omega
          have hsz : w.heap.size ≤ wr.heap.size := hbe.size
          go_wp2_with (at_builtin; refine wpList_append_own _ rfl _ _ 173 rfl w.heap.size 5 i0 (.int .u8 0) 1 1 Tryz.underlying173 hi hz0 hz1 hz2 rfl (by decide) _ _ _ rfl (World.ownsRow.alloc HOT.out _) ⟨wr.heap.size, 0, none⟩ 1 1 [.int .u8 (letter (q % r))] rfl rfl ?c1 ?c2 ?c3 ?c4 ?c5 ?_)
          case c2 => first | rfl | (intro u hu; simp at hu; subst hu; rfl)
          case c3 => unfold maxLen; omega
          case c4 => have := HTN.out; have := HBD.out; omega
          case c5 => first | omega | (simp; omega)
          intro v' w2 hown2 hgrow _
          have hoz2 := (World.ownsRow.kept (World.ownsRow.alloc HOZ.out (.cells #[.int .u8 (letter (q % r))] 5)) hgrow (own_ne HOZ.out HOT.out (by decide)) : Own B w2 ao n1 cap z1)
          have hbw2 : Below B w w2 := Below.grown (hbe.alloc (Nat.le_trans hB hsz) _) hgrow (by simp; omega) (by intro g hg; have := (World.ownsRow.lt HOT.out g hg).1; omega)
          obtain ⟨to2, tc2, rfl⟩ : ∃ to2 tc2, v' = .slice to2 (tn + 1) tc2 := by
            rcases hown2.2 with ⟨hv, h0⟩ | ⟨g, c, cur, hv, _⟩
            · omega
            · exact ⟨_, _, hv⟩
          have hrow2 : Own8 w.heap.size w2 to2 (tn + 1) tc2 (List.map letter (es ++ [q % r])) := by
            unfold Own8
            rw [List.map_append, List.map_append, List.map_map]
            exact hown2
          have HR2 := Lib.hid hrow2
          have HZ2 := Lib.hid hoz2
          clear hown2 hgrow hrow2 hoz2
          have hqr0 : 0 ≤ q / r := Int.ediv_nonneg hq0 (by omega)
          have hqr1 : q / r ≤ q := Int.ediv_le_self _ hq0
          go_wp2_with fail
          go_roundw
          case rel =>
            have hq := HQK.out
            have hrk := rpow_pos h2 k
            have hqr := Int.ediv_mul_le q (show r ≠ 0 by omega)
            have h5 : q / r * r ^ (k + 1) ≤ R := by
              rw [Int.pow_succ, show q / r * (r ^ k * r) = q / r * r * r ^ k by grind]
              exact Int.le_trans (Int.mul_le_mul_of_nonneg_right hqr (by omega)) hq
            exact ⟨k + 1, q / r, to2, tn + 1, tc2, es ++ [q % r], by omega, by go_num, rfl, hqr0, by omega, h5, rfl, HR2.out, Dig_snoc hes hm0 hm1,
              by rw [List.length_append, HEL.out]; rfl, dig_step HEV.out, by rw [HTN.out]; rfl, HZ2.out, hbw2⟩
          case measure => simp [intOf]; omega
        · obtain rfl : k = c := by omega
          have hq := HQK.out
          rw [HP.out] at hq
          have hq00 : q = 0 := by
            rcases (show q = 0 ∨ 1 ≤ q by omega) with h | h
            · exact h
            · have := Int.mul_le_mul_of_nonneg_right h (show 0 ≤ p by omega)
              omega
          have hval2 : dval r es + r ^ es.length * val z1 = val xs := by
            have h1 := HEV.out
            have h3 := HV.out
            have h4 := HV1.out
            have h5 := HR.out
            have h6 := Int.emod_add_mul_ediv (val zs) p
            rw [← h5, ← h4] at h6
            rw [hq00] at h1
            rw [HEL.out, Int.pow_add, HP.out] at h1 ⊢
            grind
          have hlt : (val z1).toNat < gk := by
            have h1 := HV1.out
            have h3 := HVP.out
            have h4 := HG.out
            have : val z1 < val zs := by
              rw [h1]
              exact Int.ediv_lt_self_of_pos_of_ne_one h3 (by omega)
            omega
          have HL2 := Lib.hid hlt
          have HV2 := Lib.hid hval2
          have htn2 : tn ≤ 32 * n + 32 := by have := HTN.out; have := HBD.out; omega
          clear hq hq00 hval2 hlt
          go_wp2_with fail
          go_roundg (val z1).toNat
          case measure => exact HL2.out
          case rel => exact ⟨n1, z1, to, tn, tc, es, rfl, rfl, HOZ.out, hl1, ht1, by omega, rfl, HOT.out, hes, HV2.out, htn2, hbe⟩

theorem Own8.len {B : Nat} {w : World} {ao : Option Addr} {n cap : Nat} {bs : List Int} (h : Own8 B w ao n cap bs) : bs.length = n := by have := h.1; simpa using this

theorem Own8.most {B : Nat} {w : World} {ao : Option Addr} {n cap : Nat} {bs : List Int} (h : Own8 B w ao n cap bs) : n ≤ cap ∧ cap ≤ maxLen := by
  rcases h.2 with ⟨hv, hn⟩ | ⟨g, c, cur, hv, hb, hg, hnc, hcm, hcs, htake⟩
  · simp only [Value.slice.injEq] at hv
    obtain ⟨rfl, rfl, rfl⟩ := hv
    exact ⟨Nat.le_refl _, Nat.zero_le _⟩
  · simp only [Value.slice.injEq] at hv
    obtain ⟨rfl, _, rfl⟩ := hv
    exact ⟨hnc, hcm⟩

theorem Own8.set {B : Nat} {w : World} {g n cap : Nat} {zs : List Int} (h : Own8 B w (some ⟨g, 0, none⟩) n cap zs) (j : Nat) (v : Int) : Own8 B (w.setCell ⟨g, j, none⟩ (.int .u8 v)) (some ⟨g, 0, none⟩) n cap (zs.set j v) := by
  have := (World.ownsRow.stored h j (.int .u8 v)).1
  unfold Own8
  rw [List.map_set]
  exact this

theorem Own8.addr {B : Nat} {w : World} {ao : Option Addr} {n cap : Nat} {zs : List Int} (h : Own8 B w ao n cap zs) (hn : 0 < n) : ∃ g, ao = some ⟨g, 0, none⟩ ∧ B ≤ g := by
  rcases h.2 with ⟨hv, h0⟩ | ⟨g, c, cur, hv, hb, hg, hnc, hcm, hcs, htake⟩
  · omega
  · simp only [Value.slice.injEq] at hv
    exact ⟨g, hv.1, hb⟩

theorem Own8.at {B : Nat} {w : World} {g n cap : Nat} {zs : List Int} (h : Own8 B w (some ⟨g, 0, none⟩) n cap zs) {j : Nat} (hj : j < n) :
    w.cell? ⟨g, j, none⟩ = some (.int .u8 (zs.getD j 0)) ∧ w.frozen? ⟨g, j, none⟩ = false := by
  have hl := h.len
  refine ⟨?_, World.ownsRow.frozenAt h j⟩
  rw [World.ownsRow.cellAt h j (by omega), List.getElem?_map, List.getElem?_eq_getElem (by omega), getD_lt (by omega)]
  rfl

theorem reverse_of {bs cs : List Int} {k m : Nat} (hl : bs.length = k + m + 1) (hc : cs.length = k + m + 1) (hmk : m ≤ k) (h : ∀ t, t < k + m + 1 → cs.getD t 0 = if t < k ∨ m < t then bs.getD (k + m - t) 0 else bs.getD t 0) : cs = bs.reverse := by
  apply List.ext_getElem
  · simp [hl, hc]
  · intro t h1 h2
    have ht := h t (by omega)
    rw [getD_lt h1] at ht
    rw [ht, List.getElem_reverse]
    split
    · rw [getD_lt (by omega)]; congr 1; omega
    · rw [getD_lt (by omega)]; congr 1; omega

theorem rev_step {bs cs : List Int} {k m : Nat} (hc : cs.length = k + m + 1) (hkm : k < m) (h : ∀ t, t < k + m + 1 → cs.getD t 0 = if t < k ∨ m < t then bs.getD (k + m - t) 0 else bs.getD t 0) :
    ∀ t, t < (k + 1) + (m - 1) + 1 → ((cs.set k (cs.getD m 0)).set m (cs.getD k 0)).getD t 0 = if t < k + 1 ∨ m - 1 < t then bs.getD ((k + 1) + (m - 1) - t) 0 else bs.getD t 0 := by
  intro t ht
  have hm := h m (by omega)
  have hk := h k (by omega)
  rw [if_neg (by omega)] at hm hk
  by_cases e1 : t = m
  · subst e1
    rw [getD_set_eq (by rw [List.length_set]; omega), if_pos (by omega), hk]
    congr 1; omega
  · rw [getD_set_ne (by omega)]
    by_cases e2 : t = k
    · subst e2
      rw [getD_set_eq (by omega), if_pos (by omega), hm]
      congr 1; omega
    · rw [getD_set_ne (by omega), h t (by omega)]
      by_cases e3 : t < k ∨ m < t
      · rw [if_pos e3, if_pos (by omega)]; congr 1; omega
      · rw [if_neg e3, if_neg (by omega)]

set_option maxRecDepth 100000 in
theorem reverse_any (B : Nat) (w : World) (ao : Option Addr) (n cap : Nat) (bs : List Int) (h : Own8 B w ao n cap bs) :
    Calls Tryz.prog 146 #[.slice ao n cap] w fun e w' => e = .returned (.tuple #[]) ∧ Own8 B w' ao n cap bs.reverse ∧ Below B w w' := by
  obtain ⟨hle, hmost⟩ := h.most
  unfold maxLen at hmost
  have hlen := h.len
  by_cases hn : n = 0
  · have hbs : bs.reverse = bs := by rw [List.eq_nil_of_length_eq_zero (by omega : bs.length = 0)]; rfl
    rw [hbs]
    have H := Lib.hid h
    clear h hlen hbs
    subst hn
    go_enter Tryz.func146, Tryz.ntmps146
    go_wp2_with fail
    refine wp_loop_rounds 1 ?_; rw [rounds_succ]
    go_wp2_with fail
    go_end0
    exact ⟨rfl, H.out, Below.refl _ _⟩
  · obtain ⟨g, rfl, hg⟩ := h.addr (by omega)
    have H := Lib.hid h
    have HL := Lib.hid hlen
    clear h hlen
    go_enter Tryz.func146, Tryz.ntmps146
    go_wp2_with fail
    go_loopw [2, 3] (fun i j wr => ∃ (k m : Nat) (cs : List Int), i = .int .i64 k ∧ j = .int .i64 m ∧ k + m + 1 = n ∧ cs.length = n ∧ (∀ t, t < k + m + 1 → cs.getD t 0 = if t < k ∨ m < t then bs.getD (k + m - t) 0 else bs.getD t 0) ∧ Own8 B wr (some ⟨g, 0, none⟩) n cap cs ∧ Below B w wr) (fun _ j _ => (intOf j).toNat)
    case atStart => exact ⟨0, n - 1, bs, rfl, by go_num, by omega, HL.out, fun t ht => by rw [if_neg (by omega)], H.out, Below.refl _ _⟩
    case round =>
      obtain ⟨k, m, cs, rfl, rfl, hkm, hcl, hall, hown, hbel⟩ := hrel
      have HO := Lib.hid hown
      have HCL := Lib.hid hcl
      have HALL := Lib.hid hall
      clear hown hcl hall
      by_cases hlt : k < m
      · obtain ⟨hc1, hf1⟩ := HO.out.at (j := k) (by omega)
        obtain ⟨hc2, hf2⟩ := HO.out.at (j := m) (by omega)
        obtain ⟨a, ha⟩ : ∃ a, cs.getD k 0 = a := ⟨_, rfl⟩
        obtain ⟨b, hb⟩ : ∃ b, cs.getD m 0 = b := ⟨_, rfl⟩
        rw [ha] at hc1
        rw [hb] at hc2
        have HA := Lib.hid ha
        have HB := Lib.hid hb
        clear ha hb
        have i1 : (k : Int) < n := by omega
        have i2 : (m : Int) < n := by omega
        go_wp2_with fail
        go_region
        all_goals go_wp2_with fail
        go_roundw
        case rel =>
          have hcl := HCL.out
          have hst := rev_step (bs := bs) (cs := cs) (k := k) (m := m) (by omega) hlt HALL.out
          rw [HA.out, HB.out] at hst
          have hset := (HO.out.set k b).set m a
          exact ⟨k + 1, m - 1, (cs.set k b).set m a, by go_num, by go_num, by omega, by rw [List.length_set, List.length_set]; exact hcl, hst, hset,
            ((hbel.setCell (p := ⟨g, k, none⟩) hg _).setCell (p := ⟨g, m, none⟩) hg _).drew⟩
        case measure => simp [intOf]; omega
      · have hcl := HCL.out
        have hrev := reverse_of (bs := bs) (cs := cs) (k := k) (m := m) (by have := HL.out; omega) (by omega) (by omega) HALL.out
        have HREV := Lib.hid hrev
        clear hrev hcl
        go_wp2_with fail
        go_end0
        exact ⟨rfl, HREV.out ▸ HO.out, hbel⟩

theorem Own8.trimmed {B : Nat} {w : World} {ao : Option Addr} {n cap : Nat} {zs : List Int} (h : Own8 B w ao n cap zs) (k : Nat) (hk : k ≤ n) : Own8 B w ao k cap (zs.take k) := by
  have hl : zs.length = n := h.len
  refine ⟨by simp; omega, ?_⟩
  rcases h.2 with ⟨hv, hn⟩ | ⟨g, c, cur, hv, hb, hg, hnc, hcm, hcs, htake⟩
  · simp only [Value.slice.injEq] at hv
    obtain ⟨rfl, rfl, rfl⟩ := hv
    exact .inl ⟨by rw [show k = 0 by omega], by omega⟩
  · simp only [Value.slice.injEq] at hv
    obtain ⟨rfl, _, rfl⟩ := hv
    refine .inr ⟨g, cap, cur, rfl, hb, hg, by omega, hcm, hcs, ?_⟩
    rw [List.map_take, ← htake, List.take_take]
    congr 1
    omega

/-- A text and no error. -/
def RetText (w : World) (l : List Int) (e : Ending) (w' : World) : Prop :=
  e = .returned (.tuple #[.string (strOfNums l), .int .i64 0]) ∧ Below w.heap.size w w'

theorem textOf_zero (r : Nat) : textOf r 0 = [48] := rfl

theorem strip_step {r : Int} {ds : List Int} {k : Nat} (h0 : ds.getD k 0 = 0) : dval r (ds.take (k + 1)) = dval r (ds.take k) := by
  rw [dval_take_succ, h0]; omega

theorem conv_own8 {B : Nat} {w : World} {ao : Option Addr} {n cap : Nat} {bs : List Int} (h : Own8 B w ao n cap bs) (hn : 0 < n) :
    (convert 173 9 (.slice ao n cap)).run Tryz.prog w = .ok (.string (strOfNums bs)) w := by
  obtain ⟨g, rfl, _⟩ := h.addr hn
  exact run_convert_bytes_arg w 173 5 Tryz.underlying173 Tryz.underlying5 g 0 n cap bs h.len (fun i hi => by rw [Nat.zero_add]; exact (h.at hi).1) 9 Tryz.underlying9

set_option maxRecDepth 100000 in
theorem text_any (w : World) (nx : Bool) (ao : Option Addr) (n cap : Nat) (xs : List Int) (x : Int) (r : Nat) (hx : IntAt w nx ao n cap xs x) (hn : n ≤ 34359738368) (h2 : 2 ≤ r) (h36 : r ≤ 36) :
    Calls Tryz.prog 106 #[.agg #[.bool nx, .slice ao n cap], .int .i64 r] w (RetText w (textOf r x)) := by
  have HSG : Hid (∀ w1, Below w.heap.size w w1 → Calls Tryz.prog 64 #[.agg #[.bool nx, .slice ao n cap]] w1 (RetV w1 (.int .i64 (cmpI x 0)))) :=
    fun w1 hb => sign_int w1 nx ao n cap xs x (hx.below hb)
  have ha1 : (2 : Int) ≤ r := by omega
  have ha2 : (r : Int) ≤ 36 := by omega
  by_cases hx0 : x = 0
  · subst hx0
    rw [textOf_zero]
    have hc : cmpI 0 0 = 0 := by simp [cmpI]
    rw [hc] at HSG
    clear hx hc
    go_enter Tryz.func106, Tryz.ntmps106
    go_wp2_with fail
    refine (HSG.out _ (by go_grown)).mono ?_
    rintro e w1 ⟨rfl, hb1⟩
    go_wp2
    go_ret2
    exact ⟨rfl, Below.trans (by go_grown) (hb1.mono (by go_size))⟩
  · obtain ⟨c, hc, hcz⟩ : ∃ c, c = cmpI x 0 ∧ (c == 0) = false := ⟨_, rfl, by unfold cmpI; by_cases h1 : x < 0 <;> by_cases h2 : 0 < x <;> simp [h1, h2] <;> omega⟩
    rw [← hc] at HSG
    have HK : Hid (∀ w1, Below w.heap.size w w1 → _) := fun w1 hb => clone_any w1 ao n cap xs (hx.sl.below hb) hn
    clear hc
    go_enter Tryz.func106, Tryz.ntmps106
    go_wp2_with fail
    refine (HSG.out _ (by go_grown)).mono ?_
    rintro e w1 ⟨rfl, hb1⟩
    obtain ⟨hz1, hk1, hb2⟩ := left1 hb1
    obtain ⟨k0, k1, _, _⟩ := blk2 hk1
    have HK1 := Lib.hid hk1
    clear hb1 hk1
    go_wp2_with fail
    refine (HK.out w1 hb2).mono ?_
    rintro e w2 ⟨a2, c2, rfl, ho2, hb3⟩
    have hz2 : w.heap.size + 1 ≤ w2.heap.size := Nat.le_trans hz1 hb3.size
    have hk2 := (hb3.block _ (by omega)).trans HK1.out
    have HO2 := Lib.hid ho2
    have HK2 := Lib.hid hk2
    have hb4 : Below w.heap.size w w2 := hb2.trans (hb3.mono (by omega))
    have hs2 := hb3.size
    clear ho2 hk2 k0 k1 HK1
    go_wp2_with fail
    refine (digits_any w1.heap.size w2 a2 n c2 xs r HO2.out hx.lim hx.top hs2 ha1 ha2 hn).mono ?_
    rintro e w3 ⟨to, tn, tc, ds, rfl, ho3, hdig, hdv, htn, hb5⟩
    have hv0 : dval r ds ≠ 0 := by
      intro h
      have h1 := hx.val
      rw [← hdv, h] at h1
      cases nx <;> simp [sgn] at h1 <;> exact hx0 h1
    have htn1 : 1 ≤ tn := by
      rcases Nat.eq_zero_or_pos tn with h | h
      · have h1 := ho3.len
        rw [h, List.length_map] at h1
        rw [List.eq_nil_of_length_eq_zero h1] at hv0
        exact absurd rfl hv0
      · exact h
    have hdl : ds.length = tn := by have := ho3.len; simpa using this
    obtain ⟨g, rfl, hg⟩ := ho3.addr (by omega)
    have hmost := ho3.most
    unfold maxLen at hmost
    obtain ⟨hm1, hm2⟩ := hmost
    have hk3 : w3.heap[w.heap.size]? = some (.cells #[.bool nx, .slice ao n cap] 31 (0, 0)) := (hb5.block _ (by omega)).trans HK2.out
    have hb6 : Below w.heap.size w w3 := hb4.trans (hb5.mono (by omega))
    have HO3 := Lib.hid ho3
    have HDV := Lib.hid hdv
    have HV0 := Lib.hid hv0
    have HDL := Lib.hid hdl
    obtain ⟨k0, k1, _, _⟩ := blk2 hk3
    have hs3 := hb5.size
    clear ho3 hdv hv0 hdl hk3 hb5
    go_wp2_with fail
    go_loopg [6] tn (fun gk t wr => ∃ k : Nat, t = .slice (some ⟨g, 0, none⟩) (k + 1) tc ∧ k + 1 ≤ tn ∧ gk = k + 1 ∧ dval r (ds.take (k + 1)) = dval r ds ∧ wr = w3)
    case atStart => exact ⟨tn - 1, by rw [show tn - 1 + 1 = tn by omega], by omega, by omega, by rw [show tn - 1 + 1 = tn by omega, List.take_of_length_le (by rw [HDL.out]; omega)], rfl⟩
    case round =>
      obtain ⟨k, rfl, hk, rfl, hdk, rfl⟩ := hrel
      have HDK := Lib.hid hdk
      clear hdk
      obtain ⟨hcell, hfrz⟩ := HO3.out.at (j := k) (by omega)
      have hgd : (List.map letter ds).getD k 0 = letter (ds.getD k 0) := by
        rw [getD_lt (by rw [List.length_map, HDL.out]; omega), getD_lt (by rw [HDL.out]; omega), List.getElem_map]
      rw [hgd] at hcell
      have hdk0 : 0 ≤ ds.getD k 0 := by rw [getD_lt (by rw [HDL.out]; omega)]; exact (hdig _ (List.getElem_mem _)).1
      have hlz := letter_zero hdk0
      by_cases hz : ds.getD k 0 = 0
      · have hl : letter (ds.getD k 0) = 48 := hlz.2 hz
        rw [hl] at hcell
        have hkk : k ≠ 0 := by
          intro h0
          have h1 := HDK.out
          rw [h0, strip_step (by rw [← h0]; exact hz)] at h1
          exact HV0.out (h1.symm.trans (by simp [dval]))
        obtain ⟨j, rfl⟩ : ∃ j, k = j + 1 := ⟨k - 1, by omega⟩
        have hst := strip_step (r := r) hz
        have HST := Lib.hid hst
        clear hst hgd hlz hl hz hdk0
        go_wp2_with fail
        go_roundg (j + 1)
        case measure => omega
        case rel => exact ⟨j, by simp, by omega, rfl, by rw [← HST.out]; exact HDK.out, rfl⟩
      · have hl : ¬ letter (ds.getD k 0) = 48 := fun h => hz (hlz.1 h)
        generalize hle : letter (ds.getD k 0) = le at hcell hl
        have hlb : (le == 48) = false := by simpa using hl
        have htop : ∃ v : Nat, dval r (ds.take (k + 1)) = v ∧ digs r v = ds.take (k + 1) ∧ (ds.take (k + 1) ≠ [] → v ≠ 0) := by
          have hlen : (ds.take (k + 1)).length = k + 1 := by rw [List.length_take, HDL.out]; omega
          refine digs_of h2 (Dig_take hdig _) (.inr ?_)
          rw [hlen, Nat.add_sub_cancel]
          have : (ds.take (k + 1)).getD k 0 = ds.getD k 0 := by simp [List.getD]
          rw [this]
          exact hz
        have htext : textOf r x = (if nx then [45] else []) ++ ((ds.take (k + 1)).map letter).reverse := by
          obtain ⟨v, hv1, hv2, _⟩ := htop
          have hvx : (v : Int) = val xs := by rw [← hv1, HDK.out, HDV.out]
          have hxv := hx.val
          rw [← hvx] at hxv
          unfold textOf
          rw [if_neg hx0]
          have hvne : v ≠ 0 := by intro h; rw [h] at hxv; cases nx <;> simp [sgn] at hxv <;> exact hx0 hxv
          cases nx
          · simp [sgn] at hxv
            rw [hxv, if_neg (by omega)]
            simp [hv2]
          · simp [sgn] at hxv
            rw [hxv, if_pos (by omega)]
            simp [hv2]
        have HTX := Lib.hid htext
        have hot := HO3.out.trimmed (k + 1) (by omega)
        rw [← List.map_take] at hot
        have HOT := Lib.hid hot
        clear hle hl hz hlz hdk0 hgd htop htext hot
        obtain ⟨i0, hi, hz0, hz1', hz2'⟩ := info_parts info_u8
        have hlen : (List.map letter (ds.take (k + 1))).length = k + 1 := HOT.out.len
        have HLEN := Lib.hid hlen
        clear hlen
        have hw23 : w.heap.size ≤ w2.heap.size := hb4.size
        have hbd : k + 2 ≤ 34359738368 * 64 := by omega
        cases nx
        · go_wp2_with fail
          refine (reverse_any _ _ _ _ _ _ HOT.out).mono ?_
          rintro e w4 ⟨rfl, ho4, hb7⟩
          have hconv := conv_own8 ho4 (by omega)
          have HTX' := HTX.out
          simp at HTX'
          have HT := Lib.hid HTX'
          clear ho4 HTX'
          go_wp2_with fail
          go_ret2
          exact ⟨by rw [HT.out]; rfl, hb6.trans (hb7.mono hw23)⟩
        · go_wp2_with (at_builtin; refine wpList_append_own _ rfl _ _ 173 rfl w2.heap.size 5 i0 (.int .u8 0) 1 1 Tryz.underlying173 hi hz0 hz1' hz2' rfl (by decide) _ _ _ rfl (World.ownsRow.alloc HOT.out _) ⟨wr.heap.size, 0, none⟩ 1 1 [.int .u8 45] rfl rfl ?c1 ?c2 ?c3 ?c4 ?c5 ?_)
          case c2 => first | rfl | (intro u hu; simp at hu; subst hu; rfl)
          case c3 => unfold maxLen; omega
          case c4 => omega
          case c5 => first | omega | (simp; omega)
          intro v' w5 hown5 hgrow _
          obtain ⟨to5, tc5, rfl⟩ : ∃ to5 tc5, v' = .slice to5 (k + 1 + 1) tc5 := by
            rcases hown5.2 with ⟨hv, h0⟩ | ⟨g', c', cur, hv, _⟩
            · omega
            · exact ⟨_, _, hv⟩
          have hrow5 : Own8 w2.heap.size w5 to5 (k + 1 + 1) tc5 (List.map letter (ds.take (k + 1)) ++ [45]) := by
            unfold Own8
            rw [List.map_append]
            simpa using hown5
          have hb5 : Below w2.heap.size wr w5 := Below.grown ((Below.refl _ _).alloc hs3 _) hgrow (by simp; omega) (by intro g' hg'; have := (World.ownsRow.lt HOT.out g' hg').1; omega)
          have HR5 := Lib.hid hrow5
          clear hown5 hgrow hrow5
          go_wp2_with fail
          refine (reverse_any _ _ _ _ _ _ HR5.out).mono ?_
          rintro e w4 ⟨rfl, ho4, hb7⟩
          have hconv := conv_own8 ho4 (by omega)
          have HTX' := HTX.out
          simp at HTX'
          have HT := Lib.hid HTX'
          have hrv : (List.map letter (ds.take (k + 1)) ++ [45]).reverse = textOf r x := by rw [HTX']; simp
          rw [hrv] at hconv
          clear ho4 HTX' hrv
          go_wp2_with fail
          go_ret2
          exact ⟨rfl, hb6.trans ((hb5.trans hb7).mono hw23)⟩
end Go.Proofs.YtdfepdhflnnjpaaGreat
