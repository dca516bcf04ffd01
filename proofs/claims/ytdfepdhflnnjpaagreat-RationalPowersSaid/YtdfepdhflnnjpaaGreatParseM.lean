/- Boxes, BothD, Parse1, Parse2, Parse3, Parse5, Parse6, LTexts in one text. -/
import Derived.Test.YtdfepdhflnnjpaaGreatSmallM
import Derived.Test.YtdfepdhflnnjpaaGreatShiftM
import Derived.Test.YtdfepdhflnnjpaaGreatBooA
import Derived.Test.YtdfepdhflnnjpaaGreatOf
import Derived.Deep.DeepCutAuto
import Derived.Test.YtdfepdhflnnjpaaGreatTexts
namespace Go.Proofs.YtdfepdhflnnjpaaGreat
open Go.RowKit
set_option autoImplicit false
set_option linter.unusedVariables false

set_option maxHeartbeats 1000000
set_option linter.unusedVariables false

/-- An integer in the box at block p. -/
structure BV where
  p : Nat
  neg : Bool
  ao : Option Addr
  n : Nat
  cap : Nat
  zs : List Int
  x : Int

/-- A box, and the integer in it. -/
structure BAt (w : World) (v : BV) : Prop where
  c0 : w.cell? ⟨v.p, 0, none⟩ = some (.bool v.neg)
  c1 : w.cell? ⟨v.p, 1, none⟩ = some (.slice v.ao v.n v.cap)
  it : IntAt w v.neg v.ao v.n v.cap v.zs v.x
  small : v.n ≤ 100000
  lt : v.p < w.heap.size

theorem BAt.below {w w' : World} {v : BV} (h : BAt w v) (hb : Below w.heap.size w w') : BAt w' v :=
  ⟨(hb.cell (p := ⟨v.p, 0, none⟩) h.lt).trans h.c0, (hb.cell (p := ⟨v.p, 1, none⟩) h.lt).trans h.c1, h.it.below hb, h.small, Nat.lt_of_lt_of_le h.lt hb.size⟩

def Vars (w : World) (l : List BV) : Prop := ∀ v ∈ l, BAt w v

theorem Vars.below {w w' : World} {l : List BV} (h : Vars w l) (hb : Below w.heap.size w w') : Vars w' l := fun v hv => (h v hv).below hb

theorem Vars.push {w : World} {l : List BV} {v : BV} (h : Vars w l) (hv : BAt w v) : Vars w (v :: l) := by
  intro u hu
  rcases List.mem_cons.1 hu with rfl | hu
  · exact hv
  · exact h u hu

theorem BAt.new {w : World} {neg : Bool} {ao : Option Addr} {n cap : Nat} {zs : List Int} {x : Int} {t : TypeId} (h : IntAt w neg ao n cap zs x) (hn : n ≤ 100000) :
    BAt (w.alloc (.cells #[.bool neg, .slice ao n cap] t)) ⟨w.heap.size, neg, ao, n, cap, zs, x⟩ := by
  obtain ⟨a, b, _, _⟩ := blk2 (heap_alloc_new w (.cells #[.bool neg, .slice ao n cap] t))
  exact ⟨a, b, h.below ((Below.refl _ _).alloc (Nat.le_refl _) _), hn, by simp⟩

theorem neg_iff2 {w : World} {neg : Bool} {ao : Option Addr} {n cap : Nat} {zs : List Int} {x : Int} (h : IntAt w neg ao n cap zs x) : neg = decide (x < 0) := by
  have h0 := val_nonneg h.lim
  have hv := h.val
  cases neg with
  | false => rw [hv]; simp [sgn]; omega
  | true =>
    have h1 := val_pos_of_top h.lim h.top (h.sign rfl)
    have h2 := pow_pos (zs.length - 1)
    rw [hv]; simp [sgn]; omega

theorem int_zero2 (w : World) : IntAt w false none 0 0 [] 0 :=
  ⟨⟨rfl, Nat.le_refl _, by unfold maxLen; omega, fun _ => rfl, .inl rfl⟩, by intro z hz; simp at hz, .inl rfl, by intro h; simp at h, by simp [sgn, val]⟩

theorem nums_one {w : World} {b : Nat} {x : Num} {t : TypeId} (h : w.heap[b]? = some (.cells #[.bool x.neg, .slice x.ao x.n x.cap] t (0, 0))) : Nums w b [x] := by
  intro i u hu
  match i, hu with
  | 0, hu =>
    simp at hu; subst hu
    exact ⟨cell_of_row _ b 0 _ t (0, 0) h, cell_of_row _ b 1 _ t (0, 0) h⟩

theorem short_one (w : World) (b : Nat) (x : Num) (most : Nat) (h : w.heap[b]? = some (.cells #[.bool x.neg, .slice x.ao x.n x.cap] 24 (0, 0))) :
    Calls Tryz.prog 12 #[.int .i64 most, .slice (some ⟨b, 0, none⟩) 1 1] w (RetV w (.bool (decide (x.n ≤ most)))) := by
  have := short_any w b 1 [x] most (nums_one h) (Array.getElem?_eq_some_iff.1 h).1 (by simp) (by omega)
  simpa using this

set_option maxHeartbeats 1000000
set_option linter.unusedVariables false

theorem ref_zero (w : World) : RefAt w false none 0 0 [] 0 :=
  ⟨⟨rfl, Nat.le_refl _, by unfold maxLen; omega, fun _ => rfl, .inl rfl⟩, by intro z hz; simp at hz, .inl rfl, by intro h; simp at h, by simp [sgn, dval]⟩

theorem int_zero' (w : World) : IntAt w false none 0 0 [] 0 :=
  ⟨⟨rfl, Nat.le_refl _, by unfold maxLen; omega, fun _ => rfl, .inl rfl⟩, by intro z hz; simp at hz, .inl rfl, by intro h; simp at h, by simp [sgn, val]⟩

/-- Both returned one number and one code. -/

def RetBoth (w : World) (p : Int) (c : Int) (L : Nat) (e : Ending) (w' : World) : Prop :=
  ∃ neg ao n cap zs, e = .returned (.tuple #[.agg #[.bool neg, .slice ao n cap], .int .i64 c]) ∧ IntAt w' neg ao n cap zs p ∧ n ≤ L ∧ Below w.heap.size w w'

set_option maxHeartbeats 1000000
set_option linter.unusedVariables false

/-- The value of a digit in the greatest radix; 36 for a byte that is none. -/
def dv (c : Int) : Int := if 48 ≤ c ∧ c ≤ 57 then c - 48 else if 65 ≤ c ∧ c ≤ 90 then c - 55 else if 97 ≤ c ∧ c ≤ 122 then c - 87 else 36

theorem dv_range {c : Int} (h0 : 0 ≤ c) : 0 ≤ dv c ∧ dv c ≤ 36 := by unfold dv; split <;> (try split) <;> (try split) <;> omega

set_option maxRecDepth 100000 in
theorem digitValue_any (w : World) (c : Int) (h0 : 0 ≤ c) (h1 : c ≤ 255) : Calls Tryz.prog 163 #[.int .u8 c] w fun e w' => e = .returned (.int .i64 (dv c)) ∧ w = w' := by
  rcases (show c < 48 ∨ (48 ≤ c ∧ c ≤ 57) ∨ (57 < c ∧ c < 65) ∨ (65 ≤ c ∧ c ≤ 90) ∨ (90 < c ∧ c < 97) ∨ (97 ≤ c ∧ c ≤ 122) ∨ 122 < c by omega) with h | h | h | h | h | h | h
  · have e : dv c = 36 := by unfold dv; rw [if_neg (by omega), if_neg (by omega), if_neg (by omega)]
    rw [e]
    have a1 : ¬ 48 ≤ c := by omega
    have a2 : ¬ 65 ≤ c := by omega
    have a3 : ¬ 97 ≤ c := by omega
    clear e
    go_enter Tryz.func163, Tryz.ntmps163
    go_wp2_with fail
    go_ret
    exact ⟨rfl, rfl⟩
  · obtain ⟨b0, b1⟩ := h
    have e : c - 48 = dv c := by unfold dv; rw [if_pos ⟨b0, b1⟩]
    have HE := Lib.hid e
    clear e
    go_enter Tryz.func163, Tryz.ntmps163
    go_wp2_with fail
    go_ret
    exact ⟨by rw [← HE.out]; rfl, rfl⟩
  · obtain ⟨b0, b1⟩ := h
    have e : dv c = 36 := by unfold dv; rw [if_neg (by omega), if_neg (by omega), if_neg (by omega)]
    rw [e]
    have a0 : 48 ≤ c := by omega
    have a1 : ¬ c ≤ 57 := by omega
    have a2 : ¬ 65 ≤ c := by omega
    have a3 : ¬ 97 ≤ c := by omega
    clear e
    go_enter Tryz.func163, Tryz.ntmps163
    go_wp2_with fail
    go_ret
    exact ⟨rfl, rfl⟩
  · obtain ⟨b0, b1⟩ := h
    have e : c - 65 + 10 = dv c := by unfold dv; rw [if_neg (by omega), if_pos ⟨b0, b1⟩]; omega
    have HE := Lib.hid e
    have a0 : 48 ≤ c := by omega
    have a1 : ¬ c ≤ 57 := by omega
    clear e
    go_enter Tryz.func163, Tryz.ntmps163
    go_wp2_with fail
    go_ret
    exact ⟨by rw [← HE.out]; rfl, rfl⟩
  · obtain ⟨b0, b1⟩ := h
    have e : dv c = 36 := by unfold dv; rw [if_neg (by omega), if_neg (by omega), if_neg (by omega)]
    rw [e]
    have a0 : 48 ≤ c := by omega
    have a1 : ¬ c ≤ 57 := by omega
    have a2 : 65 ≤ c := by omega
    have a4 : ¬ c ≤ 90 := by omega
    have a3 : ¬ 97 ≤ c := by omega
    clear e
    go_enter Tryz.func163, Tryz.ntmps163
    go_wp2_with fail
    go_ret
    exact ⟨rfl, rfl⟩
  · obtain ⟨b0, b1⟩ := h
    have e : c - 97 + 10 = dv c := by unfold dv; rw [if_neg (by omega), if_neg (by omega), if_pos ⟨b0, b1⟩]; omega
    have HE := Lib.hid e
    have a0 : 48 ≤ c := by omega
    have a1 : ¬ c ≤ 57 := by omega
    have a2 : 65 ≤ c := by omega
    have a4 : ¬ c ≤ 90 := by omega
    clear e
    go_enter Tryz.func163, Tryz.ntmps163
    go_wp2_with fail
    go_ret
    exact ⟨by rw [← HE.out]; rfl, rfl⟩
  · have e : dv c = 36 := by unfold dv; rw [if_neg (by omega), if_neg (by omega), if_neg (by omega)]
    rw [e]
    have a0 : 48 ≤ c := by omega
    have a1 : ¬ c ≤ 57 := by omega
    have a2 : 65 ≤ c := by omega
    have a4 : ¬ c ≤ 90 := by omega
    have a3 : 97 ≤ c := by omega
    have a5 : ¬ c ≤ 122 := by omega
    clear e
    go_enter Tryz.func163, Tryz.ntmps163
    go_wp2_with fail
    go_ret
    exact ⟨rfl, rfl⟩

/-- The limbs were returned, in memory of the call's own from block B on. -/
def RetAdd (B : Nat) (w : World) (v : Int) (L : Nat) (e : Ending) (w' : World) : Prop :=
  ∃ ao n cap zs, e = .returned (.slice ao n cap) ∧ Own B w' ao n cap zs ∧ Lim zs ∧ val zs = v ∧ n ≤ L ∧ Below B w w'

theorem take_set_same {zs : List Int} {k : Nat} {v : Int} : (zs.set k v).take k = zs.take k := by
  rw [List.take_set]
  exact List.set_eq_of_length_le (by rw [List.length_take]; omega)

theorem add_step {zs xs : List Int} {k : Nat} {x f cy c0 : Int} (hk : k < zs.length) (hx : xs.getD k 0 = x) (h : val (zs.take k) + 4294967296 ^ k * cy = val (xs.take k) * f + c0) :
    val ((zs.set k ((x * f + cy) % 4294967296)).take (k + 1)) + 4294967296 ^ (k + 1) * ((x * f + cy) / 4294967296) = val (xs.take (k + 1)) * f + c0 := by
  rw [val_take_succ, take_set_same, getD_set_eq hk, val_take_succ, hx, Int.pow_succ]
  have := Int.emod_add_mul_ediv (x * f + cy) 4294967296
  grind

set_option maxRecDepth 100000 in
theorem addTo_any (B : Nat) (w : World) (ao : Option Addr) (n cap : Nat) (xs : List Int) (f c0 : Int) (hx : Own B w ao n cap xs) (lx : Lim xs) (hB : B ≤ w.heap.size) (hf0 : 0 ≤ f) (hf1 : f ≤ 4294967295) (hc0 : 0 ≤ c0) (hc1 : c0 ≤ 4294967295) (hn : n ≤ 34359738368) :
    Calls Tryz.prog 164 #[.slice ao n cap, .int .u32 f, .int .u32 c0] w (RetAdd B w (val xs * f + c0) (n + 1)) := by
  have HL : Hid (xs.length = n) := hx.sl.len
  have hmost := hx.sl.most
  have hle := hx.sl.le
  unfold maxLen at hmost
  have HX := Lib.hid hx
  obtain ⟨i0, hi, hz0, hz1, hz2⟩ := info_parts info_u32
  clear hx
  go_enter Tryz.func164, Tryz.ntmps164
  go_wp2_with fail
  go_loopw [7, 15] (fun c i wr => ∃ (k : Nat) (cy : Int) (zs : List Int), k ≤ n ∧ i = .int .i64 k ∧ c = .int .u64 cy ∧ 0 ≤ cy ∧ cy ≤ 4294967295 ∧ zs.length = n ∧ Lim zs ∧ (∀ j, k ≤ j → zs.getD j 0 = xs.getD j 0) ∧
      val (zs.take k) + 4294967296 ^ k * cy = val (xs.take k) * f + c0 ∧ Own B wr ao n cap zs ∧ Below B w wr) (fun _ i _ => n - (intOf i).toNat)
  case atStart => exact ⟨0, c0, xs, Nat.zero_le _, rfl, rfl, hc0, hc1, HL.out, lx, fun _ _ => rfl, by simp [val], HX.out, .refl _ _⟩
  case round =>
    obtain ⟨k, cy, zs, hk, rfl, rfl, hcy0, hcy1, hzl, hlim, hsame, hval, hown, hbel⟩ := hrel
    have HO := Lib.hid hown
    have HS := Lib.hid hsame
    have HV := Lib.hid hval
    have HZ := Lib.hid hzl
    have hsz := hbel.size
    clear hown hsame hval hzl
    by_cases hkn : k < n
    · obtain ⟨g, rfl, hBg, hc, hfz⟩ := HO.out.at (j := k) hkn
      obtain ⟨x, hx⟩ : ∃ x, xs.getD k 0 = x := ⟨_, rfl⟩
      rw [HS.out k (Nat.le_refl _), hx] at hc
      have hlx := Lim_getD lx k
      rw [hx] at hlx
      obtain ⟨hx0, hx1⟩ := hlx
      obtain ⟨p0, p1, p2, p3, p4, p5⟩ := prod_bound hx0 hx1 hf0 hf1 (show (0 : Int) ≤ 0 by omega) (show (0 : Int) ≤ 4294967295 by omega) hcy0 hcy1
      have HXX := Lib.hid hx
      have q3 : x * f + cy ≤ 18446744073709551615 := by omega
      have q2 : 0 ≤ x * f + cy := by omega
      have q4 : 0 ≤ (x * f + cy) / 4294967296 := by omega
      have q5 : (x * f + cy) / 4294967296 ≤ 4294967295 := by omega
      clear hx p2 p3 p4 p5
      go_wp2_with fail
      go_roundw
      case rel =>
        have hzl := HZ.out
        have hstep := add_step (zs := zs) (xs := xs) (k := k) (x := x) (f := f) (cy := cy) (c0 := c0) (by omega) HXX.out HV.out
        exact ⟨k + 1, (x * f + cy) / 4294967296, zs.set k ((x * f + cy) % 4294967296), by omega, by go_num, rfl, q4, q5, by rw [List.length_set]; exact hzl, Lim_set hlim k (by omega) (by omega),
          fun j hj => by rw [getD_set_ne (by omega)]; exact HS.out j (by omega), hstep, HO.out.set k _, hbel.setCell hBg _⟩
      case measure => simp [intOf]; omega
    · obtain rfl : k = n := by omega
      have hv : val zs + 4294967296 ^ k * cy = val xs * f + c0 := by
        have h1 := HV.out
        have e1 := HL.out
        have e2 := HZ.out
        rwa [List.take_of_length_le (by omega), List.take_of_length_le (by omega)] at h1
      have HVV := Lib.hid hv
      have hji : ¬ (k : Int) < k := by omega
      clear hv
      by_cases hcz : 0 < cy
      · have hBw : B ≤ wr.heap.size := by omega
        go_wp2_with (at_builtin; refine wpList_app1 rfl _ _ 22 rfl B 138 i0 (.int .u32 0) 4 Tryz.underlying22 hi hz0 hz1 hz2 rfl (.slice ao k cap) k (zs.map (Value.int .u32)) (.int .u32 cy) rfl HO.out rfl rfl (by omega) (by omega) hBw ?_)
        intro ao2 cap2 w2 hown2 hgrow
        have hrow2 : Own B w2 ao2 (k + 1) cap2 (zs ++ [cy]) := by
          unfold Own
          rw [List.map_append]
          exact hown2
        have hb2 : Below B w w2 := Below.grown (hbel.alloc hBw _) hgrow (by simp; omega) (by intro g hg; exact (World.ownsRow.lt HO.out g hg).1)
        have HR2 := Lib.hid hrow2
        clear hown2 hgrow hrow2
        go_wp2_with fail
        go_ret
        exact ⟨ao2, k + 1, cap2, zs ++ [cy], rfl, HR2.out, Lim_snoc hlim hcy0 hcy1, by rw [val_snoc, HZ.out]; exact HVV.out, Nat.le_refl _, hb2⟩
      · obtain rfl : cy = 0 := by omega
        go_wp2_with fail
        go_ret
        exact ⟨ao, k, cap, zs, rfl, HO.out, hlim, by have := HVV.out; simpa using this, by omega, hbel⟩

set_option maxHeartbeats 1000000
set_option linter.unusedVariables false

/-- The number that digits make. -/
def pval (r : Int) : List UInt8 → Int
  | cs => cs.foldl (fun v c => v * r + dv c.toNat) 0

theorem pval_take (r : Int) (cs : List UInt8) {k : Nat} (h : k < cs.length) : pval r (cs.take (k + 1)) = pval r (cs.take k) * r + dv (cs[k].toNat) := by
  unfold pval
  rw [List.take_succ_eq_append_getElem h, List.foldl_append]
  rfl

/-- The limbs and whether there were digits. -/
def RetNum (w : World) (v : Int) (b : Bool) (L : Nat) (e : Ending) (w' : World) : Prop :=
  ∃ ao n cap zs, e = .returned (.tuple #[.slice ao n cap, .bool b]) ∧ Own w.heap.size w' ao n cap zs ∧ Lim zs ∧ val zs = v ∧ n ≤ L ∧ Below w.heap.size w w'

theorem flush_step {v P q V d r : Int} (h : V = v * P + q) : V * r + d = v * (P * r) + (q * r + d) := by rw [h]; grind

set_option maxRecDepth 100000 in
theorem number_ok (w : World) (s : ByteArray) (r : Int) (h2 : 2 ≤ r) (h36 : r ≤ 36) (hs : s.size ≤ 1000000) (hv : ∀ j, j < s.size → dv ((s.data.toList.getD j 0).toNat) < r) :
    Calls Tryz.prog 149 #[.string s, .int .i64 r] w (RetNum w (pval r s.data.toList) (decide (s.size ≠ 0)) (s.size + 1)) := by
  have HS : Hid (s.data.toList.length = s.size) := Lib.hid (by rw [Array.length_toList]; rfl)
  have HV := Lib.hid hv
  clear hv
  go_enter Tryz.func149, Tryz.ntmps149
  go_wp2_with fail
  refine (group_any _ r h2 h36).mono ?_
  rintro e w0 ⟨c, hc1, hc2, hp, rfl, rfl⟩
  have hrr : ∀ j, j ≤ c → r ^ j ≤ 4294967295 := fun j hj => by have := rpow_le h2 hj; omega
  have HRR := Lib.hid hrr
  have hc64 : c ≤ 32 := by
    have h1 := two_le_rpow h2 c
    have h3 : (2 : Int) ^ c < 2 ^ 32 := by have : (2 : Int) ^ 32 = 4294967296 := by rfl
                                           omega
    have := lt_of_two_pow h3
    omega
  have hr0 : 0 ≤ r ^ c := by have := rpow_pos h2 c; omega
  obtain ⟨pw, hpw⟩ : ∃ pw, r ^ c = pw := ⟨_, rfl⟩
  rw [hpw] at hp hr0 ⊢
  clear hrr hpw
  go_wp2_with fail
  go_loopw [8, 9, 10, 20] (fun l p q i wr => ∃ (k j : Nat) (ao : Option Addr) (n cap : Nat) (zs : List Int) (Q P : Int), k ≤ s.size ∧ i = .int .i64 k ∧ l = .slice ao n cap ∧ p = .int .u32 P ∧ q = .int .u32 Q ∧ P = r ^ j ∧ k % c = j ∧ 0 ≤ Q ∧ Q < P ∧
      Own w.heap.size wr ao n cap zs ∧ Lim zs ∧ pval r (s.data.toList.take k) = val zs * P + Q ∧ n ≤ k ∧ Below w.heap.size w wr) (fun _ _ _ i _ => s.size - (intOf i).toNat)
  case atStart => exact ⟨0, 0, none, 0, 0, [], 0, 1, Nat.zero_le _, rfl, rfl, rfl, rfl, by simp, Nat.zero_mod _, by omega, by omega, World.ownsRow_nil _ _ _ _, Lim_nil, by simp [pval, Go.Proofs.YtdfepdhflnnjpaaGreat.val], Nat.le_refl _, .refl _ _⟩
  case round =>
    obtain ⟨k, j, ao, n, cap, zs, Q, P, hk, rfl, rfl, rfl, rfl, hPj, hkj, hQ0, hQ1, hown, hlim, hval, hnk, hbel⟩ := hrel
    have HO := Lib.hid hown
    have HVA := Lib.hid hval
    have HPJ := Lib.hid hPj
    have HKJ := Lib.hid hkj
    have hsz := hbel.size
    have hjc : j < c := by rw [← hkj]; exact Nat.mod_lt _ (by omega)
    have hP1 : 1 ≤ P := by rw [hPj]; have := rpow_pos h2 j; omega
    have hPr : P * r ≤ 4294967295 := by rw [hPj, ← Int.pow_succ]; exact HRR.out (j + 1) (by omega)
    have hPP : P ≤ 4294967295 := by rw [hPj]; exact HRR.out j (by omega)
    have hQr : Q * r + r ≤ P * r := by
      have : (Q + 1) * r ≤ P * r := Int.mul_le_mul_of_nonneg_right (by omega) (by omega)
      rw [Int.add_mul] at this
      omega
    have hQr0 : 0 ≤ Q * r := Int.mul_nonneg hQ0 (by omega)
    have hPr0 : 0 ≤ P * r := by omega
    have hki : (k : Int) % (c : Int) = (j : Int) := by rw [← hkj]; simp
    clear hown hval hPj hkj
    by_cases hkM : k < s.size
    · have hks : k < s.size := by omega
      obtain ⟨y, hy⟩ : ∃ y : Nat, (s.data.toList[k]'(by rw [HS.out]; exact hks)).toNat = y := ⟨_, rfl⟩
      have hstep := pval_take r s.data.toList (k := k) (by rw [HS.out]; exact hks)
      rw [hy] at hstep
      have hd := HV.out k hkM
      rw [List.getD_eq_getElem?_getD, List.getElem?_eq_getElem (by rw [HS.out]; exact hks), Option.getD_some, hy] at hd
      have hy255 : y ≤ 255 := by rw [← hy]; have := (s.data.toList[k]'(by rw [HS.out]; exact hks)).toNat_lt; omega
      have hidx : (s[k]'hks).toNat = y := by rw [← hy]; rfl
      have hdr := dv_range (c := (y : Int)) (by omega)
      have HDV := Lib.hid (fun w' => digitValue_any w' (y : Int) (by omega) (by omega))
      obtain ⟨d, hdd⟩ : ∃ d, dv (y : Int) = d := ⟨_, rfl⟩
      rw [hdd] at HDV hd hdr hstep
      have HST := Lib.hid hstep
      have hd0 : 0 ≤ d := hdr.1
      have hndr : ¬ r ≤ d := by omega
      clear hdd hdr hstep hy
      go_wp2_with fail
      refine (HDV.out _).mono ?_
      rintro e w1 ⟨rfl, rfl⟩
      clear hidx
      by_cases hjl : j + 1 = c
      · have hjb : ((j : Int) == (c : Int) - 1) = true := by simp; omega
        have HADD := Lib.hid (addTo_any w.heap.size wr ao n cap zs (P * r) (Q * r + d) HO.out hlim hsz hPr0 hPr (by omega) (by omega) (by omega))
        go_wp2_with fail
        refine HADD.out.mono ?_
        rintro e w2 ⟨a2, n2, c2, z2, rfl, hown2, hl2, hv2, hn2, hb2⟩
        have HO2 := Lib.hid hown2
        have HV2 := Lib.hid hv2
        clear hown2 hv2
        go_wp2_with fail
        go_roundw
        case rel =>
          refine ⟨k + 1, 0, a2, n2, c2, z2, 0, 1, by omega, by go_num, rfl, rfl, rfl, by simp, ?_, by omega, by omega, HO2.out, hl2, ?_, by omega, hbel.trans hb2⟩
          · rw [Nat.add_mod, HKJ.out]
            by_cases hc1' : c = 1
            · subst hc1'; exact Nat.mod_one _
            · rw [Nat.mod_eq_of_lt (show 1 < c by omega), hjl, Nat.mod_self]
          · rw [HST.out, HV2.out, flush_step HVA.out]; omega
        case measure => simp [intOf]; omega
      · have hjb : ((j : Int) == (c : Int) - 1) = false := by simp; omega
        go_wp2_with fail
        go_roundw
        case rel =>
          refine ⟨k + 1, j + 1, ao, n, cap, zs, Q * r + d, P * r, by omega, by go_num, rfl, rfl, rfl, by rw [HPJ.out, Int.pow_succ], ?_, by omega, by omega, HO.out, hlim, by rw [HST.out, flush_step HVA.out], by omega, hbel⟩
          rw [Nat.add_mod, HKJ.out, Nat.mod_eq_of_lt (show 1 < c by omega), Nat.mod_eq_of_lt (by omega)]
        case measure => simp [intOf]; omega
    · obtain rfl : k = s.size := by omega
      have hval2 : pval r s.data.toList = val zs * P + Q := by have := HVA.out; rwa [List.take_of_length_le (by rw [HS.out]; exact Nat.le_refl _)] at this
      have HVAL := Lib.hid hval2
      have HADD := Lib.hid (addTo_any w.heap.size wr ao n cap zs P Q HO.out hlim hsz (by omega) hPP hQ0 (by omega) (by omega))
      have hji : ¬ (s.size : Int) < s.size := by omega
      clear hval2
      go_wp2_with fail
      refine HADD.out.mono ?_
      rintro e w2 ⟨a2, n2, c2, z2, rfl, hown2, hl2, hv2, hn2, hb2⟩
      have HO2 := Lib.hid hown2
      have HV2 := Lib.hid hv2
      have HBB := Lib.hid (hbel.trans hb2)
      clear hown2 hv2 hb2
      by_cases hem : s.size = 0
      · have hem0 : s.data.toList = [] := List.eq_nil_of_length_eq_zero (by rw [HS.out]; exact hem)
        go_wp2_with fail
        go_ret2
        first
          | exact ⟨a2, n2, c2, z2, by simp [ByteArray.toList_eq, hem0, hem], HO2.out, hl2, by rw [HV2.out, HVAL.out], by omega, HBB.out⟩
      · have hem0 : ¬ s.data.toList = [] := fun h0 => hem (by rw [← HS.out, h0]; rfl)
        have hem1 : s.data.isEmpty = false := decide_eq_false hem
        go_wp2_with fail
        go_ret2
        first
          | exact ⟨a2, n2, c2, z2, by simp [ByteArray.toList_eq, hem1, hem], HO2.out, hl2, by rw [HV2.out, HVAL.out], by omega, HBB.out⟩

set_option maxRecDepth 100000 in
theorem number_bad (w : World) (s : ByteArray) (r : Int) (M : Nat) (h2 : 2 ≤ r) (h36 : r ≤ 36) (hs : s.size ≤ 1000000) (hM : M < s.size) (hv : ∀ j, j < M → dv ((s.data.toList.getD j 0).toNat) < r) (hbad : r ≤ dv ((s.data.toList.getD M 0).toNat)) :
    Calls Tryz.prog 149 #[.string s, .int .i64 r] w (RetV w (.tuple #[.slice none 0 0, .bool false])) := by
  have HS : Hid (s.data.toList.length = s.size) := Lib.hid (by rw [Array.length_toList]; rfl)
  have HV := Lib.hid hv
  clear hv
  have hMs : M < s.size := hM
  have HBAD := Lib.hid hbad
  clear hbad
  go_enter Tryz.func149, Tryz.ntmps149
  go_wp2_with fail
  refine (group_any _ r h2 h36).mono ?_
  rintro e w0 ⟨c, hc1, hc2, hp, rfl, rfl⟩
  have hrr : ∀ j, j ≤ c → r ^ j ≤ 4294967295 := fun j hj => by have := rpow_le h2 hj; omega
  have HRR := Lib.hid hrr
  have hc64 : c ≤ 32 := by
    have h1 := two_le_rpow h2 c
    have h3 : (2 : Int) ^ c < 2 ^ 32 := by have : (2 : Int) ^ 32 = 4294967296 := by rfl
                                           omega
    have := lt_of_two_pow h3
    omega
  have hr0 : 0 ≤ r ^ c := by have := rpow_pos h2 c; omega
  obtain ⟨pw, hpw⟩ : ∃ pw, r ^ c = pw := ⟨_, rfl⟩
  rw [hpw] at hp hr0 ⊢
  clear hrr hpw
  go_wp2_with fail
  go_loopw [8, 9, 10, 20] (fun l p q i wr => ∃ (k j : Nat) (ao : Option Addr) (n cap : Nat) (zs : List Int) (Q P : Int), k ≤ M ∧ i = .int .i64 k ∧ l = .slice ao n cap ∧ p = .int .u32 P ∧ q = .int .u32 Q ∧ P = r ^ j ∧ k % c = j ∧ 0 ≤ Q ∧ Q < P ∧
      Own w.heap.size wr ao n cap zs ∧ Lim zs ∧ pval r (s.data.toList.take k) = val zs * P + Q ∧ n ≤ k ∧ Below w.heap.size w wr) (fun _ _ _ i _ => M - (intOf i).toNat)
  case atStart => exact ⟨0, 0, none, 0, 0, [], 0, 1, Nat.zero_le _, rfl, rfl, rfl, rfl, by simp, Nat.zero_mod _, by omega, by omega, World.ownsRow_nil _ _ _ _, Lim_nil, by simp [pval, Go.Proofs.YtdfepdhflnnjpaaGreat.val], Nat.le_refl _, .refl _ _⟩
  case round =>
    obtain ⟨k, j, ao, n, cap, zs, Q, P, hk, rfl, rfl, rfl, rfl, hPj, hkj, hQ0, hQ1, hown, hlim, hval, hnk, hbel⟩ := hrel
    have HO := Lib.hid hown
    have HVA := Lib.hid hval
    have HPJ := Lib.hid hPj
    have HKJ := Lib.hid hkj
    have hsz := hbel.size
    have hjc : j < c := by rw [← hkj]; exact Nat.mod_lt _ (by omega)
    have hP1 : 1 ≤ P := by rw [hPj]; have := rpow_pos h2 j; omega
    have hPr : P * r ≤ 4294967295 := by rw [hPj, ← Int.pow_succ]; exact HRR.out (j + 1) (by omega)
    have hPP : P ≤ 4294967295 := by rw [hPj]; exact HRR.out j (by omega)
    have hQr : Q * r + r ≤ P * r := by
      have : (Q + 1) * r ≤ P * r := Int.mul_le_mul_of_nonneg_right (by omega) (by omega)
      rw [Int.add_mul] at this
      omega
    have hQr0 : 0 ≤ Q * r := Int.mul_nonneg hQ0 (by omega)
    have hPr0 : 0 ≤ P * r := by omega
    have hki : (k : Int) % (c : Int) = (j : Int) := by rw [← hkj]; simp
    clear hown hval hPj hkj
    by_cases hkM : k < M
    · have hks : k < s.size := by omega
      obtain ⟨y, hy⟩ : ∃ y : Nat, (s.data.toList[k]'(by rw [HS.out]; exact hks)).toNat = y := ⟨_, rfl⟩
      have hstep := pval_take r s.data.toList (k := k) (by rw [HS.out]; exact hks)
      rw [hy] at hstep
      have hd := HV.out k hkM
      rw [List.getD_eq_getElem?_getD, List.getElem?_eq_getElem (by rw [HS.out]; exact hks), Option.getD_some, hy] at hd
      have hy255 : y ≤ 255 := by rw [← hy]; have := (s.data.toList[k]'(by rw [HS.out]; exact hks)).toNat_lt; omega
      have hidx : (s[k]'hks).toNat = y := by rw [← hy]; rfl
      have hdr := dv_range (c := (y : Int)) (by omega)
      have HDV := Lib.hid (fun w' => digitValue_any w' (y : Int) (by omega) (by omega))
      obtain ⟨d, hdd⟩ : ∃ d, dv (y : Int) = d := ⟨_, rfl⟩
      rw [hdd] at HDV hd hdr hstep
      have HST := Lib.hid hstep
      have hd0 : 0 ≤ d := hdr.1
      have hndr : ¬ r ≤ d := by omega
      clear hdd hdr hstep hy
      go_wp2_with fail
      refine (HDV.out _).mono ?_
      rintro e w1 ⟨rfl, rfl⟩
      clear hidx
      by_cases hjl : j + 1 = c
      · have hjb : ((j : Int) == (c : Int) - 1) = true := by simp; omega
        have HADD := Lib.hid (addTo_any w.heap.size wr ao n cap zs (P * r) (Q * r + d) HO.out hlim hsz hPr0 hPr (by omega) (by omega) (by omega))
        go_wp2_with fail
        refine HADD.out.mono ?_
        rintro e w2 ⟨a2, n2, c2, z2, rfl, hown2, hl2, hv2, hn2, hb2⟩
        have HO2 := Lib.hid hown2
        have HV2 := Lib.hid hv2
        clear hown2 hv2
        go_wp2_with fail
        go_roundw
        case rel =>
          refine ⟨k + 1, 0, a2, n2, c2, z2, 0, 1, by omega, by go_num, rfl, rfl, rfl, by simp, ?_, by omega, by omega, HO2.out, hl2, ?_, by omega, hbel.trans hb2⟩
          · rw [Nat.add_mod, HKJ.out]
            by_cases hc1' : c = 1
            · subst hc1'; exact Nat.mod_one _
            · rw [Nat.mod_eq_of_lt (show 1 < c by omega), hjl, Nat.mod_self]
          · rw [HST.out, HV2.out, flush_step HVA.out]; omega
        case measure => simp [intOf]; omega
      · have hjb : ((j : Int) == (c : Int) - 1) = false := by simp; omega
        go_wp2_with fail
        go_roundw
        case rel =>
          refine ⟨k + 1, j + 1, ao, n, cap, zs, Q * r + d, P * r, by omega, by go_num, rfl, rfl, rfl, by rw [HPJ.out, Int.pow_succ], ?_, by omega, by omega, HO.out, hlim, by rw [HST.out, flush_step HVA.out], by omega, hbel⟩
          rw [Nat.add_mod, HKJ.out, Nat.mod_eq_of_lt (show 1 < c by omega), Nat.mod_eq_of_lt (by omega)]
        case measure => simp [intOf]; omega
    · obtain rfl : k = M := by omega
      have hks : k < s.size := hMs
      obtain ⟨y, hy⟩ : ∃ y : Nat, (s.data.toList[k]'(by rw [HS.out]; exact hks)).toNat = y := ⟨_, rfl⟩
      have hd := HBAD.out
      rw [List.getD_eq_getElem?_getD, List.getElem?_eq_getElem (by rw [HS.out]; exact hks), Option.getD_some, hy] at hd
      have hy255 : y ≤ 255 := by rw [← hy]; have := (s.data.toList[k]'(by rw [HS.out]; exact hks)).toNat_lt; omega
      have hidx : (s[k]'hks).toNat = y := by rw [← hy]; rfl
      have HDV := Lib.hid (fun w' => digitValue_any w' (y : Int) (by omega) (by omega))
      obtain ⟨d, hdd⟩ : ∃ d, dv (y : Int) = d := ⟨_, rfl⟩
      rw [hdd] at HDV hd
      clear hdd hy
      go_wp2_with fail
      refine (HDV.out _).mono ?_
      rintro e w1 ⟨rfl, rfl⟩
      clear hidx
      go_wp2_with fail
      go_ret2
      exact ⟨rfl, hbel⟩

set_option maxHeartbeats 1000000
set_option linter.unusedVariables false

theorem all_or (r : Int) (f : Nat → Int) : ∀ n, (∀ j, j < n → f j < r) ∨ ∃ M, M < n ∧ (∀ j, j < M → f j < r) ∧ r ≤ f M := by
  intro n
  induction n with
  | zero => exact .inl (fun j hj => absurd hj (by omega))
  | succ n ih =>
    rcases ih with h | ⟨M, h1, h2, h3⟩
    · by_cases h4 : f n < r
      · refine .inl (fun j hj => ?_)
        rcases Nat.lt_succ_iff_lt_or_eq.1 hj with h5 | rfl
        · exact h j h5
        · exact h4
      · exact .inr ⟨n, by omega, h, by omega⟩
    · exact .inr ⟨M, by omega, h2, h3⟩

/-- Does the text consist of digits, one or more? -/
def Good (r : Int) (s : ByteArray) : Prop := s.size ≠ 0 ∧ ∀ j, j < s.size → dv ((s.data.toList.getD j 0).toNat) < r

/-- What number answers. -/
def NumOut (w : World) (b : Bool) (v : Int) (L : Nat) (e : Ending) (w' : World) : Prop :=
  ∃ ao n cap zs, e = .returned (.tuple #[.slice ao n cap, .bool b]) ∧ Own w.heap.size w' ao n cap zs ∧ Lim zs ∧ (b = true → val zs = v) ∧ n ≤ L ∧ Below w.heap.size w w'

theorem number_any (w : World) (s : ByteArray) (r : Int) (h2 : 2 ≤ r) (h36 : r ≤ 36) (hs : s.size ≤ 1000000) :
    ∃ b : Bool, (b = true ↔ Good r s) ∧ Calls Tryz.prog 149 #[.string s, .int .i64 r] w (NumOut w b (pval r s.data.toList) 1000001) := by
  rcases all_or r (fun j => dv ((s.data.toList.getD j 0).toNat)) s.size with h | ⟨M, h1, h3, h4⟩
  · refine ⟨decide (s.size ≠ 0), ?_, (number_ok w s r h2 h36 hs h).mono ?_⟩
    · rw [decide_eq_true_iff]
      exact ⟨fun h5 => ⟨h5, h⟩, fun h5 => h5.1⟩
    · rintro e w' ⟨ao, n, cap, zs, rfl, h5, h6, h7, h8, h9⟩
      exact ⟨ao, n, cap, zs, rfl, h5, h6, fun _ => h7, by omega, h9⟩
  · refine ⟨false, ?_, (number_bad w s r M h2 h36 hs h1 h3 h4).mono ?_⟩
    · constructor
      · intro h5; cases h5
      · intro h5
        have := h5.2 M h1
        omega
    · rintro e w' ⟨rfl, hb⟩
      exact ⟨none, 0, 0, [], rfl, World.ownsRow_nil _ _ _ _, Lim_nil, fun h5 => absurd h5 (by decide), Nat.zero_le _, hb⟩

set_option maxRecDepth 100000 in
set_option maxHeartbeats 1000000 in
theorem parse_minus (w : World) (s : ByteArray) (r : Int) (h2 : 2 ≤ r) (h36 : r ≤ 36) (hs0 : 0 < s.size) (hs : s.size ≤ 1000) (y : Nat) (hy : (s[0]'hs0).toNat = y) (h45 : y = 45) (b : Bool) (v p c : Int)
    (hn : ∀ w', Calls Tryz.prog 149 #[.string (s.extract 1 s.size), .int .i64 r] w' (NumOut w' b v 1000001)) (hp : b = true → p = sgn true v ∧ c = 0) (hq : b = false → p = 0 ∧ c = 2) :
    Calls Tryz.prog 109 #[.string s, .int .i64 r] w (RetBoth w p c 1000001) := by
  have HN := Lib.hid hn
  have HP := Lib.hid hp
  have HQ := Lib.hid hq
  subst h45
  have hem0 : ¬ s.toList = [] := by
    rw [ByteArray.toList_eq]
    intro h0
    have h1 : s.data.toList.length = s.size := by rw [Array.length_toList]; rfl
    rw [h0] at h1
    simp at h1
    omega
  have hem2 : s.toList.isEmpty = false := by simpa using hem0
  have hr1 : ¬ 36 < r := by omega
  have hr2 : ¬ r < 2 := by omega
  have hsz : ¬ (20000 : Int) < s.size := by omega
  clear hn hp hq
  go_enter Tryz.func109, Tryz.ntmps109
  go_wp2_with fail
  refine (HN.out _).mono ?_
  rintro e w1 ⟨ao, n, cap, zs, rfl, hown, hl, hv, hn, hb1⟩
  have hr2 := (hb1.block w.heap.size (by go_size)).trans (heap_alloc_new w _)
  have hz1 : w.heap.size + 1 ≤ w1.heap.size := Nat.le_trans (by go_size) hb1.size
  have hb2 : Below w.heap.size w w1 := Below.trans (by go_grown) (hb1.mono (by go_size))
  have HSL := Lib.hid hown.sl
  obtain ⟨c0, c1, f0, f1⟩ := blk2 hr2
  have HV := Lib.hid hv
  clear hown hv hb1
  cases b with
  | false =>
    obtain ⟨rfl, rfl⟩ := HQ.out rfl
    go_wp2_with fail
    refine bodyPost_ret (v := .tuple #[.agg #[.bool false, .slice none 0 0], .int .i64 2]) (by simp [results, Tryz.results109, go_sem, c0, c1]) rfl ?_
    exact ⟨_, _, _, _, _, rfl, int_zero' _, by omega, (hb2.setCell (p := ⟨w.heap.size, 0, none⟩) (by dsimp only; omega) _).setCell (p := ⟨w.heap.size, 1, none⟩) (by dsimp only; omega) _⟩
  | true =>
    obtain ⟨hp1, rfl⟩ := HP.out rfl
    have HPP := Lib.hid hp1
    have HVV := Lib.hid (HV.out rfl)
    clear hp1 HP HQ HN HV
    go_wp2_with fail
    refine (wrap_int _ true ao n cap zs HSL.out hl rfl).mono ?_
    rintro e w2 ⟨neg', ao', n', cap', zs', rfl, hint, hn', u2⟩
    have hr4 := (u2.block _ (by omega)).trans hr2
    have hz4 := u2.size
    have hb4 : Below w.heap.size w w2 := hb2.trans (u2.mono hb2.size)
    obtain ⟨d0, d1, g0, g1⟩ := blk2 hr4
    have HI := Lib.hid (hint.stored hr4 (.bool neg') (.slice ao' n' cap'))
    clear hint hr4 hr2 c0 c1 f0 f1 u2
    go_wp2_with fail
    refine bodyPost_ret (v := .tuple #[.agg #[.bool neg', .slice ao' n' cap'], .int .i64 0]) (by simp [results, Tryz.results109, go_sem, d0, d1]) rfl ?_
    exact ⟨_, _, _, _, _, rfl, by have h := HI.out; rw [HVV.out, ← HPP.out] at h; exact h, by omega, (hb4.setCell (p := ⟨w.heap.size, 0, none⟩) (by dsimp only; omega) _).setCell (p := ⟨w.heap.size, 1, none⟩) (by dsimp only; omega) _⟩

set_option maxRecDepth 100000 in
set_option maxHeartbeats 1000000 in
theorem parse_plus (w : World) (s : ByteArray) (r : Int) (h2 : 2 ≤ r) (h36 : r ≤ 36) (hs0 : 0 < s.size) (hs : s.size ≤ 1000) (y : Nat) (hy : (s[0]'hs0).toNat = y) (h43 : y = 43) (b : Bool) (v p c : Int)
    (hn : ∀ w', Calls Tryz.prog 149 #[.string (s.extract 1 s.size), .int .i64 r] w' (NumOut w' b v 1000001)) (hp : b = true → p = sgn false v ∧ c = 0) (hq : b = false → p = 0 ∧ c = 2) :
    Calls Tryz.prog 109 #[.string s, .int .i64 r] w (RetBoth w p c 1000001) := by
  have HN := Lib.hid hn
  have HP := Lib.hid hp
  have HQ := Lib.hid hq
  subst h43
  have hem0 : ¬ s.toList = [] := by
    rw [ByteArray.toList_eq]
    intro h0
    have h1 : s.data.toList.length = s.size := by rw [Array.length_toList]; rfl
    rw [h0] at h1
    simp at h1
    omega
  have hem2 : s.toList.isEmpty = false := by simpa using hem0
  have hr1 : ¬ 36 < r := by omega
  have hr2 : ¬ r < 2 := by omega
  have hsz : ¬ (20000 : Int) < s.size := by omega
  clear hn hp hq
  go_enter Tryz.func109, Tryz.ntmps109
  go_wp2_with fail
  refine (HN.out _).mono ?_
  rintro e w1 ⟨ao, n, cap, zs, rfl, hown, hl, hv, hn, hb1⟩
  have hr2 := (hb1.block w.heap.size (by go_size)).trans (heap_alloc_new w _)
  have hz1 : w.heap.size + 1 ≤ w1.heap.size := Nat.le_trans (by go_size) hb1.size
  have hb2 : Below w.heap.size w w1 := Below.trans (by go_grown) (hb1.mono (by go_size))
  have HSL := Lib.hid hown.sl
  obtain ⟨c0, c1, f0, f1⟩ := blk2 hr2
  have HV := Lib.hid hv
  clear hown hv hb1
  cases b with
  | false =>
    obtain ⟨rfl, rfl⟩ := HQ.out rfl
    go_wp2_with fail
    refine bodyPost_ret (v := .tuple #[.agg #[.bool false, .slice none 0 0], .int .i64 2]) (by simp [results, Tryz.results109, go_sem, c0, c1]) rfl ?_
    exact ⟨_, _, _, _, _, rfl, int_zero' _, by omega, (hb2.setCell (p := ⟨w.heap.size, 0, none⟩) (by dsimp only; omega) _).setCell (p := ⟨w.heap.size, 1, none⟩) (by dsimp only; omega) _⟩
  | true =>
    obtain ⟨hp1, rfl⟩ := HP.out rfl
    have HPP := Lib.hid hp1
    have HVV := Lib.hid (HV.out rfl)
    clear hp1 HP HQ HN HV
    go_wp2_with fail
    refine (wrap_int _ false ao n cap zs HSL.out hl rfl).mono ?_
    rintro e w2 ⟨neg', ao', n', cap', zs', rfl, hint, hn', u2⟩
    have hr4 := (u2.block _ (by omega)).trans hr2
    have hz4 := u2.size
    have hb4 : Below w.heap.size w w2 := hb2.trans (u2.mono hb2.size)
    obtain ⟨d0, d1, g0, g1⟩ := blk2 hr4
    have HI := Lib.hid (hint.stored hr4 (.bool neg') (.slice ao' n' cap'))
    clear hint hr4 hr2 c0 c1 f0 f1 u2
    go_wp2_with fail
    refine bodyPost_ret (v := .tuple #[.agg #[.bool neg', .slice ao' n' cap'], .int .i64 0]) (by simp [results, Tryz.results109, go_sem, d0, d1]) rfl ?_
    exact ⟨_, _, _, _, _, rfl, by have h := HI.out; rw [HVV.out, ← HPP.out] at h; exact h, by omega, (hb4.setCell (p := ⟨w.heap.size, 0, none⟩) (by dsimp only; omega) _).setCell (p := ⟨w.heap.size, 1, none⟩) (by dsimp only; omega) _⟩

set_option maxRecDepth 100000 in
set_option maxHeartbeats 1000000 in
theorem parse_bare (w : World) (s : ByteArray) (r : Int) (h2 : 2 ≤ r) (h36 : r ≤ 36) (hs0 : 0 < s.size) (hs : s.size ≤ 1000) (y : Nat) (hy : (s[0]'hs0).toNat = y) (h45 : y ≠ 45) (h43 : y ≠ 43) (b : Bool) (v p c : Int)
    (hn : ∀ w', Calls Tryz.prog 149 #[.string s, .int .i64 r] w' (NumOut w' b v 1000001)) (hp : b = true → p = sgn false v ∧ c = 0) (hq : b = false → p = 0 ∧ c = 2) :
    Calls Tryz.prog 109 #[.string s, .int .i64 r] w (RetBoth w p c 1000001) := by
  have HN := Lib.hid hn
  have HP := Lib.hid hp
  have HQ := Lib.hid hq
  have g1 : ((y : Int) == 45) = false := by simp; omega
  have g2 : ((y : Int) == 43) = false := by simp; omega
  have hem0 : ¬ s.toList = [] := by
    rw [ByteArray.toList_eq]
    intro h0
    have h1 : s.data.toList.length = s.size := by rw [Array.length_toList]; rfl
    rw [h0] at h1
    simp at h1
    omega
  have hem2 : s.toList.isEmpty = false := by simpa using hem0
  have hr1 : ¬ 36 < r := by omega
  have hr2 : ¬ r < 2 := by omega
  have hsz : ¬ (20000 : Int) < s.size := by omega
  clear hn hp hq
  go_enter Tryz.func109, Tryz.ntmps109
  go_wp2_with fail
  refine (HN.out _).mono ?_
  rintro e w1 ⟨ao, n, cap, zs, rfl, hown, hl, hv, hn, hb1⟩
  have hr2 := (hb1.block w.heap.size (by go_size)).trans (heap_alloc_new w _)
  have hz1 : w.heap.size + 1 ≤ w1.heap.size := Nat.le_trans (by go_size) hb1.size
  have hb2 : Below w.heap.size w w1 := Below.trans (by go_grown) (hb1.mono (by go_size))
  have HSL := Lib.hid hown.sl
  obtain ⟨c0, c1, f0, f1⟩ := blk2 hr2
  have HV := Lib.hid hv
  clear hown hv hb1
  cases b with
  | false =>
    obtain ⟨rfl, rfl⟩ := HQ.out rfl
    go_wp2_with fail
    refine bodyPost_ret (v := .tuple #[.agg #[.bool false, .slice none 0 0], .int .i64 2]) (by simp [results, Tryz.results109, go_sem, c0, c1]) rfl ?_
    exact ⟨_, _, _, _, _, rfl, int_zero' _, by omega, (hb2.setCell (p := ⟨w.heap.size, 0, none⟩) (by dsimp only; omega) _).setCell (p := ⟨w.heap.size, 1, none⟩) (by dsimp only; omega) _⟩
  | true =>
    obtain ⟨hp1, rfl⟩ := HP.out rfl
    have HPP := Lib.hid hp1
    have HVV := Lib.hid (HV.out rfl)
    clear hp1 HP HQ HN HV
    go_wp2_with fail
    refine (wrap_int _ false ao n cap zs HSL.out hl rfl).mono ?_
    rintro e w2 ⟨neg', ao', n', cap', zs', rfl, hint, hn', u2⟩
    have hr4 := (u2.block _ (by omega)).trans hr2
    have hz4 := u2.size
    have hb4 : Below w.heap.size w w2 := hb2.trans (u2.mono hb2.size)
    obtain ⟨d0, d1, g0, g1⟩ := blk2 hr4
    have HI := Lib.hid (hint.stored hr4 (.bool neg') (.slice ao' n' cap'))
    clear hint hr4 hr2 c0 c1 f0 f1 u2
    go_wp2_with fail
    refine bodyPost_ret (v := .tuple #[.agg #[.bool neg', .slice ao' n' cap'], .int .i64 0]) (by simp [results, Tryz.results109, go_sem, d0, d1]) rfl ?_
    exact ⟨_, _, _, _, _, rfl, by have h := HI.out; rw [HVV.out, ← HPP.out] at h; exact h, by omega, (hb4.setCell (p := ⟨w.heap.size, 0, none⟩) (by dsimp only; omega) _).setCell (p := ⟨w.heap.size, 1, none⟩) (by dsimp only; omega) _⟩

set_option maxHeartbeats 1000000
set_option linter.unusedVariables false

theorem digs_len {r : Nat} (h2 : 2 ≤ r) (k : Nat) : ∀ V, V < 2 ^ k → (digs r V).length ≤ k := by
  induction k with
  | zero => intro V h; have : V = 0 := by simpa using h
            rw [this, digs_zero]; simp
  | succ k ih =>
    intro V h
    by_cases h0 : V = 0
    · rw [h0, digs_zero]; simp
    · rw [digs_pos h2 h0, List.length_cons]
      have h1 : V / r < 2 ^ k := by
        rw [Nat.div_lt_iff_lt_mul (by omega)]
        rw [Nat.pow_succ] at h
        exact Nat.lt_of_lt_of_le h (Nat.mul_le_mul_left _ h2)
      have := ih _ h1
      omega

set_option maxHeartbeats 1000000
set_option linter.unusedVariables false

theorem number_all (s : ByteArray) (r : Int) (h2 : 2 ≤ r) (h36 : r ≤ 36) (hs : s.size ≤ 1000000) (b : Bool) (hb : b = true ↔ Good r s) (w : World) :
    Calls Tryz.prog 149 #[.string s, .int .i64 r] w (NumOut w b (pval r s.data.toList) 1000001) := by
  obtain ⟨b', hb', h⟩ := number_any w s r h2 h36 hs
  have e : b' = b := by
    cases b <;> cases b'
    · rfl
    · exact absurd (hb.2 (hb'.1 rfl)) (by decide)
    · exact absurd (hb'.2 (hb.1 rfl)) (by decide)
    · rfl
  rw [← e]
  exact h

set_option maxHeartbeats 1000000
set_option linter.unusedVariables false

theorem numsOne {w : World} {b : Nat} {x : Num} {t : TypeId} (h : w.heap[b]? = some (.cells #[.bool x.neg, .slice x.ao x.n x.cap] t (0, 0))) : Nums w b [x] := by
  intro i u hu
  match i, hu with
  | 0, hu =>
    simp at hu; subst hu
    exact ⟨cell_of_row _ b 0 _ t (0, 0) h, cell_of_row _ b 1 _ t (0, 0) h⟩

theorem shortN (w : World) (b : Nat) (x : Num) (most : Nat) (h : w.heap[b]? = some (.cells #[.bool x.neg, .slice x.ao x.n x.cap] 24 (0, 0))) :
    Calls Tryz.prog 12 #[.int .i64 most, .slice (some ⟨b, 0, none⟩) 1 1] w (RetV w (.bool (decide (x.n ≤ most)))) := by
  have := short_any w b 1 [x] most (numsOne h) (Array.getElem?_eq_some_iff.1 h).1 (by simp) (by omega)
  simpa using this
end Go.Proofs.YtdfepdhflnnjpaaGreat
