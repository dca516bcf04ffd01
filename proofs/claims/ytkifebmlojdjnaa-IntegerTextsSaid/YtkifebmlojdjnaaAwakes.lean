/- Awake, Awake2, Short in one text. -/
import Derived.Test.YtkifebmlojdjnaaIs
import Derived.Test.YtkifebmlojdjnaaBitsA
import Derived.Sort.AtCall
namespace Go.Proofs.Ytkifebmlojdjnaa
open Go.RowKit
set_option autoImplicit false
set_option linter.unusedVariables false

theorem one_of_val {zs : List Int} (lz : Lim zs) (tz : Top zs) (v : Int) (h0 : 0 < v) (h1 : v ≤ 4294967295) (h : val zs = v) : zs = [v] := by
  refine eq_of_val lz ?_ tz ?_ ?_
  · intro z hz; simp at hz; omega
  · right; simp; omega
  · rw [h]; simp [val]

theorem IntAt.pos {w : World} {neg : Bool} {ao : Option Addr} {n cap : Nat} {zs : List Int} (v : Int) (h0 : 0 < v) (h1 : v ≤ 4294967295) (h : IntAt w neg ao n cap zs v) : zs = [v] ∧ n = 1 ∧ neg = false := by
  have hv := h.val
  have hn := val_nonneg h.lim
  have hneg : neg = false := by
    cases neg with
    | false => rfl
    | true => simp [sgn] at hv; omega
  subst hneg
  have hz := one_of_val h.lim h.top v h0 h1 (by simp [sgn] at hv; omega)
  refine ⟨hz, ?_, rfl⟩
  have := h.sl.len
  rw [hz] at this
  simp at this
  omega

theorem IntAt.neg1 {w : World} {neg : Bool} {ao : Option Addr} {n cap : Nat} {zs : List Int} (v : Int) (h0 : 0 < v) (h1 : v ≤ 4294967295) (h : IntAt w neg ao n cap zs (-v)) : zs = [v] ∧ n = 1 ∧ neg = true := by
  have hv := h.val
  have hn := val_nonneg h.lim
  have hneg : neg = true := by
    cases neg with
    | true => rfl
    | false => simp [sgn] at hv; omega
  subst hneg
  have hz := one_of_val h.lim h.top v h0 h1 (by simp [sgn] at hv; omega)
  refine ⟨hz, ?_, rfl⟩
  have := h.sl.len
  rw [hz] at this
  simp at this
  omega

theorem div7 (w : World) (nx ny : Bool) (ao bo : Option Addr) (n m capa capb : Nat) (xs ys : List Int) (hx : IntAt w nx ao n capa xs (-7)) (hy : IntAt w ny bo m capb ys 2) :
    Calls Try.prog 30 #[.agg #[.bool nx, .slice ao n capa], .agg #[.bool ny, .slice bo m capb]] w (RetQR w (-3) (-1) 1 2) := by
  obtain ⟨rfl, rfl, rfl⟩ := hx.neg1 7 (by omega) (by omega)
  obtain ⟨rfl, rfl, rfl⟩ := hy.pos 2 (by omega) (by omega)
  exact div_int w true false ao bo 1 1 capa capb [7] [2] (-7) 2 hx hy (by omega) 1 2 fun w1 hb =>
    divide_one w1 ao bo 1 capa capb [7] 2 (hx.sl.below hb) (hy.sl.below hb) hx.lim hy.lim hx.top hy.top (by omega) (by simp [val])

theorem text255 (w : World) (nx : Bool) (ao : Option Addr) (n cap : Nat) (xs : List Int) (hx : IntAt w nx ao n cap xs 255) (hn : n ≤ 34359738368) :
    Calls Try.prog 60 #[.agg #[.bool nx, .slice ao n cap], .int .i64 16] w (RetV w (.tuple #[.string { data := #[70, 70] }, .int .i64 0])) := by
  refine (text_any w nx ao n cap xs 255 16 hx hn (by omega) (by omega)).mono ?_
  rintro e w1 ⟨rfl, hb⟩
  refine ⟨?_, hb⟩
  have h : textOf 16 255 = [70, 70] := by
    simp [textOf, digs_pos, digs_zero, letter]
  rw [h]
  rfl

/-- A number and the code 0. -/
def RetIE (w : World) (x : Int) (L : Nat) (e : Ending) (w' : World) : Prop :=
  ∃ neg ao n cap zs, e = .returned (.tuple #[.agg #[.bool neg, .slice ao n cap], .int .i64 0]) ∧ IntAt w' neg ao n cap zs x ∧ n ≤ L ∧ Below w.heap.size w w'

theorem boole84 (w : World) (nx ny : Bool) (ao bo : Option Addr) (n m capa capb : Nat) (xs ys : List Int) (hx : IntAt w nx ao n capa xs (-4)) (hy : IntAt w ny bo m capb ys 7) :
    Calls Try.prog 51 #[.agg #[.bool nx, .slice ao n capa], .int .i64 8, .agg #[.bool ny, .slice bo m capb]] w (RetIE w 4 2) := by
  obtain ⟨rfl, rfl, rfl⟩ := hx.neg1 4 (by omega) (by omega)
  obtain ⟨rfl, rfl, rfl⟩ := hy.pos 7 (by omega) (by omega)
  refine (boole_any w true false ao bo 1 1 capa capb [4] [7] (-4) 7 8 hx hy (by omega) (by omega) (by omega) (by omega)).mono ?_
  rintro e w1 ⟨neg, a1, n1, c1, zs, As, Bs, rfl, hAl, hA, hAv, hBl, hB, hBv, hint, hn, hb⟩
  have eA : As = [4294967292, 4294967295] := by
    refine val_inj hA ?_ ?_ ?_
    · intro z hz; simp at hz; omega
    · rw [hAv]; decide
    · simpa using hAl
  have eB : Bs = [7, 0] := by
    refine val_inj hB ?_ ?_ ?_
    · intro z hz; simp at hz; omega
    · rw [hBv]; decide
    · simpa using hBl
  subst eA eB
  refine ⟨neg, a1, n1, c1, zs, rfl, ?_, hn, hb⟩
  have : sval (max 1 1 + 1) (val (List.zipWith (comb 8) [4294967292, 4294967295] [7, 0])) = 4 := by decide
  rw [← this]
  exact hint

set_option maxRecDepth 100000 in
theorem awake_any (w : World) : Calls Try.prog 15 #[] w (RetV w (.bool true)) := by
  go_enter Try.func15, Try.ntmps15
  go_wp2_with fail
  refine (new_int _ (-7) (by omega) (by omega)).mono ?_
  rintro e w1 ⟨s1, a1, n1, c1, z1, rfl, h1, l1, hb1⟩
  have H1 := Lib.hid h1
  clear h1
  go_wp2_with fail
  refine (new_int _ 2 (by omega) (by omega)).mono ?_
  rintro e w2 ⟨s2, a2, n2, c2, z2, rfl, h2, l2, hb2⟩
  have H1' := Lib.hid (H1.out.below hb2)
  have H2 := Lib.hid h2
  clear h2 H1
  go_wp2_with fail
  refine (div7 _ s1 s2 a1 a2 n1 n2 c1 c2 z1 z2 H1'.out H2.out).mono ?_
  rintro e w3 ⟨sq, aq, nq, cq, zq, sr, ar, nr, cr, zr, rfl, hq, lq, hr, lr, hb3⟩
  have HQ := Lib.hid hq
  have HR := Lib.hid hr
  have HW := Lib.hid (show Below w.heap.size w w3 from hb1.trans ((hb2.trans (hb3.mono hb2.size)).mono hb1.size))
  clear hq hr H1' H2 hb1 hb2 hb3
  go_wp2_with fail
  refine (new_int _ 255 (by omega) (by omega)).mono ?_
  rintro e w4 ⟨s4, a4, n4, c4, z4, rfl, h4, l4, hb4⟩
  have H4 := Lib.hid h4
  have hb34 : Below w3.heap.size w3 w4 := Below.trans (by go_grown) (hb4.mono (by go_size))
  have q0 : w4.cell? ⟨w3.heap.size, 0, none⟩ = some (.bool sq) := by rw [hb4.cell (by go_size)]; go_keep
  have q1 : w4.cell? ⟨w3.heap.size, 1, none⟩ = some (.slice aq nq cq) := by rw [hb4.cell (by go_size)]; go_keep
  have r0 : w4.cell? ⟨w3.heap.size + 1, 0, none⟩ = some (.bool sr) := by rw [hb4.cell (by go_size)]; go_keep
  have r1 : w4.cell? ⟨w3.heap.size + 1, 1, none⟩ = some (.slice ar nr cr) := by rw [hb4.cell (by go_size)]; go_keep
  have hz4 : w3.heap.size + 1 + 1 ≤ w4.heap.size := Nat.le_trans (by go_size) hb4.size
  have HS := Lib.hid (And.intro q0 (And.intro q1 (And.intro r0 r1)))
  have HB34 := Lib.hid hb34
  clear h4 hb4 hb34 q0 q1 r0 r1
  go_wp2_with fail
  refine (text255 _ s4 a4 n4 c4 z4 H4.out (by omega)).mono ?_
  rintro e w5 ⟨rfl, hb5⟩
  go_wp2_with fail
  refine (new_int _ (-4) (by omega) (by omega)).mono ?_
  rintro e w6 ⟨s6, a6, n6, c6, z6, rfl, h6, l6, hb6⟩
  have H6 := Lib.hid h6
  clear h6
  go_wp2_with fail
  refine (new_int _ 7 (by omega) (by omega)).mono ?_
  rintro e w7 ⟨s7, a7, n7, c7, z7, rfl, h7, l7, hb7⟩
  have H6' := Lib.hid (H6.out.below hb7)
  have H7 := Lib.hid h7
  clear h7 H6
  go_wp2_with fail
  refine (boole84 _ s6 s7 a6 a7 n6 n7 c6 c7 z6 z7 H6'.out H7.out).mono ?_
  rintro e w8 ⟨sb, ab, nb, cb, zb, rfl, hbb, lb, hb8⟩
  have H8 := Lib.hid hbb
  have hb48 : Below w4.heap.size w4 w8 := hb5.trans ((hb6.trans ((hb7.trans (hb8.mono hb7.size)).mono hb6.size)).mono hb5.size)
  have hz8 := hb48.size
  have hz3 : w3.heap.size + 1 + 1 ≤ w8.heap.size := by omega
  have q0 : w8.cell? ⟨w3.heap.size, 0, none⟩ = some (.bool sq) := by rw [hb48.cell (by dsimp only; omega)]; exact HS.out.1
  have q1 : w8.cell? ⟨w3.heap.size, 1, none⟩ = some (.slice aq nq cq) := by rw [hb48.cell (by dsimp only; omega)]; exact HS.out.2.1
  have r0 : w8.cell? ⟨w3.heap.size + 1, 0, none⟩ = some (.bool sr) := by rw [hb48.cell (by dsimp only; omega)]; exact HS.out.2.2.1
  have r1 : w8.cell? ⟨w3.heap.size + 1, 1, none⟩ = some (.slice ar nr cr) := by rw [hb48.cell (by dsimp only; omega)]; exact HS.out.2.2.2
  have hb38 : Below w3.heap.size w3 w8 := HB34.out.trans (hb48.mono (by omega))
  have HQ8 := Lib.hid (HQ.out.below hb38)
  have HR8 := Lib.hid (HR.out.below hb38)
  have HW8 := Lib.hid (HW.out.trans (hb38.mono HW.out.size))
  clear hbb H6' H7 hb5 hb6 hb7 hb8 HS HB34 hb48 hb38 HQ HR HW H4 hz4
  go_wp2_with fail
  go_region_held3 (fun w' => w'.cell? ⟨w3.heap.size, 0, none⟩ = some (.bool sq) ∧ w'.cell? ⟨w3.heap.size, 1, none⟩ = some (.slice aq nq cq) ∧ w'.cell? ⟨w3.heap.size + 1, 0, none⟩ = some (.bool sr) ∧ w'.cell? ⟨w3.heap.size + 1, 1, none⟩ = some (.slice ar nr cr) ∧ w'.cell? ⟨w8.heap.size, 0, none⟩ = some (.bool sb) ∧ w'.cell? ⟨w8.heap.size, 1, none⟩ = some (.slice ab nb cb)) (((try dsimp only); (repeat' apply And.intro) <;> (first | (go_keep; done) | (go_split_ands; rw [u1.cell (by first | (dsimp only; omega) | go_size)]; assumption) | (go_split_ands; rw [u2.cell (by first | (dsimp only; omega) | go_size)]; assumption) | (go_split_ands; rw [u3.cell (by first | (dsimp only; omega) | go_size)]; assumption) | (go_split_ands; rw [u4.cell (by first | (dsimp only; omega) | go_size)]; assumption) | (go_split_ands; rw [u5.cell (by first | (dsimp only; omega) | go_size)]; assumption) | (go_split_ands; rw [u6.cell (by first | (dsimp only; omega) | go_size)]; assumption))))
    (first | (go_at_call_has 18 (Value.int .i64 (-3)); refine (rnew_any _ (-3) (by omega) (by omega)).mono ?_; rintro e v1 ⟨t1, d1, m1, k1, y1, rfl, g1, p1, u1⟩; have G1 := Lib.hid g1; have X1 : Below w8.heap.size w8 v1 := Below.trans (by go_grown) (u1.mono (by go_size)); have Z1 : w8.heap.size + 1 ≤ v1.heap.size := Nat.le_trans (by go_size) u1.size; clear g1) | (go_at_call_of 21 aq; refine (is_any _ sq t1 aq d1 nq m1 cq k1 zq y1 (-3) (-3) (HQ8.out.below X1) G1.out (by omega) (by omega)).mono ?_; rintro e v2 ⟨rfl, u2⟩; have X2 : Below w8.heap.size w8 v2 := X1.trans (u2.mono X1.size); have Z2 := u2.size) | (go_at_call_has 18 (Value.int .i64 (-1)); refine (rnew_any _ (-1) (by omega) (by omega)).mono ?_; rintro e v3 ⟨t3, d3, m3, k3, y3, rfl, g3, p3, u3⟩; have G3 := Lib.hid g3; have X3 : Below w8.heap.size w8 v3 := X2.trans (u3.mono X2.size); have Z3 := u3.size; clear g3) | (go_at_call_of 21 ar; refine (is_any _ sr t3 ar d3 nr m3 cr k3 zr y3 (-1) (-1) (HR8.out.below X3) G3.out (by omega) (by omega)).mono ?_; rintro e v4 ⟨rfl, u4⟩; have X4 : Below w8.heap.size w8 v4 := X3.trans (u4.mono X3.size); have Z4 := u4.size) | (go_at_call_has 18 (Value.int .i64 (4)); refine (rnew_any _ (4) (by omega) (by omega)).mono ?_; rintro e v5 ⟨t5, d5, m5, k5, y5, rfl, g5, p5, u5⟩; have G5 := Lib.hid g5; have X5 : Below w8.heap.size w8 v5 := X4.trans (u5.mono X4.size); have Z5 := u5.size; clear g5) | (go_at_call_of 21 ab; refine (is_any _ sb t5 ab d5 nb m5 cb k5 zb y5 (4) (4) (H8.out.below X5) G5.out (by omega) (by omega)).mono ?_; rintro e v6 ⟨rfl, u6⟩; have X6 : Below w8.heap.size w8 v6 := X5.trans (u6.mono X5.size); have Z6 := u6.size))
  go_wp2_with fail
  go_ret
  exact ⟨rfl, HW8.out.trans (X6.mono HW8.out.size)⟩

/-- A number as it is handed in: a sign and its limbs. -/
structure Num where
  neg : Bool
  ao : Option Addr
  n : Nat
  cap : Nat

def Num.agg (x : Num) : Value := .agg #[.bool x.neg, .slice x.ao x.n x.cap]

/-- The block holds the numbers, one behind the other. -/
def Nums (w : World) (b : Nat) (l : List Num) : Prop :=
  ∀ i x, l[i]? = some x → w.cell? ⟨b, i * 2, none⟩ = some (.bool x.neg) ∧ w.cell? ⟨b, i * 2 + 1, none⟩ = some (.slice x.ao x.n x.cap)

theorem Nums.below {w w' : World} {b : Nat} {l : List Num} (h : Nums w b l) (hb : Below w.heap.size w w') (hl : b < w.heap.size) : Nums w' b l := by
  intro i x hx
  obtain ⟨h1, h2⟩ := h i x hx
  exact ⟨(hb.cell hl).trans h1, (hb.cell hl).trans h2⟩

theorem short1 (w : World) (neg : Bool) (ao : Option Addr) (n cap : Nat) (most : Int) (p : Addr) (hc : w.cell? p = some (.int .i64 most)) (hp : p.block < w.heap.size) :
    Calls Try.prog 67 #[.agg #[.bool neg, .slice ao n cap], .pointer (some p)] w (RetV w (.bool (decide (most < (n : Int))))) := by
  go_enter Try.func67, Try.ntmps67
  go_wp2_with fail
  go_ret
  exact ⟨rfl, by go_grown⟩

/-- The first number that is too long is found, or none is. -/
def RetFind (w : World) (l : List Num) (most : Nat) (e : Ending) (w' : World) : Prop :=
  ∃ k : Int, e = .returned (.int .i64 k) ∧ (0 ≤ k ↔ ∃ x ∈ l, most < x.n) ∧ Below w.heap.size w w'

set_option maxRecDepth 100000 in
theorem find_any (w : World) (b cap : Nat) (l : List Num) (most : Nat) (p : Addr) (hl : Nums w b l) (hb : b < w.heap.size) (hc : w.cell? p = some (.int .i64 most)) (hp : p.block < w.heap.size) (hlen : l.length ≤ cap) (hcap : cap ≤ 1000) :
    Calls Try.prog 117 #[.slice (some ⟨b, 0, none⟩) l.length cap, .func (Fn.func 67) #[] #[.pointer (some p)]] w (RetFind w l most) := by
  have HL := Lib.hid hl
  clear hl
  obtain ⟨n, hn⟩ : ∃ n, n = l.length := ⟨_, rfl⟩
  rw [← hn] at hlen ⊢
  have HN := Lib.hid hn
  clear hn
  go_enter Try.func117, Try.ntmps117
  go_wp2_with fail
  go_loopw [8] (fun i wr => ∃ j : Nat, j ≤ n ∧ i = .int .i64 j ∧ (∀ x ∈ l.take j, x.n ≤ most) ∧ Below w.heap.size w wr)
    (fun i _ => n - (intOf i).toNat)
  case atStart => exact ⟨0, by omega, rfl, by simp, .refl _ _⟩
  case round =>
    obtain ⟨j, hj, rfl, hall, hbel⟩ := hrel
    have HALL := Lib.hid hall
    have hc' : wr.cell? p = some (.int .i64 most) := (hbel.cell hp).trans hc
    have hp' : p.block < wr.heap.size := Nat.lt_of_lt_of_le hp hbel.size
    clear hall
    by_cases hjs : j < n
    · obtain ⟨x, hx⟩ : ∃ x, l[j]? = some x := ⟨l[j]'(by rw [← HN.out]; exact hjs), by simp⟩
      obtain ⟨x0, x1⟩ := HL.out.below hbel hb j x hx
      have HX := Lib.hid hx
      clear hx
      have hji : (j : Int) < n := by omega
      go_wp2_with fail
      by_cases hm : most < x.n
      · refine (short1 _ x.neg x.ao x.n x.cap most p hc' hp').mono ?_
        rintro e w1 ⟨rfl, hb1⟩
        have hd : decide ((most : Int) < (x.n : Int)) = true := by simp; exact hm
        rw [hd]
        clear hd
        go_wp2_with fail
        go_ret
        refine ⟨j, rfl, ⟨fun _ => ⟨x, List.mem_of_getElem? HX.out, hm⟩, fun _ => by omega⟩, hbel.trans (hb1.mono hbel.size)⟩
      · refine (short1 _ x.neg x.ao x.n x.cap most p hc' hp').mono ?_
        rintro e w1 ⟨rfl, hb1⟩
        have hd : decide ((most : Int) < (x.n : Int)) = false := by simp; omega
        rw [hd]
        clear hd
        go_wp2_with fail
        go_roundw
        case rel =>
          refine ⟨j + 1, by omega, by go_num, ?_, hbel.trans (hb1.mono hbel.size)⟩
          intro y hy
          rw [List.take_add_one, HX.out] at hy
          simp at hy
          rcases hy with hy | rfl
          · exact HALL.out y hy
          · omega
        case measure => simp [intOf]; omega
    · obtain rfl : j = n := by omega
      have hji : ¬ (j : Int) < j := by omega
      go_wp2_with fail
      go_ret
      refine ⟨-1, rfl, ⟨fun h => by omega, ?_⟩, hbel⟩
      rintro ⟨y, hy, hm⟩
      have := HALL.out y (by rw [List.take_of_length_le (by rw [← HN.out]; omega)]; exact hy)
      omega

theorem contains_any (w : World) (b cap : Nat) (l : List Num) (most : Nat) (p : Addr) (hl : Nums w b l) (hb : b < w.heap.size) (hc : w.cell? p = some (.int .i64 most)) (hp : p.block < w.heap.size) (hlen : l.length ≤ cap) (hcap : cap ≤ 1000) :
    Calls Try.prog 66 #[.slice (some ⟨b, 0, none⟩) l.length cap, .func (Fn.func 67) #[] #[.pointer (some p)]] w (RetV w (.bool (decide (∃ x ∈ l, most < x.n)))) := by
  have HC := Lib.hid (find_any w b cap l most p hl hb hc hp hlen hcap)
  clear hl hc
  go_enter Try.func66, Try.ntmps66
  go_wp2_with fail
  refine HC.out.mono ?_
  rintro e w1 ⟨k, rfl, hk, hb1⟩
  have HK := Lib.hid hk
  clear hk
  go_wp2_with fail
  go_ret
  refine ⟨?_, hb1⟩
  change Ending.returned (.bool (decide (0 ≤ k))) = _
  rw [decide_eq_decide.2 HK.out]

theorem short_any (w : World) (b cap : Nat) (l : List Num) (most : Nat) (hl : Nums w b l) (hb : b < w.heap.size) (hlen : l.length ≤ cap) (hcap : cap ≤ 1000) :
    Calls Try.prog 14 #[.int .i64 most, .slice (some ⟨b, 0, none⟩) l.length cap] w (RetV w (.bool (decide (∀ x ∈ l, x.n ≤ most)))) := by
  have HL := Lib.hid hl
  clear hl
  go_enter Try.func14, Try.ntmps14
  go_wp2_with fail
  refine (contains_any _ b cap l most ⟨w.heap.size, 0, none⟩ (HL.out.below (by go_grown) hb) (Nat.lt_of_lt_of_le hb (by go_size)) (by go_keep) (by go_size) hlen hcap).mono ?_
  rintro e w1 ⟨rfl, hb1⟩
  have hd : (!(decide (∃ x ∈ l, most < x.n))) = decide (∀ x ∈ l, x.n ≤ most) := by
    rw [← decide_not]
    apply decide_eq_decide.2
    simp
  have HD := Lib.hid hd
  clear hd
  go_wp2_with fail
  go_ret
  refine ⟨?_, Below.trans (by go_grown) (hb1.mono (by go_size))⟩
  change Ending.returned (.bool (!(decide (∃ x ∈ l, most < x.n)))) = _
  rw [HD.out]
end Go.Proofs.Ytkifebmlojdjnaa
