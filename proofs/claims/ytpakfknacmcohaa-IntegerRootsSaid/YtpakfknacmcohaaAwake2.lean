/- The fixed sums that every statement ends with come out true. -/
import Derived.Test.YtpakfknacmcohaaAwake
import Derived.Sort.AtCall
namespace Go.Proofs.Ytpakfknacmcohaa
open Go.RowKit
set_option autoImplicit false
set_option linter.unusedVariables false

set_option maxRecDepth 100000 in
theorem awake_any (w : World) : Calls Try.prog 15 #[] w (RetV w (.bool true)) := by
  go_enter Try.func15, Try.ntmps15
  go_wp2_with fail
  refine (new_int _ (-7) (by omega) (by omega)).mono ?_
  rintro e w1 ⟨s1, a1, n1, c1, z1, rfl, h1, l1, hb1⟩
  have H1 := Lib.hid h1
  clear h1
  go_wp2_with fail
  refine (new_int _ 2 (by omega) (by omega)).mono ?_
  rintro e w2 ⟨s2, a2, n2, c2, z2, rfl, h2, l2, hb2⟩
  have H1' := Lib.hid (H1.out.below hb2)
  have H2 := Lib.hid h2
  clear h2 H1
  go_wp2_with fail
  refine (div7 _ s1 s2 a1 a2 n1 n2 c1 c2 z1 z2 H1'.out H2.out).mono ?_
  rintro e w3 ⟨sq, aq, nq, cq, zq, sr, ar, nr, cr, zr, rfl, hq, lq, hr, lr, hb3⟩
  have HQ := Lib.hid hq
  have HR := Lib.hid hr
  have HW := Lib.hid (show Below w.heap.size w w3 from hb1.trans ((hb2.trans (hb3.mono hb2.size)).mono hb1.size))
  clear hq hr H1' H2 hb1 hb2 hb3
  go_wp2_with fail
  refine (new_int _ 255 (by omega) (by omega)).mono ?_
  rintro e w4 ⟨s4, a4, n4, c4, z4, rfl, h4, l4, hb4⟩
  have H4 := Lib.hid h4
  have hb34 : Below w3.heap.size w3 w4 := Below.trans (by go_grown) (hb4.mono (by go_size))
  have q0 : w4.cell? ⟨w3.heap.size, 0, none⟩ = some (.bool sq) := by rw [hb4.cell (by go_size)]; go_keep
  have q1 : w4.cell? ⟨w3.heap.size, 1, none⟩ = some (.slice aq nq cq) := by rw [hb4.cell (by go_size)]; go_keep
  have r0 : w4.cell? ⟨w3.heap.size + 1, 0, none⟩ = some (.bool sr) := by rw [hb4.cell (by go_size)]; go_keep
  have r1 : w4.cell? ⟨w3.heap.size + 1, 1, none⟩ = some (.slice ar nr cr) := by rw [hb4.cell (by go_size)]; go_keep
  have hz4 : w3.heap.size + 1 + 1 ≤ w4.heap.size := Nat.le_trans (by go_size) hb4.size
  have HS := Lib.hid (And.intro q0 (And.intro q1 (And.intro r0 r1)))
  have HB34 := Lib.hid hb34
  clear h4 hb4 hb34 q0 q1 r0 r1
  go_wp2_with fail
  refine (text255 _ s4 a4 n4 c4 z4 H4.out (by omega)).mono ?_
  rintro e w5 ⟨rfl, hb5⟩
  go_wp2_with fail
  refine (new_int _ (-4) (by omega) (by omega)).mono ?_
  rintro e w6 ⟨s6, a6, n6, c6, z6, rfl, h6, l6, hb6⟩
  have H6 := Lib.hid h6
  clear h6
  go_wp2_with fail
  refine (new_int _ 7 (by omega) (by omega)).mono ?_
  rintro e w7 ⟨s7, a7, n7, c7, z7, rfl, h7, l7, hb7⟩
  have H6' := Lib.hid (H6.out.below hb7)
  have H7 := Lib.hid h7
  clear h7 H6
  go_wp2_with fail
  refine (boole84 _ s6 s7 a6 a7 n6 n7 c6 c7 z6 z7 H6'.out H7.out).mono ?_
  rintro e w8 ⟨sb, ab, nb, cb, zb, rfl, hbb, lb, hb8⟩
  have H8 := Lib.hid hbb
  have hb48 : Below w4.heap.size w4 w8 := hb5.trans ((hb6.trans ((hb7.trans (hb8.mono hb7.size)).mono hb6.size)).mono hb5.size)
  have hz8 := hb48.size
  have hz3 : w3.heap.size + 1 + 1 ≤ w8.heap.size := by omega
  have q0 : w8.cell? ⟨w3.heap.size, 0, none⟩ = some (.bool sq) := by rw [hb48.cell (by dsimp only; omega)]; exact HS.out.1
  have q1 : w8.cell? ⟨w3.heap.size, 1, none⟩ = some (.slice aq nq cq) := by rw [hb48.cell (by dsimp only; omega)]; exact HS.out.2.1
  have r0 : w8.cell? ⟨w3.heap.size + 1, 0, none⟩ = some (.bool sr) := by rw [hb48.cell (by dsimp only; omega)]; exact HS.out.2.2.1
  have r1 : w8.cell? ⟨w3.heap.size + 1, 1, none⟩ = some (.slice ar nr cr) := by rw [hb48.cell (by dsimp only; omega)]; exact HS.out.2.2.2
  have hb38 : Below w3.heap.size w3 w8 := HB34.out.trans (hb48.mono (by omega))
  have HQ8 := Lib.hid (HQ.out.below hb38)
  have HR8 := Lib.hid (HR.out.below hb38)
  have HW8 := Lib.hid (HW.out.trans (hb38.mono HW.out.size))
  clear hbb H6' H7 hb5 hb6 hb7 hb8 HS HB34 hb48 hb38 HQ HR HW H4 hz4
  go_wp2_with fail
  go_region_held3 (fun w' => w'.cell? ⟨w3.heap.size, 0, none⟩ = some (.bool sq) ∧ w'.cell? ⟨w3.heap.size, 1, none⟩ = some (.slice aq nq cq) ∧ w'.cell? ⟨w3.heap.size + 1, 0, none⟩ = some (.bool sr) ∧ w'.cell? ⟨w3.heap.size + 1, 1, none⟩ = some (.slice ar nr cr) ∧ w'.cell? ⟨w8.heap.size, 0, none⟩ = some (.bool sb) ∧ w'.cell? ⟨w8.heap.size, 1, none⟩ = some (.slice ab nb cb)) (((try dsimp only); (repeat' apply And.intro) <;> (first | (go_keep; done) | (go_split_ands; rw [u1.cell (by first | (dsimp only; omega) | go_size)]; assumption) | (go_split_ands; rw [u2.cell (by first | (dsimp only; omega) | go_size)]; assumption) | (go_split_ands; rw [u3.cell (by first | (dsimp only; omega) | go_size)]; assumption) | (go_split_ands; rw [u4.cell (by first | (dsimp only; omega) | go_size)]; assumption) | (go_split_ands; rw [u5.cell (by first | (dsimp only; omega) | go_size)]; assumption) | (go_split_ands; rw [u6.cell (by first | (dsimp only; omega) | go_size)]; assumption))))
    (first | (go_at_call_has 18 (Value.int .i64 (-3)); refine (rnew_any _ (-3) (by omega) (by omega)).mono ?_; rintro e v1 ⟨t1, d1, m1, k1, y1, rfl, g1, p1, u1⟩; have G1 := Lib.hid g1; have X1 : Below w8.heap.size w8 v1 := Below.trans (by go_grown) (u1.mono (by go_size)); have Z1 : w8.heap.size + 1 ≤ v1.heap.size := Nat.le_trans (by go_size) u1.size; clear g1) | (go_at_call_of 21 aq; refine (is_any _ sq t1 aq d1 nq m1 cq k1 zq y1 (-3) (-3) (HQ8.out.below X1) G1.out (by omega) (by omega)).mono ?_; rintro e v2 ⟨rfl, u2⟩; have X2 : Below w8.heap.size w8 v2 := X1.trans (u2.mono X1.size); have Z2 := u2.size) | (go_at_call_has 18 (Value.int .i64 (-1)); refine (rnew_any _ (-1) (by omega) (by omega)).mono ?_; rintro e v3 ⟨t3, d3, m3, k3, y3, rfl, g3, p3, u3⟩; have G3 := Lib.hid g3; have X3 : Below w8.heap.size w8 v3 := X2.trans (u3.mono X2.size); have Z3 := u3.size; clear g3) | (go_at_call_of 21 ar; refine (is_any _ sr t3 ar d3 nr m3 cr k3 zr y3 (-1) (-1) (HR8.out.below X3) G3.out (by omega) (by omega)).mono ?_; rintro e v4 ⟨rfl, u4⟩; have X4 : Below w8.heap.size w8 v4 := X3.trans (u4.mono X3.size); have Z4 := u4.size) | (go_at_call_has 18 (Value.int .i64 (4)); refine (rnew_any _ (4) (by omega) (by omega)).mono ?_; rintro e v5 ⟨t5, d5, m5, k5, y5, rfl, g5, p5, u5⟩; have G5 := Lib.hid g5; have X5 : Below w8.heap.size w8 v5 := X4.trans (u5.mono X4.size); have Z5 := u5.size; clear g5) | (go_at_call_of 21 ab; refine (is_any _ sb t5 ab d5 nb m5 cb k5 zb y5 (4) (4) (H8.out.below X5) G5.out (by omega) (by omega)).mono ?_; rintro e v6 ⟨rfl, u6⟩; have X6 : Below w8.heap.size w8 v6 := X5.trans (u6.mono X5.size); have Z6 := u6.size))
  go_wp2_with fail
  go_ret
  exact ⟨rfl, HW8.out.trans (X6.mono HW8.out.size)⟩
end Go.Proofs.Ytpakfknacmcohaa
