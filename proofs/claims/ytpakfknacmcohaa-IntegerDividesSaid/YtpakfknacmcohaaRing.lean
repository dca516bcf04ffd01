/- IntegerRing comes out true. -/
import Derived.Test.YtpakfknacmcohaaMade
namespace Go.Proofs.Ytpakfknacmcohaa
open Go.RowKit
set_option autoImplicit false
set_option linter.unusedVariables false

theorem nums3 {w : World} {b : Nat} {x y z : Num} {t : TypeId} (h : w.heap[b]? = some (.cells #[.bool x.neg, .slice x.ao x.n x.cap, .bool y.neg, .slice y.ao y.n y.cap, .bool z.neg, .slice z.ao z.n z.cap] t (0, 0))) : Nums w b [x, y, z] := by
  intro i u hu
  match i, hu with
  | 0, hu =>
    simp at hu; subst hu
    exact ⟨cell_of_row _ b 0 _ t (0, 0) h, cell_of_row _ b 1 _ t (0, 0) h⟩
  | 1, hu =>
    simp at hu; subst hu
    exact ⟨cell_of_row _ b 2 _ t (0, 0) h, cell_of_row _ b 3 _ t (0, 0) h⟩
  | 2, hu =>
    simp at hu; subst hu
    exact ⟨cell_of_row _ b 4 _ t (0, 0) h, cell_of_row _ b 5 _ t (0, 0) h⟩

theorem short3 (w : World) (b : Nat) (x y z : Num) (most : Nat) (h : w.heap[b]? = some (.cells #[.bool x.neg, .slice x.ao x.n x.cap, .bool y.neg, .slice y.ao y.n y.cap, .bool z.neg, .slice z.ao z.n z.cap] 24 (0, 0))) :
    Calls Try.prog 14 #[.int .i64 most, .slice (some ⟨b, 0, none⟩) 3 3] w (RetV w (.bool (decide (x.n ≤ most ∧ y.n ≤ most ∧ z.n ≤ most)))) := by
  have := short_any w b 3 [x, y, z] most (nums3 h) (Array.getElem?_eq_some_iff.1 h).1 (by simp) (by omega)
  simpa using this

set_option maxRecDepth 100000 in
theorem ring_long (w : World) (nx ny nz : Bool) (ax ay az : Option Addr) (n1 c1 n2 c2 n3 c3 : Nat) (h : ¬ (n1 ≤ 8 ∧ n2 ≤ 8 ∧ n3 ≤ 8)) :
    Calls Try.prog 10 #[.agg #[.bool nx, .slice ax n1 c1], .agg #[.bool ny, .slice ay n2 c2], .agg #[.bool nz, .slice az n3 c3]] w (RetV w (.bool true)) := by
  have hd : decide (n1 ≤ 8 ∧ n2 ≤ 8 ∧ n3 ≤ 8) = false := decide_eq_false h
  have HD := Lib.hid hd
  clear hd
  go_enter Try.func10, Try.ntmps10
  go_wp2_with fail
  refine (short3 _ _ ⟨nx, ax, n1, c1⟩ ⟨ny, ay, n2, c2⟩ ⟨nz, az, n3, c3⟩ 8 (heap_alloc4 _ _ _ _ _)).mono ?_
  rintro e w1 ⟨rfl, hb1⟩
  rw [show decide (Num.n ⟨nx, ax, n1, c1⟩ ≤ 8 ∧ Num.n ⟨ny, ay, n2, c2⟩ ≤ 8 ∧ Num.n ⟨nz, az, n3, c3⟩ ≤ 8) = false from HD.out]
  have hb2 : Below w.heap.size w w1 := Below.trans (by go_grown) (hb1.mono (by go_size))
  clear hb1
  go_wp2_with fail
  refine (awake_any _).mono ?_
  rintro e w2 ⟨rfl, hb3⟩
  go_wp2_with fail
  go_ret
  exact ⟨rfl, hb2.trans (hb3.mono hb2.size)⟩
/-- Three integers were returned in a row. -/
def RetMade3 (w : World) (x y z : Num) (X Y Z : Int) (e : Ending) (w' : World) : Prop :=
  ∃ (g cap : Nat) (r s t : Num) (zr zs zt : List Int), e = .returned (.slice (some ⟨g, 0, none⟩) 3 cap) ∧ 3 ≤ cap ∧ cap ≤ maxLen ∧
    (w'.cell? ⟨g, 0, none⟩ = some (.bool r.neg) ∧ w'.cell? ⟨g, 1, none⟩ = some (.slice r.ao r.n r.cap) ∧ w'.cell? ⟨g, 2, none⟩ = some (.bool s.neg) ∧ w'.cell? ⟨g, 3, none⟩ = some (.slice s.ao s.n s.cap) ∧
      w'.cell? ⟨g, 4, none⟩ = some (.bool t.neg) ∧ w'.cell? ⟨g, 5, none⟩ = some (.slice t.ao t.n t.cap)) ∧
    IntAt w' r.neg r.ao r.n r.cap zr X ∧ IntAt w' s.neg s.ao s.n s.cap zs Y ∧ IntAt w' t.neg t.ao t.n t.cap zt Z ∧ r.n ≤ x.n ∧ s.n ≤ y.n ∧ t.n ≤ z.n ∧ Below w.heap.size w w'

theorem made3 (w : World) (b : Nat) (x y z : Num) (X Y Z : Int) (zx zy zz : List Int) (h : w.heap[b]? = some (.cells #[.bool x.neg, .slice x.ao x.n x.cap, .bool y.neg, .slice y.ao y.n y.cap, .bool z.neg, .slice z.ao z.n z.cap] 24 (0, 0)))
    (hx : Sl w x.ao x.n x.cap zx ∧ Lim zx ∧ X = sgn x.neg (val zx) ∧ x.n ≤ 34359738368) (hy : Sl w y.ao y.n y.cap zy ∧ Lim zy ∧ Y = sgn y.neg (val zy) ∧ y.n ≤ 34359738368) (hz : Sl w z.ao z.n z.cap zz ∧ Lim zz ∧ Z = sgn z.neg (val zz) ∧ z.n ≤ 34359738368) :
    Calls Try.prog 64 #[.slice (some ⟨b, 0, none⟩) 3 3] w (RetMade3 w x y z X Y Z) := by
  have hm := made_many w b 3 [x, y, z] (fun i => if i = 0 then X else if i = 1 then Y else Z) (fun i => if i = 0 then zx else if i = 1 then zy else zz) (nums3 h) (Array.getElem?_eq_some_iff.1 h).1 (by simp) (by omega) ?_
  · refine hm.mono ?_
    rintro e w' ⟨ao, cap, rs, rfl, hl, hown, hall, hb⟩
    match rs, hl with
    | [r, s, t], _ =>
      obtain ⟨h1, zr, h2⟩ := hall 0 r x rfl rfl
      obtain ⟨h3, zs, h4⟩ := hall 1 s y rfl rfl
      obtain ⟨h5, zt, h6⟩ := hall 2 t z rfl rfl
      rcases hown.2 with ⟨hv, h0⟩ | ⟨g, c, cur, hv, hbg, hg, hnc, hcm, hcs, htk⟩
      · simp at h0
      · simp at hv
        obtain ⟨rfl, rfl⟩ := hv
        have hcell : ∀ i v, (flat [r, s, t])[i]? = some v → w'.cell? ⟨g, i, none⟩ = some v := by
          intro i v hv
          rw [← htk] at hv
          have hi : i < [x, y, z].length * 2 := by
            have := (List.getElem?_eq_some_iff.1 hv).1
            simp at this
            simp
            omega
          rw [List.getElem?_take, if_pos hi] at hv
          rw [cell_of_row _ g i cur _ (0, 0) hg]
          simpa using hv
        refine ⟨g, cap, r, s, t, zr, zs, zt, rfl, hnc, hcm, ⟨hcell 0 _ rfl, hcell 1 _ rfl, hcell 2 _ rfl, hcell 3 _ rfl, hcell 4 _ rfl, hcell 5 _ rfl⟩, by simpa using h2, by simpa using h4, by simpa using h6, h1, h3, h5, hb⟩
  · intro i u hu
    match i, hu with
    | 0, hu => simp at hu; subst hu; simpa using hx
    | 1, hu => simp at hu; subst hu; simpa using hy
    | 2, hu => simp at hu; subst hu; simpa using hz

end Go.Proofs.Ytpakfknacmcohaa
