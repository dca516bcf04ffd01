/- The reference's Add, Sub, Cmp. -/
import Derived.Test.YtihfokdehcdgdaaRef8
namespace Go.Proofs.Ytihfokdehcdgdaa
open Go.RowKit
set_option autoImplicit false
set_option linter.unusedVariables false

theorem dlen_le {a b : List Int} (la : Dig 65536 a) (lb : Dig 65536 b) (ta : Top a) (h : dval 65536 a ≤ dval 65536 b) : a.length ≤ b.length := by
  rcases Nat.lt_or_ge b.length a.length with h1 | h1
  · have := dval_lt_of_len (by omega) lb la ta h1
    omega
  · exact h1

theorem radd_eq (w : World) (nx ny : Bool) (ao bo : Option Addr) (n m capa capb : Nat) (xs ys : List Int) (x y : Int) (hx : RefAt w nx ao n capa xs x) (hy : RefAt w ny bo m capb ys y) (hn : n ≤ 4294967296) (hm : m ≤ 4294967296) (hxy : nx = ny) :
    Calls Try.prog 39 #[.agg #[.bool nx, .slice ao n capa], .agg #[.bool ny, .slice bo m capb]] w (RetRef w (x + y) (max n m + 1)) := by
  have HS : Hid (∀ w1, Below w.heap.size w w1 → Calls Try.prog 88 #[.slice ao n capa, .slice bo m capb] w1 (RetDigs w1 (dval 65536 xs + dval 65536 ys) (max n m + 1))) :=
    fun w1 hb => rplus_any w1 ao bo n m capa capb xs ys (hx.sl.below hb) (hy.sl.below hb) hx.lim hy.lim hn hm
  have HX : Hid (sgn nx (dval 65536 xs + dval 65536 ys) = x + y) := by rw [hx.val, hy.val]; exact (sgn_add hxy).symm
  have hxb : (nx == ny) = true := by simp [hxy]
  clear hx hy hxy
  go_enter Try.func39, Try.ntmps39
  go_wp2_with fail
  go_region_held3 (fun w' => w'.cell? ⟨w.heap.size, 0, none⟩ = some (.bool nx) ∧ w'.cell? ⟨w.heap.size, 1, none⟩ = some (.slice ao n capa) ∧ w'.cell? ⟨w.heap.size + 1, 1, none⟩ = some (.slice bo m capb)) (((try dsimp only); (repeat' apply And.intro) <;> (first | (go_keep; done) | (go_split_ands; rw [World.cell?_setCell_far _ _ _ _ (by dsimp only; omega), World.cell?_setCell_far _ _ _ _ (by dsimp only; omega)]; assumption) | (go_split_ands; rw [hb1.cell (by go_size)]; assumption) | (go_split_ands; rw [hb3.cell (by go_size)]; assumption))))
    (first | (go_at_call 88; refine (HS.out _ ?_).mono ?_; (exact ent3D _ _ _ _); rintro e w1 ⟨ao1, n1, cap1, zs1, rfl, hown, hlim1, hval1, hn1, hb1⟩; have HV1 := Lib.hid hval1; clear hval1; obtain ⟨hz1, hr1, hb2⟩ := left3D hb1) | (go_at_call 72; refine (made_int _ _ _ _ _ _ hown.sl hlim1 rfl).mono ?_; rintro e w2 ⟨neg', ao', n', cap', zs', rfl, hint, hn', hb3⟩; have hr2 := (hb3.block _ (by omega)).trans hr1; obtain ⟨c0, c1, f0, f1⟩ := blk2 hr2; have HI := Lib.hid (hint.stored hr2 (.bool neg') (.slice ao' n' cap')); clear hint hr2 hr1))
  have hb4 : Below w.heap.size w w2 := hb2.trans (hb3.mono (by omega))
  go_wp2
  refine bodyPost_ret (v := .agg #[.bool neg', .slice ao' n' cap']) (by simp [results, Try.results39, go_sem, c0, c1]) rfl ?_
  exact fin_ref (by omega) hb4 HI.out (by rw [HV1.out, HX.out]) (Nat.le_trans hn' hn1)

theorem radd_lt (w : World) (nx ny : Bool) (ao bo : Option Addr) (n m capa capb : Nat) (xs ys : List Int) (x y : Int) (hx : RefAt w nx ao n capa xs x) (hy : RefAt w ny bo m capb ys y) (hn : n ≤ 4294967296) (hm : m ≤ 4294967296) (hxy : nx ≠ ny) (hlt : dval 65536 xs < dval 65536 ys) :
    Calls Try.prog 39 #[.agg #[.bool nx, .slice ao n capa], .agg #[.bool ny, .slice bo m capb]] w (RetRef w (x + y) m) := by
  have hle : n ≤ m := by have := dlen_le hx.lim hy.lim hx.top (by omega); rw [hx.sl.len, hy.sl.len] at this; exact this
  have HS : Hid (∀ w1, Below w.heap.size w w1 → Calls Try.prog 90 #[.slice bo m capb, .slice ao n capa] w1 (RetDigs w1 (dval 65536 ys - dval 65536 xs) m)) :=
    fun w1 hb => rminus_any w1 bo ao m n capb capa ys xs (hy.sl.below hb) (hx.sl.below hb) hy.lim hx.lim hm hle (by omega)
  obtain ⟨c, hc⟩ : ∃ c, cmpI (dval 65536 xs) (dval 65536 ys) = c := ⟨_, rfl⟩
  have hcd : decide (0 ≤ c) = false := by rw [← hc, cmpI_lt hlt]; rfl
  have hcn : ¬ 0 ≤ c := by simpa using hcd
  have HX : Hid (sgn ny (dval 65536 ys - dval 65536 xs) = x + y) := by rw [hx.val, hy.val]; exact (sgn_add_ne hxy).1.symm
  have HC : Hid (∀ w1, Below w.heap.size w w1 → Calls Try.prog 89 #[.slice ao n capa, .slice bo m capb] w1 (RetQ w1 (.int .i64 c))) :=
    fun w1 hb => by have := rcompare_any w1 ao bo n m capa capb xs ys (hx.sl.below hb) (hy.sl.below hb) hx.lim hy.lim hx.top hy.top; rwa [hc] at this
  have hxb : (nx == ny) = false := by simp [hxy]
  clear hx hy hxy hc
  go_enter Try.func39, Try.ntmps39
  go_wp2_with fail
  refine (HC.out _ (ent3 _ _ _ _)).mono ?_
  rintro e w0 ⟨rfl, q, rfl⟩
  go_wp2_with fail
  go_region_held3 (fun w' => w'.cell? ⟨w.heap.size + 1, 0, none⟩ = some (.bool ny) ∧ w'.cell? ⟨w.heap.size, 1, none⟩ = some (.slice ao n capa) ∧ w'.cell? ⟨w.heap.size + 1, 1, none⟩ = some (.slice bo m capb)) (((try dsimp only); (repeat' apply And.intro) <;> (first | (go_keep; done) | (go_split_ands; rw [World.cell?_setCell_far _ _ _ _ (by dsimp only; omega), World.cell?_setCell_far _ _ _ _ (by dsimp only; omega)]; assumption) | (go_split_ands; rw [hb1.cell (by go_size)]; assumption) | (go_split_ands; rw [hb3.cell (by go_size)]; assumption))))
    (first | (go_at_call 90; refine (HS.out _ ?_).mono ?_; (exact ent3N _ _ _ _ _); rintro e w1 ⟨ao1, n1, cap1, zs1, rfl, hown, hlim1, hval1, hn1, hb1⟩; have HV1 := Lib.hid hval1; clear hval1; obtain ⟨hz1, hr1, hb2⟩ := left3N hb1) | (go_at_call 72; refine (made_int _ _ _ _ _ _ hown.sl hlim1 rfl).mono ?_; rintro e w2 ⟨neg', ao', n', cap', zs', rfl, hint, hn', hb3⟩; have hr2 := (hb3.block _ (by omega)).trans hr1; obtain ⟨c0, c1, f0, f1⟩ := blk2 hr2; have HI := Lib.hid (hint.stored hr2 (.bool neg') (.slice ao' n' cap')); clear hint hr2 hr1))
  have hb4 : Below w.heap.size w w2 := hb2.trans (hb3.mono (by omega))
  go_wp2
  refine bodyPost_ret (v := .agg #[.bool neg', .slice ao' n' cap']) (by simp [results, Try.results39, go_sem, c0, c1]) rfl ?_
  exact fin_ref (by omega) hb4 HI.out (by rw [HV1.out, HX.out]) (Nat.le_trans hn' hn1)

theorem radd_ge (w : World) (nx ny : Bool) (ao bo : Option Addr) (n m capa capb : Nat) (xs ys : List Int) (x y : Int) (hx : RefAt w nx ao n capa xs x) (hy : RefAt w ny bo m capb ys y) (hn : n ≤ 4294967296) (hm : m ≤ 4294967296) (hxy : nx ≠ ny) (hge : dval 65536 ys ≤ dval 65536 xs) :
    Calls Try.prog 39 #[.agg #[.bool nx, .slice ao n capa], .agg #[.bool ny, .slice bo m capb]] w (RetRef w (x + y) n) := by
  have hle : m ≤ n := by have := dlen_le hy.lim hx.lim hy.top (by omega); rw [hx.sl.len, hy.sl.len] at this; exact this
  have HS : Hid (∀ w1, Below w.heap.size w w1 → Calls Try.prog 90 #[.slice ao n capa, .slice bo m capb] w1 (RetDigs w1 (dval 65536 xs - dval 65536 ys) n)) :=
    fun w1 hb => rminus_any w1 ao bo n m capa capb xs ys (hx.sl.below hb) (hy.sl.below hb) hx.lim hy.lim hn hle (by omega)
  obtain ⟨c, hc⟩ : ∃ c, cmpI (dval 65536 xs) (dval 65536 ys) = c := ⟨_, rfl⟩
  have hcn : 0 ≤ c := by rw [← hc]; unfold cmpI; split; omega; split <;> omega
  have hcd : decide (0 ≤ c) = true := decide_eq_true hcn
  have HX : Hid (sgn nx (dval 65536 xs - dval 65536 ys) = x + y) := by rw [hx.val, hy.val]; exact (sgn_add_ne hxy).2.symm
  have HC : Hid (∀ w1, Below w.heap.size w w1 → Calls Try.prog 89 #[.slice ao n capa, .slice bo m capb] w1 (RetQ w1 (.int .i64 c))) :=
    fun w1 hb => by have := rcompare_any w1 ao bo n m capa capb xs ys (hx.sl.below hb) (hy.sl.below hb) hx.lim hy.lim hx.top hy.top; rwa [hc] at this
  have hxb : (nx == ny) = false := by simp [hxy]
  clear hx hy hxy hc
  go_enter Try.func39, Try.ntmps39
  go_wp2_with fail
  refine (HC.out _ (ent3 _ _ _ _)).mono ?_
  rintro e w0 ⟨rfl, q, rfl⟩
  go_wp2_with fail
  go_region_held3 (fun w' => w'.cell? ⟨w.heap.size, 0, none⟩ = some (.bool nx) ∧ w'.cell? ⟨w.heap.size, 1, none⟩ = some (.slice ao n capa) ∧ w'.cell? ⟨w.heap.size + 1, 1, none⟩ = some (.slice bo m capb)) (((try dsimp only); (repeat' apply And.intro) <;> (first | (go_keep; done) | (go_split_ands; rw [World.cell?_setCell_far _ _ _ _ (by dsimp only; omega), World.cell?_setCell_far _ _ _ _ (by dsimp only; omega)]; assumption) | (go_split_ands; rw [hb1.cell (by go_size)]; assumption) | (go_split_ands; rw [hb3.cell (by go_size)]; assumption))))
    (first | (go_at_call 90; refine (HS.out _ ?_).mono ?_; (exact ent3N _ _ _ _ _); rintro e w1 ⟨ao1, n1, cap1, zs1, rfl, hown, hlim1, hval1, hn1, hb1⟩; have HV1 := Lib.hid hval1; clear hval1; obtain ⟨hz1, hr1, hb2⟩ := left3N hb1) | (go_at_call 72; refine (made_int _ _ _ _ _ _ hown.sl hlim1 rfl).mono ?_; rintro e w2 ⟨neg', ao', n', cap', zs', rfl, hint, hn', hb3⟩; have hr2 := (hb3.block _ (by omega)).trans hr1; obtain ⟨c0, c1, f0, f1⟩ := blk2 hr2; have HI := Lib.hid (hint.stored hr2 (.bool neg') (.slice ao' n' cap')); clear hint hr2 hr1))
  have hb4 : Below w.heap.size w w2 := hb2.trans (hb3.mono (by omega))
  go_wp2
  refine bodyPost_ret (v := .agg #[.bool neg', .slice ao' n' cap']) (by simp [results, Try.results39, go_sem, c0, c1]) rfl ?_
  exact fin_ref (by omega) hb4 HI.out (by rw [HV1.out, HX.out]) (Nat.le_trans hn' hn1)

theorem radd_any (w : World) (nx ny : Bool) (ao bo : Option Addr) (n m capa capb : Nat) (xs ys : List Int) (x y : Int) (hx : RefAt w nx ao n capa xs x) (hy : RefAt w ny bo m capb ys y) (hn : n ≤ 4294967296) (hm : m ≤ 4294967296) :
    Calls Try.prog 39 #[.agg #[.bool nx, .slice ao n capa], .agg #[.bool ny, .slice bo m capb]] w (RetRef w (x + y) (max n m + 1)) := by
  by_cases hxy : nx = ny
  · exact radd_eq w nx ny ao bo n m capa capb xs ys x y hx hy hn hm hxy
  · by_cases hlt : dval 65536 xs < dval 65536 ys
    · refine (radd_lt w nx ny ao bo n m capa capb xs ys x y hx hy hn hm hxy hlt).mono ?_
      rintro e w' ⟨neg, a, k, c, zs, h1, h2, h3, h4⟩
      exact ⟨neg, a, k, c, zs, h1, h2, by omega, h4⟩
    · refine (radd_ge w nx ny ao bo n m capa capb xs ys x y hx hy hn hm hxy (by omega)).mono ?_
      rintro e w' ⟨neg, a, k, c, zs, h1, h2, h3, h4⟩
      exact ⟨neg, a, k, c, zs, h1, h2, by omega, h4⟩
end Go.Proofs.Ytihfokdehcdgdaa
