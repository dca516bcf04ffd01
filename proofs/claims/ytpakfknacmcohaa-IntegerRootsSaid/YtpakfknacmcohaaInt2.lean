/- Contracts of the methods on integers: Add, Sub, Mul, Cmp, Sign. -/
import Derived.Test.YtpakfknacmcohaaInt1
import Derived.Test.YtpakfknacmcohaaNat3
namespace Go.Proofs.Ytpakfknacmcohaa
open Go.RowKit
set_option autoImplicit false
set_option linter.unusedVariables false

theorem heap_alloc3 (w : World) (o1 o2 o3 : Obj) : (((w.alloc o1).alloc o2).alloc o3).heap[w.heap.size + 1 + 1]? = some o3 := by
  have := heap_alloc_new ((w.alloc o1).alloc o2) o3; simpa using this

theorem fin_int {w w2 : World} {B : Nat} {neg : Bool} {ao : Option Addr} {n cap : Nat} {zs : List Int} {x0 x : Int} {L : Nat} (hB : w.heap.size ≤ B) (hb : Below w.heap.size w w2)
    (h : IntAt ((w2.setCell ⟨B, 0, none⟩ (.bool neg)).setCell ⟨B, 1, none⟩ (.slice ao n cap)) neg ao n cap zs x0) (hx : x0 = x) (hn : n ≤ L) :
    RetInt w x L (.returned (.agg #[.bool neg, .slice ao n cap])) ((w2.setCell ⟨B, 0, none⟩ (.bool neg)).setCell ⟨B, 1, none⟩ (.slice ao n cap)) :=
  ⟨_, _, _, _, _, rfl, hx ▸ h, hn, (hb.setCell (p := ⟨B, 0, none⟩) hB _).setCell (p := ⟨B, 1, none⟩) hB _⟩

theorem sgn_add {nx ny : Bool} {a b : Int} (h : nx = ny) : sgn nx a + sgn ny b = sgn nx (a + b) := by
  subst h; cases nx <;> simp [sgn]; omega
theorem sgn_add_ne {nx ny : Bool} {a b : Int} (h : nx ≠ ny) : sgn nx a + sgn ny b = sgn ny (b - a) ∧ sgn nx a + sgn ny b = sgn nx (a - b) := by
  cases nx <;> cases ny <;> simp [sgn] at * <;> omega
theorem sgn_mul (nx ny : Bool) (a b : Int) : sgn nx a * sgn ny b = sgn (!nx == ny) (a * b) := by
  cases nx <;> cases ny <;> simp [sgn, Int.mul_neg, Int.neg_mul]

set_option maxRecDepth 100000 in
theorem add_eq (w : World) (nx ny : Bool) (ao bo : Option Addr) (n m capa capb : Nat) (xs ys : List Int) (x y : Int) (hx : IntAt w nx ao n capa xs x) (hy : IntAt w ny bo m capb ys y) (hn : n ≤ 34359738368) (hm : m ≤ 34359738368) (hxy : nx = ny) :
    Calls Try.prog 38 #[.agg #[.bool nx, .slice ao n capa], .agg #[.bool ny, .slice bo m capb]] w (RetInt w (x + y) (max n m + 1)) := by
  have HS : Hid (∀ w1, Below w.heap.size w w1 → Calls Try.prog 86 #[.slice ao n capa, .slice bo m capb] w1 (RetNat w1 (val xs + val ys) (max n m + 1))) :=
    fun w1 hb => sum_any w1 ao bo n m capa capb xs ys (hx.sl.below hb) (hy.sl.below hb) hx.lim hy.lim hn hm
  have HX : Hid (sgn nx (val xs + val ys) = x + y) := by rw [hx.val, hy.val]; exact (sgn_add hxy).symm
  have hxb : (nx == ny) = true := by simp [hxy]
  clear hx hy hxy
  go_enter Try.func38, Try.ntmps38
  go_wp2_with fail
  go_region_held3 (fun w' => w'.cell? ⟨w.heap.size, 0, none⟩ = some (.bool nx) ∧ w'.cell? ⟨w.heap.size, 1, none⟩ = some (.slice ao n capa) ∧ w'.cell? ⟨w.heap.size + 1, 1, none⟩ = some (.slice bo m capb)) (((try dsimp only); (repeat' apply And.intro) <;> (first | (go_keep; done) | (go_split_ands; rw [World.cell?_setCell_far _ _ _ _ (by dsimp only; omega), World.cell?_setCell_far _ _ _ _ (by dsimp only; omega)]; assumption) | (go_split_ands; rw [hb1.cell (by go_size)]; assumption) | (go_split_ands; rw [hb3.cell (by go_size)]; assumption))))
    (first | (go_at_call 86; refine (HS.out _ ?_).mono ?_; (go_grown); rintro e w1 ⟨ao1, n1, cap1, zs1, rfl, hown, hlim1, htop1, hval1, hn1, hb1⟩; have HV1 := Lib.hid hval1; clear hval1; have hr1 := (hb1.block (w.heap.size + 1 + 1) (by go_size)).trans (heap_alloc3 _ _ _ _); have hz1 := hb1.size; simp only [World.drew, World.size_alloc] at hz1) | (go_at_call 70; refine (wrap_int _ _ _ _ _ _ hown.sl hlim1 rfl).mono ?_; rintro e w2 ⟨neg', ao', n', cap', zs', rfl, hint, hn', hb3⟩; have hr2 := (hb3.block _ (by omega)).trans hr1; obtain ⟨c0, c1, f0, f1⟩ := blk2 hr2; have HI := Lib.hid (hint.stored hr2 (.bool neg') (.slice ao' n' cap')); clear hint hr2 hr1))
  have hb4 : Below w.heap.size w w2 := (((((Below.refl _ _).alloc (Nat.le_refl _) _).alloc (by simp) _).alloc (by simp; omega) _).drew.trans (hb1.mono (by simp [World.drew]; omega))).trans (hb3.mono (by omega))
  go_wp2
  refine bodyPost_ret (v := .agg #[.bool neg', .slice ao' n' cap']) (by simp [results, Try.results38, go_sem, c0, c1]) rfl ?_
  exact fin_int (by omega) hb4 HI.out (by rw [HV1.out, HX.out]) (Nat.le_trans hn' hn1)

/-- The world behind three new blocks. -/
abbrev W3 (w : World) (a b c : Obj) : World := ((w.alloc a).alloc b).alloc c
theorem ent3 (w : World) (a b c : Obj) : Below w.heap.size w (W3 w a b c) := (((Below.refl _ _).alloc (Nat.le_refl _) _).alloc (by simp) _).alloc (by simp; omega) _
theorem ent3N (w : World) (a b c : Obj) (k : Nat) : Below w.heap.size w ((W3 w a b c).drewN k) := below_drewN (ent3 w a b c) k
theorem ent3D (w : World) (a b c : Obj) : Below w.heap.size w (W3 w a b c).drew := (ent3 w a b c).drew
/-- What a callee leaves of the three blocks that its caller has laid: the third one is as it was. -/
theorem left3 {w w1 : World} {a b c : Obj} (hb : Below (W3 w a b c).heap.size (W3 w a b c) w1) : w.heap.size + 1 + 1 + 1 ≤ w1.heap.size ∧ w1.heap[w.heap.size + 1 + 1]? = some c ∧ Below w.heap.size w w1 := by
  have hs : (W3 w a b c).heap.size = w.heap.size + 1 + 1 + 1 := by simp
  have hb' := hb.size
  refine ⟨by omega, ?_, (ent3 w a b c).trans (hb.mono (by omega))⟩
  rw [hb.block _ (by omega)]
  exact heap_alloc3 w a b c
theorem left3N {w w1 : World} {a b c : Obj} {k : Nat} (hb : Below ((W3 w a b c).drewN k).heap.size ((W3 w a b c).drewN k) w1) : w.heap.size + 1 + 1 + 1 ≤ w1.heap.size ∧ w1.heap[w.heap.size + 1 + 1]? = some c ∧ Below w.heap.size w w1 :=
  left3 (a := a) (b := b) (c := c) ⟨hb.os, hb.tape, hb.output, hb.size, hb.block⟩
theorem left3D {w w1 : World} {a b c : Obj} (hb : Below (W3 w a b c).drew.heap.size (W3 w a b c).drew w1) : w.heap.size + 1 + 1 + 1 ≤ w1.heap.size ∧ w1.heap[w.heap.size + 1 + 1]? = some c ∧ Below w.heap.size w w1 :=
  left3 (a := a) (b := b) (c := c) ⟨hb.os, hb.tape, hb.output, hb.size, hb.block⟩

set_option maxRecDepth 100000 in
theorem add_ne (w : World) (nx ny : Bool) (ao bo : Option Addr) (n m capa capb : Nat) (xs ys : List Int) (x y : Int) (hx : IntAt w nx ao n capa xs x) (hy : IntAt w ny bo m capb ys y) (hn : n ≤ 34359738368) (hm : m ≤ 34359738368) (hxy : nx ≠ ny) (hlt : val xs < val ys) :
    Calls Try.prog 38 #[.agg #[.bool nx, .slice ao n capa], .agg #[.bool ny, .slice bo m capb]] w (RetInt w (x + y) m) := by
  have hle : n ≤ m := by have := len_le_of_val hx.lim hy.lim hx.top (by omega); rw [hx.sl.len, hy.sl.len] at this; exact this
  have HS : Hid (∀ w1, Below w.heap.size w w1 → Calls Try.prog 87 #[.slice bo m capb, .slice ao n capa] w1 (RetNat w1 (val ys - val xs) m)) :=
    fun w1 hb => difference_any w1 bo ao m n capb capa ys xs (hy.sl.below hb) (hx.sl.below hb) hy.lim hx.lim hm hle (by omega)
  have HC : Hid (∀ w1, Below w.heap.size w w1 → Calls Try.prog 84 #[.slice ao n capa, .slice bo m capb] w1 (RetQ w1 (.int .i64 (-1)))) :=
    fun w1 hb => by have := compare_any w1 ao bo n m capa capb xs ys (hx.sl.below hb) (hy.sl.below hb) hx.lim hy.lim hx.top hy.top; rwa [cmpI_lt hlt] at this
  have HX : Hid (sgn ny (val ys - val xs) = x + y) := by rw [hx.val, hy.val]; exact (sgn_add_ne hxy).1.symm
  have hxb : (nx == ny) = false := by simp [hxy]
  clear hx hy hxy
  go_enter Try.func38, Try.ntmps38
  go_wp2_with fail
  refine (HC.out _ (ent3 _ _ _ _)).mono ?_
  rintro e w0 ⟨rfl, q, rfl⟩
  go_wp2_with fail
  go_region_held3 (fun w' => w'.cell? ⟨w.heap.size + 1, 0, none⟩ = some (.bool ny) ∧ w'.cell? ⟨w.heap.size, 1, none⟩ = some (.slice ao n capa) ∧ w'.cell? ⟨w.heap.size + 1, 1, none⟩ = some (.slice bo m capb)) (((try dsimp only); (repeat' apply And.intro) <;> (first | (go_keep; done) | (go_split_ands; rw [World.cell?_setCell_far _ _ _ _ (by dsimp only; omega), World.cell?_setCell_far _ _ _ _ (by dsimp only; omega)]; assumption) | (go_split_ands; rw [hb1.cell (by go_size)]; assumption) | (go_split_ands; rw [hb3.cell (by go_size)]; assumption))))
    (first | (go_at_call 87; refine (HS.out _ ?_).mono ?_; (exact ent3N _ _ _ _ _); rintro e w1 ⟨ao1, n1, cap1, zs1, rfl, hown, hlim1, htop1, hval1, hn1, hb1⟩; have HV1 := Lib.hid hval1; clear hval1; obtain ⟨hz1, hr1, hb2⟩ := left3N hb1) | (go_at_call 70; refine (wrap_int _ _ _ _ _ _ hown.sl hlim1 rfl).mono ?_; rintro e w2 ⟨neg', ao', n', cap', zs', rfl, hint, hn', hb3⟩; have hr2 := (hb3.block _ (by omega)).trans hr1; obtain ⟨c0, c1, f0, f1⟩ := blk2 hr2; have HI := Lib.hid (hint.stored hr2 (.bool neg') (.slice ao' n' cap')); clear hint hr2 hr1))
  have hb4 : Below w.heap.size w w2 := hb2.trans (hb3.mono (by omega))
  go_wp2
  refine bodyPost_ret (v := .agg #[.bool neg', .slice ao' n' cap']) (by simp [results, Try.results38, go_sem, c0, c1]) rfl ?_
  exact fin_int (by omega) hb4 HI.out (by rw [HV1.out, HX.out]) (Nat.le_trans hn' hn1)
set_option maxRecDepth 100000 in
theorem add_ge (w : World) (nx ny : Bool) (ao bo : Option Addr) (n m capa capb : Nat) (xs ys : List Int) (x y : Int) (hx : IntAt w nx ao n capa xs x) (hy : IntAt w ny bo m capb ys y) (hn : n ≤ 34359738368) (hm : m ≤ 34359738368) (hxy : nx ≠ ny) (hge : val ys ≤ val xs) :
    Calls Try.prog 38 #[.agg #[.bool nx, .slice ao n capa], .agg #[.bool ny, .slice bo m capb]] w (RetInt w (x + y) n) := by
  have hle : m ≤ n := by have := len_le_of_val hy.lim hx.lim hy.top hge; rw [hx.sl.len, hy.sl.len] at this; exact this
  have HS : Hid (∀ w1, Below w.heap.size w w1 → Calls Try.prog 87 #[.slice ao n capa, .slice bo m capb] w1 (RetNat w1 (val xs - val ys) n)) :=
    fun w1 hb => difference_any w1 ao bo n m capa capb xs ys (hx.sl.below hb) (hy.sl.below hb) hx.lim hy.lim hn hle hge
  have HC : Hid (∀ w1, Below w.heap.size w w1 → Calls Try.prog 84 #[.slice ao n capa, .slice bo m capb] w1 (RetQ w1 (.int .i64 (cmpI (val xs) (val ys))))) :=
    fun w1 hb => compare_any w1 ao bo n m capa capb xs ys (hx.sl.below hb) (hy.sl.below hb) hx.lim hy.lim hx.top hy.top
  have hcn : 0 ≤ cmpI (val xs) (val ys) := by unfold cmpI; rw [if_neg (by omega)]; split <;> omega
  generalize cmpI (val xs) (val ys) = cc at hcn HC
  have HX : Hid (sgn nx (val xs - val ys) = x + y) := by rw [hx.val, hy.val]; exact (sgn_add_ne hxy).2.symm
  have hxb : (nx == ny) = false := by simp [hxy]
  clear hx hy hxy
  go_enter Try.func38, Try.ntmps38
  go_wp2_with fail
  refine (HC.out _ (ent3 _ _ _ _)).mono ?_
  rintro e w0 ⟨rfl, q, rfl⟩
  go_wp2_with fail
  go_region_held3 (fun w' => w'.cell? ⟨w.heap.size, 0, none⟩ = some (.bool nx) ∧ w'.cell? ⟨w.heap.size, 1, none⟩ = some (.slice ao n capa) ∧ w'.cell? ⟨w.heap.size + 1, 1, none⟩ = some (.slice bo m capb)) (((try dsimp only); (repeat' apply And.intro) <;> (first | (go_keep; done) | (go_split_ands; rw [World.cell?_setCell_far _ _ _ _ (by dsimp only; omega), World.cell?_setCell_far _ _ _ _ (by dsimp only; omega)]; assumption) | (go_split_ands; rw [hb1.cell (by go_size)]; assumption) | (go_split_ands; rw [hb3.cell (by go_size)]; assumption))))
    (first | (go_at_call 87; refine (HS.out _ ?_).mono ?_; (exact ent3N _ _ _ _ _); rintro e w1 ⟨ao1, n1, cap1, zs1, rfl, hown, hlim1, htop1, hval1, hn1, hb1⟩; have HV1 := Lib.hid hval1; clear hval1; obtain ⟨hz1, hr1, hb2⟩ := left3N hb1) | (go_at_call 70; refine (wrap_int _ _ _ _ _ _ hown.sl hlim1 rfl).mono ?_; rintro e w2 ⟨neg', ao', n', cap', zs', rfl, hint, hn', hb3⟩; have hr2 := (hb3.block _ (by omega)).trans hr1; obtain ⟨c0, c1, f0, f1⟩ := blk2 hr2; have HI := Lib.hid (hint.stored hr2 (.bool neg') (.slice ao' n' cap')); clear hint hr2 hr1))
  have hb4 : Below w.heap.size w w2 := hb2.trans (hb3.mono (by omega))
  go_wp2
  refine bodyPost_ret (v := .agg #[.bool neg', .slice ao' n' cap']) (by simp [results, Try.results38, go_sem, c0, c1]) rfl ?_
  exact fin_int (by omega) hb4 HI.out (by rw [HV1.out, HX.out]) (Nat.le_trans hn' hn1)

set_option maxRecDepth 100000 in
theorem mul_int (w : World) (nx ny : Bool) (ao bo : Option Addr) (n m capa capb : Nat) (xs ys : List Int) (x y : Int) (hx : IntAt w nx ao n capa xs x) (hy : IntAt w ny bo m capb ys y) (hn : n ≤ 34359738368) (hm : m ≤ 34359738368) :
    Calls Try.prog 42 #[.agg #[.bool nx, .slice ao n capa], .agg #[.bool ny, .slice bo m capb]] w (RetInt w (x * y) (n + m)) := by
  have HS : Hid (∀ w1, Below w.heap.size w w1 → Calls Try.prog 91 #[.slice ao n capa, .slice bo m capb] w1 (RetNat w1 (val xs * val ys) (n + m))) :=
    fun w1 hb => product_any w1 ao bo n m capa capb xs ys (hx.sl.below hb) (hy.sl.below hb) hx.lim hy.lim hn hm
  have HX : Hid (sgn (!nx == ny) (val xs * val ys) = x * y) := by rw [hx.val, hy.val]; exact (sgn_mul nx ny _ _).symm
  clear hx hy
  go_enter Try.func42, Try.ntmps42
  go_wp2_with fail
  go_region_held3 (fun w' => w'.cell? ⟨w.heap.size, 0, none⟩ = some (.bool nx) ∧ w'.cell? ⟨w.heap.size + 1, 0, none⟩ = some (.bool ny) ∧ w'.cell? ⟨w.heap.size, 1, none⟩ = some (.slice ao n capa) ∧ w'.cell? ⟨w.heap.size + 1, 1, none⟩ = some (.slice bo m capb)) (((try dsimp only); (repeat' apply And.intro) <;> (first | (go_keep; done) | (go_split_ands; rw [World.cell?_setCell_far _ _ _ _ (by dsimp only; omega), World.cell?_setCell_far _ _ _ _ (by dsimp only; omega)]; assumption) | (go_split_ands; rw [hb1.cell (by go_size)]; assumption) | (go_split_ands; rw [hb3.cell (by go_size)]; assumption))))
    (first | (go_at_call 91; refine (HS.out _ ?_).mono ?_; (exact ent3D _ _ _ _); rintro e w1 ⟨ao1, n1, cap1, zs1, rfl, hown, hlim1, htop1, hval1, hn1, hb1⟩; have HV1 := Lib.hid hval1; clear hval1; obtain ⟨hz1, hr1, hb2⟩ := left3D hb1) | (go_at_call 70; refine (wrap_int _ _ _ _ _ _ hown.sl hlim1 rfl).mono ?_; rintro e w2 ⟨neg', ao', n', cap', zs', rfl, hint, hn', hb3⟩; have hr2 := (hb3.block _ (by omega)).trans hr1; obtain ⟨c0, c1, f0, f1⟩ := blk2 hr2; have HI := Lib.hid (hint.stored hr2 (.bool neg') (.slice ao' n' cap')); clear hint hr2 hr1))
  have hb4 : Below w.heap.size w w2 := hb2.trans (hb3.mono (by omega))
  go_wp2
  refine bodyPost_ret (v := .agg #[.bool neg', .slice ao' n' cap']) (by simp [results, Try.results42, go_sem, c0, c1]) rfl ?_
  exact fin_int (by omega) hb4 HI.out (by rw [HV1.out, HX.out]) (Nat.le_trans hn' hn1)

theorem add_int (w : World) (nx ny : Bool) (ao bo : Option Addr) (n m capa capb : Nat) (xs ys : List Int) (x y : Int) (hx : IntAt w nx ao n capa xs x) (hy : IntAt w ny bo m capb ys y) (hn : n ≤ 34359738368) (hm : m ≤ 34359738368) :
    Calls Try.prog 38 #[.agg #[.bool nx, .slice ao n capa], .agg #[.bool ny, .slice bo m capb]] w (RetInt w (x + y) (max n m + 1)) := by
  have up : ∀ L, L ≤ max n m + 1 → Calls Try.prog 38 #[.agg #[.bool nx, .slice ao n capa], .agg #[.bool ny, .slice bo m capb]] w (RetInt w (x + y) L) →
      Calls Try.prog 38 #[.agg #[.bool nx, .slice ao n capa], .agg #[.bool ny, .slice bo m capb]] w (RetInt w (x + y) (max n m + 1)) := by
    intro L hL h
    refine h.mono ?_
    rintro e w' ⟨a, b, c, d, f, h1, h2, h3, h4⟩
    exact ⟨a, b, c, d, f, h1, h2, Nat.le_trans h3 hL, h4⟩
  by_cases hxy : nx = ny
  · exact add_eq w nx ny ao bo n m capa capb xs ys x y hx hy hn hm hxy
  · by_cases hlt : val xs < val ys
    · exact up m (by omega) (add_ne w nx ny ao bo n m capa capb xs ys x y hx hy hn hm hxy hlt)
    · exact up n (by omega) (add_ge w nx ny ao bo n m capa capb xs ys x y hx hy hn hm hxy (by omega))

set_option maxRecDepth 100000 in
theorem sub_int (w : World) (nx ny : Bool) (ao bo : Option Addr) (n m capa capb : Nat) (xs ys : List Int) (x y : Int) (hx : IntAt w nx ao n capa xs x) (hy : IntAt w ny bo m capb ys y) (hn : n ≤ 34359738368) (hm : m ≤ 34359738368) :
    Calls Try.prog 40 #[.agg #[.bool nx, .slice ao n capa], .agg #[.bool ny, .slice bo m capb]] w (RetInt w (x - y) (max n m + 1)) := by
  have HN : Hid (∀ w1, Below w.heap.size w w1 → Calls Try.prog 34 #[.agg #[.bool ny, .slice bo m capb]] w1 (RetInt w1 (-y) m)) :=
    fun w1 hb => neg_int w1 ny bo m capb ys y (hy.below hb) hm
  have HA : Hid (∀ w1, Below w.heap.size w w1 → ∀ nz co k capc zs z, IntAt w1 nz co k capc zs z → k ≤ m → Calls Try.prog 38 #[.agg #[.bool nx, .slice ao n capa], .agg #[.bool nz, .slice co k capc]] w1 (RetInt w1 (x + z) (max n k + 1))) :=
    fun w1 hb nz co k capc zs z hz hk => add_int w1 nx nz ao co n k capa capc xs zs x z (hx.below hb) hz hn (by omega)
  clear hx hy
  go_enter Try.func40, Try.ntmps40
  go_wp2_with fail
  go_region_held3 (fun w' => w'.cell? ⟨w.heap.size, 0, none⟩ = some (.bool nx) ∧ w'.cell? ⟨w.heap.size + 1, 0, none⟩ = some (.bool ny) ∧ w'.cell? ⟨w.heap.size, 1, none⟩ = some (.slice ao n capa) ∧ w'.cell? ⟨w.heap.size + 1, 1, none⟩ = some (.slice bo m capb)) (((try dsimp only); (repeat' apply And.intro) <;> (first | (go_keep; done) | (go_split_ands; rw [World.cell?_setCell_far _ _ _ _ (by dsimp only; omega), World.cell?_setCell_far _ _ _ _ (by dsimp only; omega)]; assumption) | (go_split_ands; rw [hb1.cell (by go_size)]; assumption) | (go_split_ands; rw [hb3.cell (by go_size)]; assumption))))
    (first | (go_at_call 34; refine (HN.out _ ?_).mono ?_; (exact ent3D _ _ _ _); rintro e w1 ⟨neg1, ao1, n1, cap1, zs1, rfl, hint1, hn1, hb1⟩; have HI1 := Lib.hid hint1; clear hint1; obtain ⟨hz1, hr1, hb2⟩ := left3D hb1) | (go_at_call 38; refine (HA.out _ hb2 _ _ _ _ _ _ HI1.out hn1).mono ?_; rintro e w2 ⟨neg', ao', n', cap', zs', rfl, hint, hn', hb3⟩; have hr2 := (hb3.block _ (by omega)).trans hr1; obtain ⟨c0, c1, f0, f1⟩ := blk2 hr2; have HI := Lib.hid (hint.stored hr2 (.bool neg') (.slice ao' n' cap')); clear hint hr2 hr1))
  have hb4 : Below w.heap.size w w2 := hb2.trans (hb3.mono (by omega))
  go_wp2
  refine bodyPost_ret (v := .agg #[.bool neg', .slice ao' n' cap']) (by simp [results, Try.results40, go_sem, c0, c1]) rfl ?_
  exact fin_int (by omega) hb4 HI.out (by omega) (by omega)

theorem RetQ.below {w w' : World} {v : Value} {e : Ending} (h : RetQ w v e w') : Below w.heap.size w w' := by
  obtain ⟨_, q, rfl⟩ := h
  exact below_drewN (Below.refl _ _) q

/-- A number was returned; what there was is as it was. -/
def RetV (w : World) (v : Value) (e : Ending) (w' : World) : Prop := e = .returned v ∧ Below w.heap.size w w'

theorem sign_int (w : World) (nx : Bool) (ao : Option Addr) (n capa : Nat) (xs : List Int) (x : Int) (hx : IntAt w nx ao n capa xs x) :
    Calls Try.prog 22 #[.agg #[.bool nx, .slice ao n capa]] w (RetV w (.int .i64 (cmpI x 0))) := by
  have hlen := hx.sl.len
  have h0 := val_nonneg hx.lim
  by_cases hn : n = 0
  · have hxs : xs = [] := List.eq_nil_of_length_eq_zero (by omega)
    have hx0 : cmpI x 0 = 0 := by rw [hx.val, hxs]; cases nx <;> simp [sgn, val, cmpI]
    rw [hx0]
    subst hn
    clear hlen h0 hx hxs hx0
    go_enter Try.func22, Try.ntmps22
    go_wp2
    go_ret
    exact ⟨rfl, by go_grown⟩
  · have hne : xs ≠ [] := by intro h; rw [h] at hlen; simp at hlen; omega
    have hpos := val_pos_of_top hx.lim hx.top hne
    have hp := pow_pos (xs.length - 1)
    have hne0 : ((n : Int) == 0) = false := by simp; omega
    cases nx
    · have hx0 : cmpI x 0 = 1 := cmpI_gt (by rw [hx.val]; simp [sgn]; omega)
      rw [hx0]
      clear hlen h0 hx hne hpos hp hx0
      go_enter Try.func22, Try.ntmps22
      go_wp2
      go_ret
      exact ⟨rfl, by go_grown⟩
    · have hx0 : cmpI x 0 = -1 := cmpI_lt (by rw [hx.val]; simp [sgn]; omega)
      rw [hx0]
      clear hlen h0 hx hne hpos hp hx0
      go_enter Try.func22, Try.ntmps22
      go_wp2
      go_ret
      exact ⟨rfl, by go_grown⟩

theorem cmp_int (w : World) (nx ny : Bool) (ao bo : Option Addr) (n m capa capb : Nat) (xs ys : List Int) (x y : Int) (hx : IntAt w nx ao n capa xs x) (hy : IntAt w ny bo m capb ys y) :
    Calls Try.prog 32 #[.agg #[.bool nx, .slice ao n capa], .agg #[.bool ny, .slice bo m capb]] w (RetV w (.int .i64 (cmpI x y))) := by
  have HC : Hid (∀ w1, Below w.heap.size w w1 → Calls Try.prog 84 #[.slice ao n capa, .slice bo m capb] w1 (RetQ w1 (.int .i64 (cmpI (val xs) (val ys))))) :=
    fun w1 hb => compare_any w1 ao bo n m capa capb xs ys (hx.sl.below hb) (hy.sl.below hb) hx.lim hy.lim hx.top hy.top
  have HD : Hid (∀ w1, Below w.heap.size w w1 → Calls Try.prog 84 #[.slice bo m capb, .slice ao n capa] w1 (RetQ w1 (.int .i64 (cmpI (val ys) (val xs))))) :=
    fun w1 hb => compare_any w1 bo ao m n capb capa ys xs (hy.sl.below hb) (hx.sl.below hb) hy.lim hx.lim hy.top hx.top
  have hvx := val_nonneg hx.lim
  have hvy := val_nonneg hy.lim
  have posx : nx = true → 0 < val xs := fun h => by have := val_pos_of_top hx.lim hx.top (hx.sign h); have := pow_pos (xs.length - 1); omega
  have posy : ny = true → 0 < val ys := fun h => by have := val_pos_of_top hy.lim hy.top (hy.sign h); have := pow_pos (ys.length - 1); omega
  have ex := hx.val
  have ey := hy.val
  clear hx hy
  cases nx <;> cases ny
  · have e : cmpI x y = cmpI (val xs) (val ys) := by rw [ex, ey]; rfl
    rw [e]
    clear posx posy ex ey e
    go_enter Try.func32, Try.ntmps32
    go_wp2_with fail
    refine (HC.out _ (by go_grown)).mono ?_
    rintro e w0 ⟨rfl, q, rfl⟩
    go_wp2
    go_ret
    exact ⟨rfl, below_drewN (by go_grown) q⟩
  · have e : cmpI x y = 1 := cmpI_gt (by have := posy rfl; simp [sgn] at ex ey; omega)
    rw [e]
    clear posx posy ex ey e
    go_enter Try.func32, Try.ntmps32
    go_wp2_with fail
    go_ret
    exact ⟨rfl, by go_grown⟩
  · have e : cmpI x y = -1 := cmpI_lt (by have := posx rfl; simp [sgn] at ex ey; omega)
    rw [e]
    clear posx posy ex ey e
    go_enter Try.func32, Try.ntmps32
    go_wp2_with fail
    go_ret
    exact ⟨rfl, by go_grown⟩
  · have e : cmpI x y = cmpI (val ys) (val xs) := by rw [ex, ey]; simp [sgn, cmpI]
    rw [e]
    clear posx posy ex ey e
    go_enter Try.func32, Try.ntmps32
    go_wp2_with fail
    refine (HD.out _ (by go_grown)).mono ?_
    rintro e w0 ⟨rfl, q, rfl⟩
    go_wp2
    go_ret
    exact ⟨rfl, below_drewN (by go_grown) q⟩

theorem same_int (w : World) (nx ny : Bool) (ao bo : Option Addr) (n m capa capb : Nat) (xs ys : List Int) (x y : Int) (hx : IntAt w nx ao n capa xs x) (hy : IntAt w ny bo m capb ys y) :
    Calls Try.prog 65 #[.agg #[.bool nx, .slice ao n capa], .agg #[.bool ny, .slice bo m capb]] w (RetV w (.bool (decide (x = y)))) := by
  have HC : Hid (∀ w1, Below w.heap.size w w1 → Calls Try.prog 32 #[.agg #[.bool nx, .slice ao n capa], .agg #[.bool ny, .slice bo m capb]] w1 (RetV w1 (.int .i64 (cmpI x y)))) :=
    fun w1 hb => cmp_int w1 nx ny ao bo n m capa capb xs ys x y (hx.below hb) (hy.below hb)
  have hq : (cmpI x y == 0) = decide (x = y) := by
    unfold cmpI
    by_cases h1 : x < y
    · rw [if_pos h1]; simp; omega
    · rw [if_neg h1]
      by_cases h2 : y < x
      · rw [if_pos h2]; simp; omega
      · rw [if_neg h2]; simp; omega
  generalize cmpI x y = c at HC hq
  have HQ := Lib.hid hq
  clear hx hy hq
  go_enter Try.func65, Try.ntmps65
  go_wp2_with fail
  refine (HC.out _ (by go_grown)).mono ?_
  rintro e w1 ⟨rfl, hb1⟩
  go_wp2
  go_ret
  exact ⟨by rw [← HQ.out]; rfl, (Below.trans (by go_grown) (hb1.mono (by go_size)))⟩
end Go.Proofs.Ytpakfknacmcohaa
