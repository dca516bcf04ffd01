/- Contracts of divide where the dividend is below the divisor, or the divisor has one limb; New. -/
import Derived.Test.YtpakfknacmcohaaNat4
import Derived.Test.YtpakfknacmcohaaInt2
namespace Go.Proofs.Ytpakfknacmcohaa
open Go.RowKit
set_option autoImplicit false
set_option linter.unusedVariables false

/-- Quotient and remainder were returned, each in limbs of the call's own. -/
def RetDiv (w : World) (q r : Int) (L M : Nat) (e : Ending) (w' : World) : Prop :=
  ∃ a1 n1 c1 z1 a2 n2 c2 z2, e = .returned (.tuple #[.slice a1 n1 c1, .slice a2 n2 c2]) ∧ Own w.heap.size w' a1 n1 c1 z1 ∧ Lim z1 ∧ Top z1 ∧ val z1 = q ∧ n1 ≤ L ∧
    Own w.heap.size w' a2 n2 c2 z2 ∧ Lim z2 ∧ Top z2 ∧ val z2 = r ∧ n2 ≤ M ∧ Below w.heap.size w w'

theorem Sl.drew {w : World} {ao : Option Addr} {n cap : Nat} {zs : List Int} (h : Sl w ao n cap zs) : Sl w.drew ao n cap zs := h.below (Below.refl _ _).drew

theorem Own.nil (B : Nat) (w : World) : Own B w none 0 0 [] := World.ownsRow_nil w B 99 1
theorem Own.mono {B B' : Nat} {w : World} {ao : Option Addr} {n cap : Nat} {zs : List Int} (h : Own B w ao n cap zs) (hB : B' ≤ B) : Own B' w ao n cap zs := by
  refine ⟨h.1, ?_⟩
  rcases h.2 with h2 | ⟨g, c, cur, hv, hb, r⟩
  · exact .inl h2
  · exact .inr ⟨g, c, cur, hv, by omega, r⟩
/-- What is owned stays owned while nothing below the heap's end is written. -/
theorem Own.kept {B : Nat} {w w' : World} {ao : Option Addr} {n cap : Nat} {zs : List Int} (h : Own B w ao n cap zs) (hb : Below w.heap.size w w') : Own B w' ao n cap zs := by
  refine ⟨h.1, ?_⟩
  rcases h.2 with h2 | ⟨g, c, cur, hv, hbg, hg, r⟩
  · exact .inl h2
  · refine .inr ⟨g, c, cur, hv, hbg, ?_, r⟩
    rw [hb.block g (Array.getElem?_eq_some_iff.1 hg).1]
    exact hg

theorem divide_lt (w : World) (ao bo : Option Addr) (n m capa capb : Nat) (xs ys : List Int) (hx : Sl w ao n capa xs) (hy : Sl w bo m capb ys) (lx : Lim xs) (ly : Lim ys) (tx : Top xs) (ty : Top ys) (hn : n ≤ 34359738368) (hlt : val xs < val ys) :
    Calls Try.prog 82 #[.slice ao n capa, .slice bo m capb] w (RetDiv w (val xs / val ys) (val xs % val ys) 0 n) := by
  have h0 := val_nonneg lx
  have eq : val xs / val ys = 0 := Int.ediv_eq_zero_of_lt h0 hlt
  have er : val xs % val ys = val xs := Int.emod_eq_of_lt h0 hlt
  rw [eq, er]
  have HC : Hid (Calls Try.prog 84 #[.slice ao n capa, .slice bo m capb] w (RetQ w (.int .i64 (-1)))) := by
    have := compare_any w ao bo n m capa capb xs ys hx hy lx ly tx ty
    rwa [cmpI_lt hlt] at this
  have HK : Hid (∀ w1, Below w.heap.size w w1 → _) := fun w1 hb => clone_any w1 ao n capa xs (hx.below hb) hn
  clear hx hy eq er h0 hlt
  go_enter Try.func82, Try.ntmps82
  go_wp2_with fail
  refine HC.out.mono ?_
  rintro e w0 ⟨rfl, q, rfl⟩
  go_wp2_with fail
  refine (HK.out _ (below_drewN (Below.refl _ _) q)).mono ?_
  rintro e w1 ⟨a2, c2, rfl, hown, hb⟩
  have HO := Lib.hid hown
  clear hown
  go_wp2
  go_ret2
  exact ⟨none, 0, 0, [], a2, n, c2, xs, rfl, Own.nil _ _, Lim_nil, .inl rfl, rfl, Nat.le_refl _, HO.out, lx, tx, rfl, Nat.le_refl _, (below_drewN (Below.refl _ _) q).trans hb⟩

set_option maxRecDepth 100000 in
theorem divide_one (w : World) (ao bo : Option Addr) (n capa capb : Nat) (xs : List Int) (d : Int) (hx : Sl w ao n capa xs) (hy : Sl w bo 1 capb [d]) (lx : Lim xs) (ly : Lim [d]) (tx : Top xs) (ty : Top [d]) (hn : n ≤ 34359738368) (hge : val [d] ≤ val xs) :
    Calls Try.prog 82 #[.slice ao n capa, .slice bo 1 capb] w (RetDiv w (val xs / val [d]) (val xs % val [d]) n 2) := by
  have hld := ly d (by simp)
  have hd1 : d ≤ 4294967295 := hld.2
  have hd0 : 0 < d := by
    rcases ty with h | h
    · simp at h
    · simp [List.getD] at h; omega
  have ed : val [d] = d := by simp [val]
  rw [ed] at hge ⊢
  obtain ⟨bb, ob, rfl, hcb⟩ := hy.cells.at (k := 0) (by simp)
  have hcn : 0 ≤ cmpI (val xs) d := by unfold cmpI; rw [if_neg (by omega)]; split <;> omega
  have HC : Hid (Calls Try.prog 84 #[.slice ao n capa, .slice (some ⟨bb, ob, none⟩) 1 capb] w (RetQ w (.int .i64 (cmpI (val xs) d)))) := by
    have := compare_any w ao _ n 1 capa capb xs [d] hx hy lx ly tx ty
    rwa [ed] at this
  generalize cmpI (val xs) d = cc at hcn HC
  have HK : Hid (∀ w1, Below w.heap.size w w1 → _) := fun w1 hb => clone_any w1 ao n capa xs (hx.below hb) hn
  have hcb' : w.cell? ⟨bb, ob, none⟩ = some (.int .u32 d) := by simpa [List.getD] using hcb
  have hlt := World.block_lt_of_cell? w _ hcb'
  clear hx hy hge hcb ty ed
  go_enter Try.func82, Try.ntmps82
  go_wp2_with fail
  refine HC.out.mono ?_
  rintro e w0 ⟨rfl, q, rfl⟩
  go_wp2_with fail
  go_region_held3 (fun w' => w'.cell? ⟨bb, ob, none⟩ = some (.int .u32 d)) (((try dsimp only); (first | (go_keep; done) | (go_split_ands; rw [hb1.cell (by go_size)]; assumption) | (go_split_ands; rw [hb3.cell (by go_size)]; assumption))))
    (first | (go_at_call 85; refine (HK.out _ ?_).mono ?_; (exact (below_drewN (Below.refl _ _) _)); rintro e w1 ⟨ao1, c1, rfl, hown, hb1⟩) | (go_at_call 120; refine (divideSmall_any _ _ _ _ _ _ _ hown lx hd0 hd1).mono ?_; rintro e w2 ⟨n2, z2, rfl, hown2, hl2, ht2, hv2, hn2, -, hb3⟩; have HO2 := Lib.hid hown2; have HV2 := Lib.hid hv2; clear hown2 hv2 hown))
  have hr0 : 0 ≤ val xs % d := Int.emod_nonneg _ (by omega)
  have hr1 : val xs % d < d := Int.emod_lt_of_pos _ hd0
  have HR : Hid (∃ r, r = val xs % d) := ⟨_, rfl⟩
  obtain ⟨r, hr⟩ := HR.out
  rw [← hr] at hr0 hr1 ⊢
  have HRR := Lib.hid hr
  clear hr HR
  have hbw1 : Below w.heap.size w w1 := (below_drewN (Below.refl _ _) (q + 1)).trans hb1
  have hbw2 : Below w.heap.size w w2 := hbw1.trans hb3
  go_wp2_with fail
  refine (split_any w2 r hr0 (by omega)).mono ?_
  rintro e w3 ⟨a3, n3, c3, z3, rfl, hown3, hl3, ht3, hv3, hn3, hb4⟩
  have HO3 := Lib.hid hown3
  have HV3 := Lib.hid hv3
  clear hown3 hv3
  go_wp2
  go_ret2
  have hs2 : w.heap.size ≤ w2.heap.size := hbw2.size
  exact ⟨_, _, _, z2, _, _, _, z3, rfl, (HO2.out.kept hb4), hl2, ht2, HV2.out, hn2, HO3.out.mono hs2, hl3, ht3, (HV3.out.trans HRR.out), hn3, hbw2.trans (hb4.mono hs2)⟩

/-- What a callee leaves of the one block that its caller has laid. -/
theorem left1 {w w1 : World} {a : Obj} (hb : Below (w.alloc a).heap.size (w.alloc a) w1) : w.heap.size + 1 ≤ w1.heap.size ∧ w1.heap[w.heap.size]? = some a ∧ Below w.heap.size w w1 := by
  have hs : (w.alloc a).heap.size = w.heap.size + 1 := by simp
  have hb' := hb.size
  refine ⟨by omega, ?_, ((Below.refl _ _).alloc (Nat.le_refl _) _).trans (hb.mono (by omega))⟩
  rw [hb.block _ (by omega)]
  exact heap_alloc_new w a

theorem sgn_abs (x : Int) : sgn (decide (x < 0)) x.natAbs = x := by
  by_cases h : x < 0 <;> simp [sgn, h] <;> omega

theorem new_int (w : World) (x : Int) (h0 : -9223372036854775808 ≤ x) (h1 : x ≤ 9223372036854775807) : Calls Try.prog 17 #[.int .i64 x] w (RetInt w x 2) := by
  obtain ⟨u, hu⟩ : ∃ u : Int, u = x.natAbs := ⟨_, rfl⟩
  have hs := sgn_abs x
  rw [← hu] at hs
  have hu0 : 0 ≤ u := by omega
  have hu1 : u ≤ 9223372036854775808 := by omega
  have HS := Lib.hid hs
  clear hs
  by_cases hx : x < 0
  rotate_left
  · have e2 : IntKind.u64.wrap x = u := by rw [IntKind.wrap_u64]; omega
    clear hu
    go_enter Try.func17, Try.ntmps17
    go_wp2_with fail
    refine (split_any _ u hu0 (by omega)).mono ?_
    rintro e w1 ⟨a1, n1, c1, z1, rfl, hown, hl1, ht1, hv1, hn1, hb1⟩
    obtain ⟨hz1, hr1, hb2⟩ := left1 hb1
    have HO := Lib.hid hown
    have HV := Lib.hid hv1
    have HR := Lib.hid hr1
    clear hown hv1 hr1
    go_wp2_with fail
    refine (wrap_int w1 _ _ _ _ _ HO.out.sl hl1 rfl).mono ?_
    rintro e w2 ⟨neg', ao', n', cap', zs', rfl, hint, hn', hb3⟩
    have hr2 := (hb3.block _ (by omega)).trans HR.out
    obtain ⟨c0, c1, f0, f1⟩ := blk2 hr2
    have HI := Lib.hid (hint.stored hr2 (.bool neg') (.slice ao' n' cap'))
    clear hint hr2
    have hb4 : Below w.heap.size w w2 := hb2.trans (hb3.mono (by omega))
    go_wp2
    refine bodyPost_ret (v := .agg #[.bool neg', .slice ao' n' cap']) (by simp [results, Try.results17, go_sem, c0, c1]) rfl ?_
    exact fin_int (Nat.le_refl _) hb4 HI.out (by have := HS.out; rw [HV.out]; simpa [hx, show ¬ x < 0 by omega] using this) (Nat.le_trans hn' hn1)
  · have e2 : IntKind.u64.wrap (- IntKind.u64.wrap x) = u := by rw [IntKind.wrap_u64, IntKind.wrap_u64]; omega
    clear hu
    go_enter Try.func17, Try.ntmps17
    go_wp2_with fail
    refine (split_any _ u hu0 (by omega)).mono ?_
    rintro e w1 ⟨a1, n1, c1, z1, rfl, hown, hl1, ht1, hv1, hn1, hb1⟩
    obtain ⟨hz1, hr1, hb2⟩ := left1 hb1
    have HO := Lib.hid hown
    have HV := Lib.hid hv1
    have HR := Lib.hid hr1
    clear hown hv1 hr1
    go_wp2_with fail
    refine (wrap_int w1 _ _ _ _ _ HO.out.sl hl1 rfl).mono ?_
    rintro e w2 ⟨neg', ao', n', cap', zs', rfl, hint, hn', hb3⟩
    have hr2 := (hb3.block _ (by omega)).trans HR.out
    obtain ⟨c0, c1, f0, f1⟩ := blk2 hr2
    have HI := Lib.hid (hint.stored hr2 (.bool neg') (.slice ao' n' cap'))
    clear hint hr2
    have hb4 : Below w.heap.size w w2 := hb2.trans (hb3.mono (by omega))
    go_wp2
    refine bodyPost_ret (v := .agg #[.bool neg', .slice ao' n' cap']) (by simp [results, Try.results17, go_sem, c0, c1]) rfl ?_
    exact fin_int (Nat.le_refl _) hb4 HI.out (by have := HS.out; rw [HV.out]; simpa [hx] using this) (Nat.le_trans hn' hn1)

/-- Quotient and remainder of integers, cut towards 0. -/
def RetQR (w : World) (q r : Int) (L M : Nat) (e : Ending) (w' : World) : Prop :=
  ∃ s1 a1 n1 c1 z1 s2 a2 n2 c2 z2, e = .returned (.tuple #[.agg #[.bool s1, .slice a1 n1 c1], .agg #[.bool s2, .slice a2 n2 c2], .int .i64 0]) ∧
    IntAt w' s1 a1 n1 c1 z1 q ∧ n1 ≤ L ∧ IntAt w' s2 a2 n2 c2 z2 r ∧ n2 ≤ M ∧ Below w.heap.size w w'

theorem heap_alloc4 (w : World) (o1 o2 o3 o4 : Obj) : ((((w.alloc o1).alloc o2).alloc o3).alloc o4).heap[w.heap.size + 1 + 1 + 1]? = some o4 := by
  have := heap_alloc_new (((w.alloc o1).alloc o2).alloc o3) o4; simpa using this

theorem tdiv_sgn (nx ny : Bool) (a b : Int) (ha : 0 ≤ a) (hb : 0 ≤ b) : (sgn nx a).tdiv (sgn ny b) = sgn (!nx == ny) (a / b) ∧ (sgn nx a).tmod (sgn ny b) = sgn nx (a % b) := by
  have e1 : a.tdiv b = a / b := Int.tdiv_eq_ediv_of_nonneg ha
  have e2 : a.tmod b = a % b := Int.tmod_eq_emod_of_nonneg ha
  cases nx <;> cases ny <;> simp [sgn, e1, e2, Int.neg_tdiv, Int.tdiv_neg, Int.neg_tmod, Int.tmod_neg]

/-- Four new blocks of two cells each. -/
def Four (N : Nat) (w : World) (a b c d : Array Value) : Prop :=
  w.heap[N]? = some (.cells a 28 (0, 0)) ∧ w.heap[N + 1]? = some (.cells b 28 (0, 0)) ∧ w.heap[N + 1 + 1]? = some (.cells c 28 (0, 0)) ∧ w.heap[N + 1 + 1 + 1]? = some (.cells d 28 (0, 0))
theorem Four.below {N : Nat} {w w' : World} {a b c d : Array Value} (h : Four N w a b c d) (hb : Below w.heap.size w w') (hN : N + 1 + 1 + 1 + 1 ≤ w.heap.size) : Four N w' a b c d := by
  obtain ⟨h1, h2, h3, h4⟩ := h
  exact ⟨by rw [hb.block _ (by omega)]; exact h1, by rw [hb.block _ (by omega)]; exact h2, by rw [hb.block _ (by omega)]; exact h3, by rw [hb.block _ (by omega)]; exact h4⟩
theorem Four.drew {N : Nat} {w : World} {a b c d : Array Value} (h : Four N w a b c d) : Four N w.drew a b c d := h
theorem left4 {w w1 : World} {a b c d : Array Value} (hb : Below ((((w.alloc (.cells a 28)).alloc (.cells b 28)).alloc (.cells c 28)).alloc (.cells d 28)).heap.size ((((w.alloc (.cells a 28)).alloc (.cells b 28)).alloc (.cells c 28)).alloc (.cells d 28)) w1) :
    w.heap.size + 1 + 1 + 1 + 1 ≤ w1.heap.size ∧ Four w.heap.size w1 a b c d ∧ Below w.heap.size w w1 := by
  have hs : ((((w.alloc (.cells a 28)).alloc (.cells b 28)).alloc (.cells c 28)).alloc (.cells d 28)).heap.size = w.heap.size + 1 + 1 + 1 + 1 := by simp
  have hb' := hb.size
  have h3 : Below w.heap.size w ((((w.alloc (.cells a 28)).alloc (.cells b 28)).alloc (.cells c 28)).alloc (.cells d 28)) := (ent3 w _ _ _).alloc (by simp; omega) _
  refine ⟨by omega, ⟨?_, ?_, ?_, ?_⟩, h3.trans (hb.mono (by omega))⟩
  · rw [hb.block _ (by omega), heap_alloc_old _ _ (by simp; omega), heap_alloc_old _ _ (by simp; omega), heap_alloc_old _ _ (by simp), heap_alloc_new]
  · rw [hb.block _ (by omega), heap_alloc_old _ _ (by simp), heap_alloc_old _ _ (by simp)]; have := heap_alloc_new (w.alloc (.cells a 28)) (.cells b 28); simpa using this
  · rw [hb.block _ (by omega), heap_alloc_old _ _ (by simp)]; exact heap_alloc3 w _ _ _
  · rw [hb.block _ (by omega)]; exact heap_alloc4 w _ _ _ _

set_option maxRecDepth 100000 in
theorem div_int (w : World) (nx ny : Bool) (ao bo : Option Addr) (n m capa capb : Nat) (xs ys : List Int) (x y : Int) (hx : IntAt w nx ao n capa xs x) (hy : IntAt w ny bo m capb ys y) (hy0 : y ≠ 0) (L M : Nat)
    (hdiv : ∀ w1, Below w.heap.size w w1 → Calls Try.prog 82 #[.slice ao n capa, .slice bo m capb] w1 (RetDiv w1 (val xs / val ys) (val xs % val ys) L M)) :
    Calls Try.prog 30 #[.agg #[.bool nx, .slice ao n capa], .agg #[.bool ny, .slice bo m capb]] w (RetQR w (x.tdiv y) (x.tmod y) L M) := by
  have HD := Lib.hid hdiv
  have hs : ∃ c, c = cmpI y 0 ∧ (c == 0) = false := ⟨_, rfl, by unfold cmpI; by_cases h1 : y < 0 <;> by_cases h2 : 0 < y <;> simp [h1, h2] <;> omega⟩
  obtain ⟨c, hc, hcz⟩ := hs
  have HSG : Hid (∀ w1, Below w.heap.size w w1 → Calls Try.prog 22 #[.agg #[.bool ny, .slice bo m capb]] w1 (RetV w1 (.int .i64 c))) :=
    fun w1 hb => by rw [hc]; exact sign_int w1 ny bo m capb ys y (hy.below hb)
  clear hdiv hc
  go_enter Try.func30, Try.ntmps30
  go_wp2_with fail
  refine (HSG.out _ (by go_grown)).mono ?_
  rintro e w1 ⟨rfl, hb1⟩
  obtain ⟨hz1, bk1, hb2⟩ := left4 hb1
  have HB1 := Lib.hid bk1
  obtain ⟨k1, k2, _, _⟩ := bk1
  obtain ⟨x0, x1, _, _⟩ := blk2 k1
  obtain ⟨y0, y1, _, _⟩ := blk2 k2
  clear hb1 k1 k2
  go_wp2_with fail
  refine (HD.out w1 hb2).mono ?_
  rintro e w2 ⟨a1, n1, c1, z1, a2, n2, c2, z2, rfl, ho1, hl1, ht1, hv1, hn1, ho2, hl2, ht2, hv2, hn2, hb3⟩
  have hz2 : w.heap.size + 1 + 1 + 1 + 1 ≤ w2.heap.size := Nat.le_trans hz1 hb3.size
  have HB2 := Lib.hid (Four.below HB1.out hb3 hz1)
  have HO1 := Lib.hid ho1.sl
  have HO2 := Lib.hid ho2.sl
  have HV1 := Lib.hid hv1
  have HV2 := Lib.hid hv2
  have HW2 : Below w.heap.size w w2 := hb2.trans (hb3.mono (by omega))
  clear ho1 ho2 hv1 hv2 x0 x1 y0 y1 HB1 hb3 hb2
  obtain ⟨x0, -, -, -⟩ := blk2 HB2.out.1
  obtain ⟨y0, -, -, -⟩ := blk2 HB2.out.2.1
  go_wp2_with fail
  go_region_held3 (fun w' => w'.cell? ⟨w.heap.size, 0, none⟩ = some (.bool nx) ∧ w'.cell? ⟨w.heap.size + 1, 0, none⟩ = some (.bool ny)) (((try dsimp only); (repeat' apply And.intro) <;> (first | (go_keep; done) | (go_split_ands; rw [World.cell?_setCell_far _ _ _ _ (by dsimp only; omega), World.cell?_setCell_far _ _ _ _ (by dsimp only; omega)]; assumption) | (go_split_ands; rw [hb5.cell (by go_size)]; assumption) | (go_split_ands; rw [hb7.cell (by go_size)]; assumption))))
    (first | (go_at_call_of 70 a1; refine (wrap_int _ _ _ _ _ _ ?_ hl1 rfl).mono ?_; (exact HO1.out.drew); rintro e w3 ⟨s3, a3, n3, c3, z3, rfl, hint3, hn3, hb5⟩; have hz3 := Nat.le_trans hz2 hb5.size; have HB3 := Lib.hid (Four.below HB2.out.drew hb5 hz2); have HI3 := Lib.hid hint3; clear hint3) | (go_at_call_of 70 a2; refine (wrap_int _ _ _ _ _ _ ?_ hl2 rfl).mono ?_; (exact HO2.out.drew.below hb5); rintro e w4 ⟨s4, a4, n4, c4, z4, rfl, hint4, hn4, hb7⟩; have HB4 := Lib.hid (Four.below HB3.out hb7 hz3); have HI4 := Lib.hid hint4; clear hint4; obtain ⟨q0, q1, qf0, qf1⟩ := blk2 HB4.out.2.2.1; obtain ⟨r0, r1, rf0, rf1⟩ := blk2 HB4.out.2.2.2))
  have hk : ((w4.setCell ⟨w.heap.size + 1 + 1, 0, none⟩ (.bool s3)).setCell ⟨w.heap.size + 1 + 1, 1, none⟩ (.slice a3 n3 c3)).heap[w.heap.size + 1 + 1 + 1]? = some (.cells #[.bool false, .slice none 0 0] 28 (0, 0)) := by
    rw [Below.heap_setCell _ _ _ _ (by dsimp only; omega), Below.heap_setCell _ _ _ _ (by dsimp only; omega)]
    exact HB4.out.2.2.2
  have hq := ((HI3.out.below hb7).stored HB4.out.2.2.1 (.bool s3) (.slice a3 n3 c3)).stored hk (.bool s4) (.slice a4 n4 c4)
  have hr := (HI4.out.stored HB4.out.2.2.1 (.bool s3) (.slice a3 n3 c3)).stored hk (.bool s4) (.slice a4 n4 c4)
  obtain ⟨ex1, ex2⟩ := tdiv_sgn nx ny (val xs) (val ys) (val_nonneg hx.lim) (val_nonneg hy.lim)
  have eq : sgn (!nx == ny) (val z1) = x.tdiv y := by rw [HV1.out, hx.val, hy.val]; exact ex1.symm
  have er : sgn nx (val z2) = x.tmod y := by rw [HV2.out, hx.val, hy.val]; exact ex2.symm
  rw [eq] at hq
  rw [er] at hr
  have HQ := Lib.hid hq
  have HR := Lib.hid hr
  have hb8 : Below w.heap.size w w4 := HW2.drew.trans ((hb5.trans (hb7.mono hb5.size)).mono HW2.size)
  have hb9 := (((hb8.setCell (p := ⟨w.heap.size + 1 + 1, 0, none⟩) (by dsimp only; omega) (.bool s3)).setCell (p := ⟨w.heap.size + 1 + 1, 1, none⟩) (by dsimp only; omega) (.slice a3 n3 c3)).setCell (p := ⟨w.heap.size + 1 + 1 + 1, 0, none⟩) (by dsimp only; omega) (.bool s4)).setCell (p := ⟨w.heap.size + 1 + 1 + 1, 1, none⟩) (by dsimp only; omega) (.slice a4 n4 c4)
  clear hx hy hq hr hk ex1 ex2 eq er
  go_wp2
  refine bodyPost_ret (v := .tuple #[.agg #[.bool s3, .slice a3 n3 c3], .agg #[.bool s4, .slice a4 n4 c4], .int .i64 0]) (by simp [results, Try.results30, go_sem, q0, q1, r0, r1]) rfl ?_
  exact ⟨_, _, _, _, _, _, _, _, _, _, rfl, HQ.out, Nat.le_trans hn3 hn1, HR.out, Nat.le_trans hn4 hn2, hb9⟩
end Go.Proofs.Ytpakfknacmcohaa
