/- IntegerNumbers: the walk. -/
import Derived.Test.YtihfokdehcdgdaaNum16
import Derived.Test.YtihfokdehcdgdaaOf
import Derived.Deep.DeepCutAuto
namespace Go.Proofs.Ytihfokdehcdgdaa
open Go.RowKit
set_option autoImplicit false
set_option linter.unusedVariables false

theorem nums1 {w : World} {b : Nat} {x : Num} {t : TypeId} (h : w.heap[b]? = some (.cells #[.bool x.neg, .slice x.ao x.n x.cap] t (0, 0))) : Nums w b [x] := by
  intro i u hu
  match i, hu with
  | 0, hu =>
    simp at hu; subst hu
    exact ⟨cell_of_row _ b 0 _ t (0, 0) h, cell_of_row _ b 1 _ t (0, 0) h⟩

theorem shortOne (w : World) (b : Nat) (x : Num) (most : Nat) (h : w.heap[b]? = some (.cells #[.bool x.neg, .slice x.ao x.n x.cap] 24 (0, 0))) :
    Calls Try.prog 14 #[.int .i64 most, .slice (some ⟨b, 0, none⟩) 1 1] w (RetV w (.bool (decide (x.n ≤ most)))) := by
  have := short_any w b 1 [x] most (nums1 h) (Array.getElem?_eq_some_iff.1 h).1 (by simp) (by omega)
  simpa using this

set_option maxRecDepth 100000 in
theorem numbers_long (w : World) (nx : Bool) (ax : Option Addr) (n1 c1 : Nat) (k : Int) (h : ¬ n1 ≤ 12) :
    Calls Try.prog 3 #[.agg #[.bool nx, .slice ax n1 c1], .int .i64 k] w (RetV w (.bool true)) := by
  have hd : decide (n1 ≤ 12) = false := decide_eq_false h
  have HD := Lib.hid hd
  clear hd h
  go_enter Try.func3, Try.ntmps3
  go_wp2_with fail
  refine (shortOne _ _ ⟨nx, ax, n1, c1⟩ 12 (heap_alloc2 _ _ _).1).mono ?_
  rintro e w1 ⟨rfl, hb1⟩
  rw [show decide (Num.n ⟨nx, ax, n1, c1⟩ ≤ 12) = false from HD.out]
  have hb2 : Below w.heap.size w w1 := Below.trans (by go_grown) (hb1.mono (by go_size))
  clear hb1
  go_wp2_with fail
  refine (awake_any _).mono ?_
  rintro e w2 ⟨rfl, hb3⟩
  go_wp2_with fail
  go_ret
  exact ⟨rfl, hb2.trans (hb3.mono hb2.size)⟩

set_option maxRecDepth 100000 in
set_option maxHeartbeats 1000000 in
theorem numbers_short (w : World) (nx : Bool) (ax : Option Addr) (n1 c1 : Nat) (zx : List Int) (k : Int) (hx : Sl w ax n1 c1 zx) (lx : Lim zx) (hk0 : -9223372036854775808 ≤ k) (hk1 : k ≤ 9223372036854775807) (h : n1 ≤ 12) :
    Calls Try.prog 3 #[.agg #[.bool nx, .slice ax n1 c1], .int .i64 k] w (RetV w (.bool true)) := by
  have hd : decide (n1 ≤ 12) = true := decide_eq_true h
  have HD := Lib.hid hd
  have HX := Lib.hid hx
  have HK := Lib.hid (And.intro hk0 hk1)
  clear hd hx hk0 hk1
  go_enter Try.func3, Try.ntmps3
  go_wp2_with fail
  refine (shortOne _ _ ⟨nx, ax, n1, c1⟩ 12 (heap_alloc2 _ _ _).1).mono ?_
  rintro e w1 ⟨rfl, hb1⟩
  rw [show decide (Num.n ⟨nx, ax, n1, c1⟩ ≤ 12) = true from HD.out]
  have hb2 : Below w.heap.size w w1 := Below.trans (by go_grown) (hb1.mono (by go_size))
  have hr1 : w1.heap[w.heap.size]? = some (.cells #[.bool nx, .slice ax n1 c1] 24 (0, 0)) := (hb1.block _ (by go_size)).trans (heap_alloc2 _ _ _).2
  obtain ⟨x0, x1, -, -⟩ := blk2 hr1
  clear hb1 hr1
  go_wp2_with fail
  refine (of_any _ nx ax n1 c1 zx (HX.out.below hb2) lx (by omega)).mono ?_
  rintro e w2 ⟨s1, a1, m1, k1, z1, s2, a2, m2, k2, z2, rfl, hi, hm1, hr, hm2, hb3⟩
  obtain ⟨X, hX⟩ : ∃ X, X = sgn nx (val zx) := ⟨_, rfl⟩
  rw [← hX] at hi hr
  have HI := Lib.hid hi
  have HR := Lib.hid hr
  have hb4 : Below w.heap.size w w2 := hb2.trans (hb3.mono hb2.size)
  clear hi hr hX hb2 hb3 x0 x1
  go_wp2_with fail
  refine (new_int _ k HK.out.1 HK.out.2).mono ?_
  rintro e w3 ⟨s3, a3, m3, k3, z3, rfl, hu, hm3, hb5⟩
  have HU := Lib.hid hu
  have hr5 := (hb5.block w2.heap.size (by go_size)).trans (heap_alloc2 w2 _ _).2
  have hr6 := (hb5.block (w2.heap.size + 1) (by go_size)).trans (heap_alloc2 w2 _ _).1
  have hz3 : w2.heap.size + 1 + 1 ≤ w3.heap.size := Nat.le_trans (by go_size) hb5.size
  have hb6 : Below w2.heap.size w2 w3 := Below.trans (by go_grown) (hb5.mono (by go_size))
  clear hu hb5
  go_wp2_with fail
  refine (rnew_any _ k HK.out.1 HK.out.2).mono ?_
  rintro e w4 ⟨s4, a4, m4, k4, z4, rfl, hv, hm4, hb7⟩
  have HV := Lib.hid hv
  have HU4 := Lib.hid (HU.out.below hb7)
  have hz4 := hb7.size
  have hr5 := (hb7.block w2.heap.size (by omega)).trans hr5
  have hr6 := (hb7.block (w2.heap.size + 1) (by omega)).trans hr6
  have hb8 : Below w2.heap.size w2 w4 := hb6.trans (hb7.mono hb6.size)
  obtain ⟨a50, a51, -, -⟩ := blk2 hr5
  obtain ⟨b60, b61, -, -⟩ := blk2 hr6
  have HI4 := Lib.hid (HI.out.below hb8)
  have HR4 := Lib.hid (HR.out.below hb8)
  have hw4 : Below w.heap.size w w4 := hb4.trans (hb8.mono hb4.size)
  have hl5 : w2.heap.size < w4.heap.size := by omega
  have hl6 : w2.heap.size + 1 < w4.heap.size := by omega
  clear hr5 hr6 hv HU HI HR hb7 hb8 hb6 hb4 HX HD lx
  go_wp2_with fail
  have hk2 := heap_alloc2 w4 (.cells #[.bool s3, .slice a3 m3 k3] 28) (.cells #[.bool s4, .slice a4 m4 k4] 31)
  obtain ⟨c70, c71, -, -⟩ := blk2 hk2.2
  obtain ⟨d80, d81, -, -⟩ := blk2 hk2.1
  have e50 := (World.cell?_alloc_some _ ⟨w2.heap.size, 0, none⟩ (.cells #[.bool s4, .slice a4 m4 k4] 31) (by rw [World.cell?_alloc_some _ _ _ (by rw [a50]; rfl), a50]; rfl)).trans ((World.cell?_alloc_some w4 ⟨w2.heap.size, 0, none⟩ (.cells #[.bool s3, .slice a3 m3 k3] 28) (by rw [a50]; rfl)).trans a50)
  have e51 := (World.cell?_alloc_some _ ⟨w2.heap.size, 1, none⟩ (.cells #[.bool s4, .slice a4 m4 k4] 31) (by rw [World.cell?_alloc_some _ _ _ (by rw [a51]; rfl), a51]; rfl)).trans ((World.cell?_alloc_some w4 ⟨w2.heap.size, 1, none⟩ (.cells #[.bool s3, .slice a3 m3 k3] 28) (by rw [a51]; rfl)).trans a51)
  have e60 := (World.cell?_alloc_some _ ⟨w2.heap.size + 1, 0, none⟩ (.cells #[.bool s4, .slice a4 m4 k4] 31) (by rw [World.cell?_alloc_some _ _ _ (by rw [b60]; rfl), b60]; rfl)).trans ((World.cell?_alloc_some w4 ⟨w2.heap.size + 1, 0, none⟩ (.cells #[.bool s3, .slice a3 m3 k3] 28) (by rw [b60]; rfl)).trans b60)
  have e61 := (World.cell?_alloc_some _ ⟨w2.heap.size + 1, 1, none⟩ (.cells #[.bool s4, .slice a4 m4 k4] 31) (by rw [World.cell?_alloc_some _ _ _ (by rw [b61]; rfl), b61]; rfl)).trans ((World.cell?_alloc_some w4 ⟨w2.heap.size + 1, 1, none⟩ (.cells #[.bool s3, .slice a3 m3 k3] 28) (by rw [b61]; rfl)).trans b61)
  have hb9 : Below w4.heap.size w4 ((w4.alloc (.cells #[.bool s3, .slice a3 m3 k3] 28)).alloc (.cells #[.bool s4, .slice a4 m4 k4] 31)) := by go_grown
  have hz9 : w4.heap.size + 1 < ((w4.alloc (.cells #[.bool s3, .slice a3 m3 k3] 28)).alloc (.cells #[.bool s4, .slice a4 m4 k4] 31)).heap.size := by simp
  have hI := HI4.out.below hb9
  have hR := HR4.out.below hb9
  have hU := HU4.out.below hb9
  have hV := HV.out.below hb9
  have hW := hw4.trans (hb9.mono hw4.size)
  obtain ⟨w5, hw5⟩ : ∃ w5, w5 = ((w4.alloc (.cells #[.bool s3, .slice a3 m3 k3] 28)).alloc (.cells #[.bool s4, .slice a4 m4 k4] 31)) := ⟨_, rfl⟩
  rw [← hw5] at e50 e51 e60 e61 c70 c71 d80 d81 hz9 hI hR hU hV hW ⊢
  obtain ⟨p5, hp5⟩ : ∃ p, p = w2.heap.size := ⟨_, rfl⟩
  obtain ⟨p6, hp6⟩ : ∃ p, p = w2.heap.size + 1 := ⟨_, rfl⟩
  obtain ⟨p7, hp7⟩ : ∃ p, p = w4.heap.size := ⟨_, rfl⟩
  obtain ⟨p8, hp8⟩ : ∃ p, p = w4.heap.size + 1 := ⟨_, rfl⟩
  rw [← hp8] at d80 d81 hz9 ⊢
  rw [← hp7] at c70 c71 ⊢
  rw [← hp6] at e60 e61 ⊢
  rw [← hp5] at e50 e51 ⊢
  have g5 : p5 < w5.heap.size := World.block_lt_of_cell? _ _ e50
  have g6 : p6 < w5.heap.size := World.block_lt_of_cell? _ _ e60
  have g7 : p7 < w5.heap.size := World.block_lt_of_cell? _ _ c70
  have HI5 := Lib.hid hI
  have HR5 := Lib.hid hR
  have HU5 := Lib.hid hU
  have HV5 := Lib.hid hV
  have HW5 := Lib.hid hW
  clear hw5 hp5 hp6 hp7 hp8 hI hR hU hV hW hb9 hk2 a50 a51 b60 b61 HI4 HR4 HU4 HV hw4 hl5 hl6 hz4 hz3 hr5 hr6
  refine (int64_any _ s1 a1 m1 k1 z1 X HI5.out).mono ?_
  rintro e w6 ⟨rfl, hb6⟩
  have f60 := (hb6.cell (p := ⟨p6, 0, none⟩) g6).trans e60
  have f61 := (hb6.cell (p := ⟨p6, 1, none⟩) g6).trans e61
  obtain ⟨I, hI⟩ : ∃ I, i64of X = I := ⟨_, rfl⟩
  obtain ⟨J, hJ⟩ : ∃ J, i64ok X = J := ⟨_, rfl⟩
  rw [hI, hJ]
  have HIJ := Lib.hid (And.intro hI hJ)
  clear hI hJ
  go_wp2_with fail
  refine (rint64_any _ s2 a2 m2 k2 z2 X (HR5.out.below hb6) (by omega)).mono ?_
  rintro e w7 ⟨rfl, hb7⟩
  rw [HIJ.out.1, HIJ.out.2]
  have hb67 : Below w5.heap.size w5 w7 := hb6.trans (hb7.mono hb6.size)
  have f70 := (hb67.cell (p := ⟨p7, 0, none⟩) g7).trans c70
  have f71 := (hb67.cell (p := ⟨p7, 1, none⟩) g7).trans c71
  clear f60 f61 hb6 hb7
  go_wp2_with fail
  refine (int64_any _ s3 a3 m3 k3 z3 k (HU5.out.below hb67)).mono ?_
  rintro e w8 ⟨rfl, hb8⟩
  have hkv : i64ok k = true := by unfold i64ok; exact decide_eq_true HK.out
  have hkw : i64of k = k := by unfold i64of; rw [hkv]; rfl
  rw [hkv, hkw]
  have hb68 : Below w5.heap.size w5 w8 := hb67.trans (hb8.mono hb67.size)
  have q0 := (hb68.cell (p := ⟨p5, 0, none⟩) g5).trans e50
  have q1 := (hb68.cell (p := ⟨p5, 1, none⟩) g5).trans e51
  have q2 := (hb68.cell (p := ⟨p6, 0, none⟩) g6).trans e60
  have q3 := (hb68.cell (p := ⟨p6, 1, none⟩) g6).trans e61
  have q4 := (hb68.cell (p := ⟨p7, 0, none⟩) g7).trans c70
  have q5 := (hb68.cell (p := ⟨p7, 1, none⟩) g7).trans c71
  have q6 := (hb68.cell (p := ⟨p8, 0, none⟩) hz9).trans d80
  have q7 := (hb68.cell (p := ⟨p8, 1, none⟩) hz9).trans d81
  have HI8 := Lib.hid (HI5.out.below hb68)
  have HR8 := Lib.hid (HR5.out.below hb68)
  have HU8 := Lib.hid (HU5.out.below hb68)
  have HV8 := Lib.hid (HV5.out.below hb68)
  have HW8 := Lib.hid (HW5.out.trans (hb68.mono HW5.out.size))
  clear e50 e51 e60 e61 c70 c71 d80 d81 g5 g6 g7 hz9 f70 f71 hkv hkw hb67 hb68 hb8 HI5 HR5 HU5 HV5 HW5
  go_wp2_with fail
  --REGION
  obtain ⟨cS, hcS⟩ : ∃ c, cmpI X 0 = c := ⟨_, rfl⟩
  obtain ⟨cO, hcO⟩ : ∃ c, decide (X % 2 = 1) = c := ⟨_, rfl⟩
  obtain ⟨cL, hcL⟩ : ∃ c, (blen (cpl X).toNat : Int) = c := ⟨_, rfl⟩
  obtain ⟨cC, hcC⟩ : ∃ c, (pops (cpl X).toNat : Int) = c := ⟨_, rfl⟩
  have HIS1 : Hid (∀ w', Below w8.heap.size w8 w' → Calls Try.prog 21 #[.agg #[.bool s1, .slice a1 m1 k1], .agg #[.bool s2, .slice a2 m2 k2]] w' (RetV w' (.bool true))) := Lib.hid (fun w' hb => by have := is_any w' s1 s2 a1 a2 m1 m2 k1 k2 z1 z2 X X (HI8.out.below hb) (HR8.out.below hb) (by omega) (by omega); rwa [decide_eq_true rfl] at this)
  have HIS2 : Hid (∀ w', Below w8.heap.size w8 w' → Calls Try.prog 21 #[.agg #[.bool s3, .slice a3 m3 k3], .agg #[.bool s4, .slice a4 m4 k4]] w' (RetV w' (.bool true))) := Lib.hid (fun w' hb => by have := is_any w' s3 s4 a3 a4 m3 m4 k3 k4 z3 z4 k k (HU8.out.below hb) (HV8.out.below hb) (by omega) (by omega); rwa [decide_eq_true rfl] at this)
  have HS1 : Hid (∀ w', Below w8.heap.size w8 w' → Calls Try.prog 22 #[.agg #[.bool s1, .slice a1 m1 k1]] w' (RetV w' (.int .i64 cS))) := Lib.hid (fun w' hb => by rw [← hcS]; exact sign_int w' s1 a1 m1 k1 z1 X (HI8.out.below hb))
  have HS2 : Hid (∀ w', Below w8.heap.size w8 w' → Calls Try.prog 23 #[.agg #[.bool s2, .slice a2 m2 k2]] w' (RetV w' (.int .i64 cS))) := Lib.hid (fun w' hb => by rw [← hcS]; exact rsign_any w' s2 a2 m2 k2 z2 X (HR8.out.below hb))
  have HO1 : Hid (∀ w', Below w8.heap.size w8 w' → Calls Try.prog 24 #[.agg #[.bool s1, .slice a1 m1 k1]] w' (RetV w' (.bool cO))) := Lib.hid (fun w' hb => by rw [← hcO]; exact odd_any w' s1 a1 m1 k1 z1 X (HI8.out.below hb))
  have HO2 : Hid (∀ w', Below w8.heap.size w8 w' → Calls Try.prog 25 #[.agg #[.bool s2, .slice a2 m2 k2]] w' (RetV w' (.bool cO))) := Lib.hid (fun w' hb => by rw [← hcO]; exact rodd_any w' s2 a2 m2 k2 z2 X (HR8.out.below hb))
  have HL1 : Hid (∀ w', Below w8.heap.size w8 w' → Calls Try.prog 26 #[.agg #[.bool s1, .slice a1 m1 k1]] w' (RetV w' (.int .i64 cL))) := Lib.hid (fun w' hb => by rw [← hcL]; exact length_any w' s1 a1 m1 k1 z1 X (HI8.out.below hb) (by omega))
  have HL2 : Hid (∀ w', Below w8.heap.size w8 w' → Calls Try.prog 27 #[.agg #[.bool s2, .slice a2 m2 k2]] w' (RetV w' (.int .i64 cL))) := Lib.hid (fun w' hb => by rw [← hcL]; exact rlength_any w' s2 a2 m2 k2 z2 X (HR8.out.below hb) (by omega))
  have HC1 : Hid (∀ w', Below w8.heap.size w8 w' → Calls Try.prog 28 #[.agg #[.bool s1, .slice a1 m1 k1]] w' (RetV w' (.int .i64 cC))) := Lib.hid (fun w' hb => by rw [← hcC]; exact count_any w' s1 a1 m1 k1 z1 X (HI8.out.below hb) (by omega))
  have HC2 : Hid (∀ w', Below w8.heap.size w8 w' → Calls Try.prog 29 #[.agg #[.bool s2, .slice a2 m2 k2]] w' (RetV w' (.int .i64 cC))) := Lib.hid (fun w' hb => by rw [← hcC]; exact rcount_any w' s2 a2 m2 k2 z2 X (HR8.out.below hb) (by omega))
  have h5 : p5 < w8.heap.size := World.block_lt_of_cell? _ _ q0
  have h6 : p6 < w8.heap.size := World.block_lt_of_cell? _ _ q2
  have h7 : p7 < w8.heap.size := World.block_lt_of_cell? _ _ q4
  have h8 : p8 < w8.heap.size := World.block_lt_of_cell? _ _ q6
  have HKP : Hid (∀ w', Below w8.heap.size w8 w' → (w'.cell? ⟨p5, 0, none⟩ = some (.bool s1) ∧ w'.cell? ⟨p5, 1, none⟩ = some (.slice a1 m1 k1) ∧ w'.cell? ⟨p6, 0, none⟩ = some (.bool s2) ∧ w'.cell? ⟨p6, 1, none⟩ = some (.slice a2 m2 k2) ∧ w'.cell? ⟨p7, 0, none⟩ = some (.bool s3) ∧ w'.cell? ⟨p7, 1, none⟩ = some (.slice a3 m3 k3) ∧ w'.cell? ⟨p8, 0, none⟩ = some (.bool s4) ∧ w'.cell? ⟨p8, 1, none⟩ = some (.slice a4 m4 k4))) := Lib.hid (fun w' hb => ⟨(hb.cell h5).trans q0, (hb.cell h5).trans q1, (hb.cell h6).trans q2, (hb.cell h6).trans q3, (hb.cell h7).trans q4, (hb.cell h7).trans q5, (hb.cell h8).trans q6, (hb.cell h8).trans q7⟩)
  clear hcS hcO hcL hcC q0 q1 q2 q3 q4 q5 q6 q7 h5 h6 h7 h8 HI8 HR8 HU8 HV8 HIJ HK
  go_region_held3 (fun w' => w'.cell? ⟨p5, 0, none⟩ = some (.bool s1) ∧ w'.cell? ⟨p5, 1, none⟩ = some (.slice a1 m1 k1) ∧ w'.cell? ⟨p6, 0, none⟩ = some (.bool s2) ∧ w'.cell? ⟨p6, 1, none⟩ = some (.slice a2 m2 k2) ∧ w'.cell? ⟨p7, 0, none⟩ = some (.bool s3) ∧ w'.cell? ⟨p7, 1, none⟩ = some (.slice a3 m3 k3) ∧ w'.cell? ⟨p8, 0, none⟩ = some (.bool s4) ∧ w'.cell? ⟨p8, 1, none⟩ = some (.slice a4 m4 k4)) ((first | exact HKP.out _ X11 | exact HKP.out _ X10 | exact HKP.out _ X9 | exact HKP.out _ X8 | exact HKP.out _ X7 | exact HKP.out _ X6 | exact HKP.out _ X5 | exact HKP.out _ X4 | exact HKP.out _ X3 | exact HKP.out _ X2 | exact HKP.out _ X1 | exact HKP.out _ (Below.refl _ _).drew))
    (first | (go_at_call 15; have T11 := X10; clear T11; refine (awake_any _).mono ?_; rintro e v11 ⟨rfl, u11⟩; have X11 : Below w8.heap.size w8 v11 := X10.trans (u11.mono X10.size)) | (go_at_call 29; have T10 := X9; clear T10; refine (HC2.out _ X9).mono ?_; rintro e v10 ⟨rfl, u10⟩; have X10 : Below w8.heap.size w8 v10 := X9.trans (u10.mono X9.size)) | (go_at_call 28; have T9 := X8; clear T9; refine (HC1.out _ X8).mono ?_; rintro e v9 ⟨rfl, u9⟩; have X9 : Below w8.heap.size w8 v9 := X8.trans (u9.mono X8.size)) | (go_at_call 27; have T8 := X7; clear T8; refine (HL2.out _ X7).mono ?_; rintro e v8 ⟨rfl, u8⟩; have X8 : Below w8.heap.size w8 v8 := X7.trans (u8.mono X7.size)) | (go_at_call 26; have T7 := X6; clear T7; refine (HL1.out _ X6).mono ?_; rintro e v7 ⟨rfl, u7⟩; have X7 : Below w8.heap.size w8 v7 := X6.trans (u7.mono X6.size)) | (go_at_call 25; have T6 := X5; clear T6; refine (HO2.out _ X5).mono ?_; rintro e v6 ⟨rfl, u6⟩; have X6 : Below w8.heap.size w8 v6 := X5.trans (u6.mono X5.size)) | (go_at_call 24; have T5 := X4; clear T5; refine (HO1.out _ X4).mono ?_; rintro e v5 ⟨rfl, u5⟩; have X5 : Below w8.heap.size w8 v5 := X4.trans (u5.mono X4.size)) | (go_at_call 23; have T4 := X3; clear T4; refine (HS2.out _ X3).mono ?_; rintro e v4 ⟨rfl, u4⟩; have X4 : Below w8.heap.size w8 v4 := X3.trans (u4.mono X3.size)) | (go_at_call 22; have T3 := X2; clear T3; refine (HS1.out _ X2).mono ?_; rintro e v3 ⟨rfl, u3⟩; have X3 : Below w8.heap.size w8 v3 := X2.trans (u3.mono X2.size)) | (go_at_call 21; have T2 := X1; clear T2; refine (HIS2.out _ X1).mono ?_; rintro e v2 ⟨rfl, u2⟩; have X2 : Below w8.heap.size w8 v2 := X1.trans (u2.mono X1.size)) | (go_at_call 21; refine (HIS1.out _ (Below.refl _ _).drew).mono ?_; rintro e v1 ⟨rfl, u1⟩; have X1 : Below w8.heap.size w8 v1 := (Below.refl _ _).drew.trans u1))
  go_wp2_with fail
  go_ret
  exact ⟨rfl, HW8.out.trans (X11.mono HW8.out.size)⟩

theorem numbers_any (w : World) (nx : Bool) (ax : Option Addr) (n1 c1 : Nat) (zx : List Int) (k : Int) (hx : Sl w ax n1 c1 zx) (lx : Lim zx) (hk0 : -9223372036854775808 ≤ k) (hk1 : k ≤ 9223372036854775807) :
    Calls Try.prog 3 #[.agg #[.bool nx, .slice ax n1 c1], .int .i64 k] w (RetV w (.bool true)) := by
  by_cases h : n1 ≤ 12
  · exact numbers_short w nx ax n1 c1 zx k hx lx hk0 hk1 h
  · exact numbers_long w nx ax n1 c1 k h
end Go.Proofs.Ytihfokdehcdgdaa
