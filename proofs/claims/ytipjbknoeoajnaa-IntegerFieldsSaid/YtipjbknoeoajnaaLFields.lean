/- IntegerFields: the walk. -/
import Derived.Test.YtipjbknoeoajnaaBothF
import Derived.Test.YtipjbknoeoajnaaOf
namespace Go.Proofs.Ytipjbknoeoajnaa
open Go.RowKit
set_option autoImplicit false
set_option linter.unusedVariables false

/-- A number that the statement speaks of. -/
def Fair (n : Int) : Prop := n ≤ 300 ∨ 65536 < n
theorem unfair {n : Int} (h : ¬ Fair n) : 300 < n ∧ n ≤ 65536 := by unfold Fair at h; omega

set_option maxRecDepth 100000 in
set_option maxHeartbeats 2000000 in
theorem fields_long (w : World) (n size at' : Int) (nx ny : Bool) (ax ay : Option Addr) (n1 c1 n2 c2 : Nat) (hbad : ¬ (n1 ≤ 8 ∧ n2 ≤ 8) ∨ ¬ Fair n ∨ ¬ Fair size ∨ ¬ Fair at') :
    Calls Try.prog 8 #[.agg #[.bool nx, .slice ax n1 c1], .agg #[.bool ny, .slice ay n2 c2], .int .i64 n, .int .i64 size, .int .i64 at'] w (RetV w (.bool true)) := by
  go_enter Try.func8, Try.ntmps8
  go_upto_region 1 with (fail)
  obtain ⟨W, hW⟩ : ∃ W, W = (w.alloc (.cells #[.bool nx, .slice ax n1 c1] 24)).alloc (.cells #[.bool ny, .slice ay n2 c2] 24) := ⟨_, rfl⟩
  have hbW : Below w.heap.size w W := by rw [hW]; go_grown
  have hsW : w.heap.size + 1 + 1 ≤ W.heap.size := by rw [hW]; go_size
  have rx : W.heap[w.heap.size]? = some (.cells #[.bool nx, .slice ax n1 c1] 24 (0, 0)) := by rw [hW]; exact (heap_alloc2 w _ _).2
  have ry : W.heap[w.heap.size + 1]? = some (.cells #[.bool ny, .slice ay n2 c2] 24 (0, 0)) := by rw [hW]; exact (heap_alloc2 w _ _).1
  rw [← hW]
  clear hW
  obtain ⟨x0, x1, -, -⟩ := blk2 rx
  obtain ⟨y0, y1, -, -⟩ := blk2 ry
  go_cut [55] (fun b wx => b = .bool true ∧ Below W.heap.size W wx)
  case first =>
    by_cases h : n1 ≤ 8 ∧ n2 ≤ 8
    · by_cases hn : Fair n
      · by_cases hs : Fair size
        · by_cases ha : Fair at'
          · exfalso; rcases hbad with g | g | g | g <;> contradiction
          · clear hbad
            obtain ⟨ka, ja⟩ := unfair ha
            clear ha
            rcases (show n ≤ 300 ∨ 65536 < n from hn) with gn | gn
            · have kn : ¬ (300 : Int) < n := by omega
              clear hn gn
              rcases (show size ≤ 300 ∨ 65536 < size from hs) with gs | gs
              · have ks : ¬ (300 : Int) < size := by omega
                clear hs gs
                have HD : Hid (decide (n1 ≤ 8 ∧ n2 ≤ 8) = true) := Lib.hid (decide_eq_true h)
                clear h
                go_wp2_with fail
                refine (shortTwo _ _ ⟨nx, ax, n1, c1⟩ ⟨ny, ay, n2, c2⟩ 8 (heap_alloc_new _ _)).mono ?_
                rintro e w1 ⟨rfl, hb1⟩
                rw [show decide (Num.n ⟨nx, ax, n1, c1⟩ ≤ 8 ∧ Num.n ⟨ny, ay, n2, c2⟩ ≤ 8) = true from HD.out]
                have hb2 : Below W.heap.size W w1 := Below.trans (by go_grown) (hb1.mono (by go_size))
                clear hb1
                go_wp2_with fail
                go_meet
                exact ⟨rfl, hb2⟩
              · have ks : (300 : Int) < size := by omega
                have js : decide (size ≤ 65536) = false := decide_eq_false (by omega)
                clear hs gs
                have HD : Hid (decide (n1 ≤ 8 ∧ n2 ≤ 8) = true) := Lib.hid (decide_eq_true h)
                clear h
                go_wp2_with fail
                refine (shortTwo _ _ ⟨nx, ax, n1, c1⟩ ⟨ny, ay, n2, c2⟩ 8 (heap_alloc_new _ _)).mono ?_
                rintro e w1 ⟨rfl, hb1⟩
                rw [show decide (Num.n ⟨nx, ax, n1, c1⟩ ≤ 8 ∧ Num.n ⟨ny, ay, n2, c2⟩ ≤ 8) = true from HD.out]
                have hb2 : Below W.heap.size W w1 := Below.trans (by go_grown) (hb1.mono (by go_size))
                clear hb1
                go_wp2_with fail
                go_meet
                exact ⟨rfl, hb2⟩
            · have kn : (300 : Int) < n := by omega
              have jn : decide (n ≤ 65536) = false := decide_eq_false (by omega)
              clear hn gn
              rcases (show size ≤ 300 ∨ 65536 < size from hs) with gs | gs
              · have ks : ¬ (300 : Int) < size := by omega
                clear hs gs
                have HD : Hid (decide (n1 ≤ 8 ∧ n2 ≤ 8) = true) := Lib.hid (decide_eq_true h)
                clear h
                go_wp2_with fail
                refine (shortTwo _ _ ⟨nx, ax, n1, c1⟩ ⟨ny, ay, n2, c2⟩ 8 (heap_alloc_new _ _)).mono ?_
                rintro e w1 ⟨rfl, hb1⟩
                rw [show decide (Num.n ⟨nx, ax, n1, c1⟩ ≤ 8 ∧ Num.n ⟨ny, ay, n2, c2⟩ ≤ 8) = true from HD.out]
                have hb2 : Below W.heap.size W w1 := Below.trans (by go_grown) (hb1.mono (by go_size))
                clear hb1
                go_wp2_with fail
                go_meet
                exact ⟨rfl, hb2⟩
              · have ks : (300 : Int) < size := by omega
                have js : decide (size ≤ 65536) = false := decide_eq_false (by omega)
                clear hs gs
                have HD : Hid (decide (n1 ≤ 8 ∧ n2 ≤ 8) = true) := Lib.hid (decide_eq_true h)
                clear h
                go_wp2_with fail
                refine (shortTwo _ _ ⟨nx, ax, n1, c1⟩ ⟨ny, ay, n2, c2⟩ 8 (heap_alloc_new _ _)).mono ?_
                rintro e w1 ⟨rfl, hb1⟩
                rw [show decide (Num.n ⟨nx, ax, n1, c1⟩ ≤ 8 ∧ Num.n ⟨ny, ay, n2, c2⟩ ≤ 8) = true from HD.out]
                have hb2 : Below W.heap.size W w1 := Below.trans (by go_grown) (hb1.mono (by go_size))
                clear hb1
                go_wp2_with fail
                go_meet
                exact ⟨rfl, hb2⟩
        · clear hbad
          obtain ⟨ks, js⟩ := unfair hs
          clear hs
          rcases (show n ≤ 300 ∨ 65536 < n from hn) with gn | gn
          · have kn : ¬ (300 : Int) < n := by omega
            clear hn gn
            have HD : Hid (decide (n1 ≤ 8 ∧ n2 ≤ 8) = true) := Lib.hid (decide_eq_true h)
            clear h
            go_wp2_with fail
            refine (shortTwo _ _ ⟨nx, ax, n1, c1⟩ ⟨ny, ay, n2, c2⟩ 8 (heap_alloc_new _ _)).mono ?_
            rintro e w1 ⟨rfl, hb1⟩
            rw [show decide (Num.n ⟨nx, ax, n1, c1⟩ ≤ 8 ∧ Num.n ⟨ny, ay, n2, c2⟩ ≤ 8) = true from HD.out]
            have hb2 : Below W.heap.size W w1 := Below.trans (by go_grown) (hb1.mono (by go_size))
            clear hb1
            go_wp2_with fail
            go_meet
            exact ⟨rfl, hb2⟩
          · have kn : (300 : Int) < n := by omega
            have jn : decide (n ≤ 65536) = false := decide_eq_false (by omega)
            clear hn gn
            have HD : Hid (decide (n1 ≤ 8 ∧ n2 ≤ 8) = true) := Lib.hid (decide_eq_true h)
            clear h
            go_wp2_with fail
            refine (shortTwo _ _ ⟨nx, ax, n1, c1⟩ ⟨ny, ay, n2, c2⟩ 8 (heap_alloc_new _ _)).mono ?_
            rintro e w1 ⟨rfl, hb1⟩
            rw [show decide (Num.n ⟨nx, ax, n1, c1⟩ ≤ 8 ∧ Num.n ⟨ny, ay, n2, c2⟩ ≤ 8) = true from HD.out]
            have hb2 : Below W.heap.size W w1 := Below.trans (by go_grown) (hb1.mono (by go_size))
            clear hb1
            go_wp2_with fail
            go_meet
            exact ⟨rfl, hb2⟩
      · clear hbad
        obtain ⟨kn, jn⟩ := unfair hn
        clear hn
        have HD : Hid (decide (n1 ≤ 8 ∧ n2 ≤ 8) = true) := Lib.hid (decide_eq_true h)
        clear h
        go_wp2_with fail
        refine (shortTwo _ _ ⟨nx, ax, n1, c1⟩ ⟨ny, ay, n2, c2⟩ 8 (heap_alloc_new _ _)).mono ?_
        rintro e w1 ⟨rfl, hb1⟩
        rw [show decide (Num.n ⟨nx, ax, n1, c1⟩ ≤ 8 ∧ Num.n ⟨ny, ay, n2, c2⟩ ≤ 8) = true from HD.out]
        have hb2 : Below W.heap.size W w1 := Below.trans (by go_grown) (hb1.mono (by go_size))
        clear hb1
        go_wp2_with fail
        go_meet
        exact ⟨rfl, hb2⟩
    · clear hbad
      have HD : Hid (decide (n1 ≤ 8 ∧ n2 ≤ 8) = false) := Lib.hid (decide_eq_false h)
      clear h
      go_wp2_with fail
      refine (shortTwo _ _ ⟨nx, ax, n1, c1⟩ ⟨ny, ay, n2, c2⟩ 8 (heap_alloc_new _ _)).mono ?_
      rintro e w1 ⟨rfl, hb1⟩
      rw [show decide (Num.n ⟨nx, ax, n1, c1⟩ ≤ 8 ∧ Num.n ⟨ny, ay, n2, c2⟩ ≤ 8) = false from HD.out]
      have hb2 : Below W.heap.size W w1 := Below.trans (by go_grown) (hb1.mono (by go_size))
      clear hb1
      go_wp2_with fail
      go_meet
      exact ⟨rfl, hb2⟩
  case rest =>
    obtain ⟨rfl, hbx⟩ := hcut
    rename World => wx
    go_wp2_with fail
    refine (awake_any _).mono ?_
    rintro e w2 ⟨rfl, hb3⟩
    go_wp2_with fail
    go_ret
    exact ⟨rfl, (hbW.trans (hbx.mono hbW.size)).trans (hb3.mono (by have := hbx.size; omega))⟩

set_option maxRecDepth 100000 in
set_option maxHeartbeats 4000000 in
theorem fields_short (w : World) (n size at' : Int) (nx ny : Bool) (ax ay : Option Addr) (n1 c1 n2 c2 : Nat) (zx zy : List Int) (hx : Sl w ax n1 c1 zx) (lx : Lim zx) (hy : Sl w ay n2 c2 zy) (ly : Lim zy) (h : n1 ≤ 8 ∧ n2 ≤ 8) (hn : Fair n) (hs : Fair size) (ha : Fair at') (hlo : -9223372036854775808 ≤ n) (hhi : n ≤ 9223372036854775807) :
    Calls Try.prog 8 #[.agg #[.bool nx, .slice ax n1 c1], .agg #[.bool ny, .slice ay n2 c2], .int .i64 n, .int .i64 size, .int .i64 at'] w (RetV w (.bool true)) := by
  have HX := Lib.hid hx
  have HY := Lib.hid hy
  obtain ⟨X, hX⟩ : ∃ X, sgn nx (val zx) = X := ⟨_, rfl⟩
  obtain ⟨Y, hY⟩ : ∃ Y, sgn ny (val zy) = Y := ⟨_, rfl⟩
  have HXV := Lib.hid hX
  have HYV := Lib.hid hY
  have HN := Lib.hid hn
  have HSZ := Lib.hid hs
  have HAT := Lib.hid ha
  have HLO := Lib.hid hlo
  have HHI := Lib.hid hhi
  clear hx hy hX hY hlo hhi
  go_enter Try.func8, Try.ntmps8
  go_upto_region 1 with (fail)
  obtain ⟨W, hW⟩ : ∃ W, W = (w.alloc (.cells #[.bool nx, .slice ax n1 c1] 24)).alloc (.cells #[.bool ny, .slice ay n2 c2] 24) := ⟨_, rfl⟩
  have hbW : Below w.heap.size w W := by rw [hW]; go_grown
  have hsW : w.heap.size + 1 + 1 ≤ W.heap.size := by rw [hW]; go_size
  have rx : W.heap[w.heap.size]? = some (.cells #[.bool nx, .slice ax n1 c1] 24 (0, 0)) := by rw [hW]; exact (heap_alloc2 w _ _).2
  have ry : W.heap[w.heap.size + 1]? = some (.cells #[.bool ny, .slice ay n2 c2] 24 (0, 0)) := by rw [hW]; exact (heap_alloc2 w _ _).1
  rw [← hW]
  clear hW
  obtain ⟨x0, x1, -, -⟩ := blk2 rx
  obtain ⟨y0, y1, -, -⟩ := blk2 ry
  go_cut [55] (fun b wx => b = .bool false ∧ Below W.heap.size W wx)
  case first =>
    clear HX HY HXV HYV HN HSZ HAT HLO HHI lx ly
    rcases (show n ≤ 300 ∨ 65536 < n from hn) with gn | gn
    · have kn : ¬ (300 : Int) < n := by omega
      clear hn gn
      rcases (show size ≤ 300 ∨ 65536 < size from hs) with gs | gs
      · have ks : ¬ (300 : Int) < size := by omega
        clear hs gs
        rcases (show at' ≤ 300 ∨ 65536 < at' from ha) with ga | ga
        · have ka : ¬ (300 : Int) < at' := by omega
          clear ha ga
          have HD : Hid (decide (n1 ≤ 8 ∧ n2 ≤ 8) = true) := Lib.hid (decide_eq_true h)
          clear h
          go_wp2_with fail
          refine (shortTwo _ _ ⟨nx, ax, n1, c1⟩ ⟨ny, ay, n2, c2⟩ 8 (heap_alloc_new _ _)).mono ?_
          rintro e w1 ⟨rfl, hb1⟩
          rw [show decide (Num.n ⟨nx, ax, n1, c1⟩ ≤ 8 ∧ Num.n ⟨ny, ay, n2, c2⟩ ≤ 8) = true from HD.out]
          have hb2 : Below W.heap.size W w1 := Below.trans (by go_grown) (hb1.mono (by go_size))
          clear hb1
          go_wp2_with fail
          go_meet
          exact ⟨rfl, hb2⟩
        · have ka : (300 : Int) < at' := by omega
          have ja : decide (at' ≤ 65536) = false := decide_eq_false (by omega)
          clear ha ga
          have HD : Hid (decide (n1 ≤ 8 ∧ n2 ≤ 8) = true) := Lib.hid (decide_eq_true h)
          clear h
          go_wp2_with fail
          refine (shortTwo _ _ ⟨nx, ax, n1, c1⟩ ⟨ny, ay, n2, c2⟩ 8 (heap_alloc_new _ _)).mono ?_
          rintro e w1 ⟨rfl, hb1⟩
          rw [show decide (Num.n ⟨nx, ax, n1, c1⟩ ≤ 8 ∧ Num.n ⟨ny, ay, n2, c2⟩ ≤ 8) = true from HD.out]
          have hb2 : Below W.heap.size W w1 := Below.trans (by go_grown) (hb1.mono (by go_size))
          clear hb1
          go_wp2_with fail
          go_meet
          exact ⟨rfl, hb2⟩
      · have ks : (300 : Int) < size := by omega
        have js : decide (size ≤ 65536) = false := decide_eq_false (by omega)
        clear hs gs
        rcases (show at' ≤ 300 ∨ 65536 < at' from ha) with ga | ga
        · have ka : ¬ (300 : Int) < at' := by omega
          clear ha ga
          have HD : Hid (decide (n1 ≤ 8 ∧ n2 ≤ 8) = true) := Lib.hid (decide_eq_true h)
          clear h
          go_wp2_with fail
          refine (shortTwo _ _ ⟨nx, ax, n1, c1⟩ ⟨ny, ay, n2, c2⟩ 8 (heap_alloc_new _ _)).mono ?_
          rintro e w1 ⟨rfl, hb1⟩
          rw [show decide (Num.n ⟨nx, ax, n1, c1⟩ ≤ 8 ∧ Num.n ⟨ny, ay, n2, c2⟩ ≤ 8) = true from HD.out]
          have hb2 : Below W.heap.size W w1 := Below.trans (by go_grown) (hb1.mono (by go_size))
          clear hb1
          go_wp2_with fail
          go_meet
          exact ⟨rfl, hb2⟩
        · have ka : (300 : Int) < at' := by omega
          have ja : decide (at' ≤ 65536) = false := decide_eq_false (by omega)
          clear ha ga
          have HD : Hid (decide (n1 ≤ 8 ∧ n2 ≤ 8) = true) := Lib.hid (decide_eq_true h)
          clear h
          go_wp2_with fail
          refine (shortTwo _ _ ⟨nx, ax, n1, c1⟩ ⟨ny, ay, n2, c2⟩ 8 (heap_alloc_new _ _)).mono ?_
          rintro e w1 ⟨rfl, hb1⟩
          rw [show decide (Num.n ⟨nx, ax, n1, c1⟩ ≤ 8 ∧ Num.n ⟨ny, ay, n2, c2⟩ ≤ 8) = true from HD.out]
          have hb2 : Below W.heap.size W w1 := Below.trans (by go_grown) (hb1.mono (by go_size))
          clear hb1
          go_wp2_with fail
          go_meet
          exact ⟨rfl, hb2⟩
    · have kn : (300 : Int) < n := by omega
      have jn : decide (n ≤ 65536) = false := decide_eq_false (by omega)
      clear hn gn
      rcases (show size ≤ 300 ∨ 65536 < size from hs) with gs | gs
      · have ks : ¬ (300 : Int) < size := by omega
        clear hs gs
        rcases (show at' ≤ 300 ∨ 65536 < at' from ha) with ga | ga
        · have ka : ¬ (300 : Int) < at' := by omega
          clear ha ga
          have HD : Hid (decide (n1 ≤ 8 ∧ n2 ≤ 8) = true) := Lib.hid (decide_eq_true h)
          clear h
          go_wp2_with fail
          refine (shortTwo _ _ ⟨nx, ax, n1, c1⟩ ⟨ny, ay, n2, c2⟩ 8 (heap_alloc_new _ _)).mono ?_
          rintro e w1 ⟨rfl, hb1⟩
          rw [show decide (Num.n ⟨nx, ax, n1, c1⟩ ≤ 8 ∧ Num.n ⟨ny, ay, n2, c2⟩ ≤ 8) = true from HD.out]
          have hb2 : Below W.heap.size W w1 := Below.trans (by go_grown) (hb1.mono (by go_size))
          clear hb1
          go_wp2_with fail
          go_meet
          exact ⟨rfl, hb2⟩
        · have ka : (300 : Int) < at' := by omega
          have ja : decide (at' ≤ 65536) = false := decide_eq_false (by omega)
          clear ha ga
          have HD : Hid (decide (n1 ≤ 8 ∧ n2 ≤ 8) = true) := Lib.hid (decide_eq_true h)
          clear h
          go_wp2_with fail
          refine (shortTwo _ _ ⟨nx, ax, n1, c1⟩ ⟨ny, ay, n2, c2⟩ 8 (heap_alloc_new _ _)).mono ?_
          rintro e w1 ⟨rfl, hb1⟩
          rw [show decide (Num.n ⟨nx, ax, n1, c1⟩ ≤ 8 ∧ Num.n ⟨ny, ay, n2, c2⟩ ≤ 8) = true from HD.out]
          have hb2 : Below W.heap.size W w1 := Below.trans (by go_grown) (hb1.mono (by go_size))
          clear hb1
          go_wp2_with fail
          go_meet
          exact ⟨rfl, hb2⟩
      · have ks : (300 : Int) < size := by omega
        have js : decide (size ≤ 65536) = false := decide_eq_false (by omega)
        clear hs gs
        rcases (show at' ≤ 300 ∨ 65536 < at' from ha) with ga | ga
        · have ka : ¬ (300 : Int) < at' := by omega
          clear ha ga
          have HD : Hid (decide (n1 ≤ 8 ∧ n2 ≤ 8) = true) := Lib.hid (decide_eq_true h)
          clear h
          go_wp2_with fail
          refine (shortTwo _ _ ⟨nx, ax, n1, c1⟩ ⟨ny, ay, n2, c2⟩ 8 (heap_alloc_new _ _)).mono ?_
          rintro e w1 ⟨rfl, hb1⟩
          rw [show decide (Num.n ⟨nx, ax, n1, c1⟩ ≤ 8 ∧ Num.n ⟨ny, ay, n2, c2⟩ ≤ 8) = true from HD.out]
          have hb2 : Below W.heap.size W w1 := Below.trans (by go_grown) (hb1.mono (by go_size))
          clear hb1
          go_wp2_with fail
          go_meet
          exact ⟨rfl, hb2⟩
        · have ka : (300 : Int) < at' := by omega
          have ja : decide (at' ≤ 65536) = false := decide_eq_false (by omega)
          clear ha ga
          have HD : Hid (decide (n1 ≤ 8 ∧ n2 ≤ 8) = true) := Lib.hid (decide_eq_true h)
          clear h
          go_wp2_with fail
          refine (shortTwo _ _ ⟨nx, ax, n1, c1⟩ ⟨ny, ay, n2, c2⟩ 8 (heap_alloc_new _ _)).mono ?_
          rintro e w1 ⟨rfl, hb1⟩
          rw [show decide (Num.n ⟨nx, ax, n1, c1⟩ ≤ 8 ∧ Num.n ⟨ny, ay, n2, c2⟩ ≤ 8) = true from HD.out]
          have hb2 : Below W.heap.size W w1 := Below.trans (by go_grown) (hb1.mono (by go_size))
          clear hb1
          go_wp2_with fail
          go_meet
          exact ⟨rfl, hb2⟩
  case rest =>
    obtain ⟨rfl, hbx⟩ := hcut
    rename World => w1
    obtain ⟨h1, h2⟩ := h
    have HW := Lib.hid (hbW.trans (hbx.mono hbW.size))
    have rx1 := (hbx.block w.heap.size (by omega)).trans rx
    have ry1 := (hbx.block (w.heap.size + 1) (by omega)).trans ry
    obtain ⟨bxp, hbxp⟩ : ∃ p, p = w.heap.size := ⟨_, rfl⟩
    obtain ⟨byp, hbyp⟩ : ∃ p, p = w.heap.size + 1 := ⟨_, rfl⟩
    rw [← hbyp] at ry1 ⊢
    rw [← hbxp] at rx1 ⊢
    obtain ⟨bxc0, bxc1, -, -⟩ := blk2 rx1
    obtain ⟨byc0, byc1, -, -⟩ := blk2 ry1
    have bxl : bxp < w1.heap.size := World.block_lt_of_cell? _ _ bxc0
    have byl : byp < w1.heap.size := World.block_lt_of_cell? _ _ byc0
    replace HX := Lib.hid (HX.out.below HW.out)
    replace HY := Lib.hid (HY.out.below HW.out)
    clear rx ry rx1 ry1 hbxp hbyp hbx hbW hsW x0 x1 y0 y1 hn hs ha
    go_wp2_with fail
    refine (of_any _ nx ax n1 c1 zx HX.out lx (by omega)).mono ?_
    rintro e wg1 ⟨s1, a1, m1, k1, z1, t1, d1, j1, e1, y1, rfl, hI1, hm1, hR1, hj1, hbwg1⟩
    rw [HXV.out] at hI1 hR1
    replace HX := Lib.hid (HX.out.below hbwg1)
    replace HY := Lib.hid (HY.out.below hbwg1)
    replace bxc0 := (hbwg1.cell (p := ⟨bxp, 0, none⟩) bxl).trans bxc0
    replace bxc1 := (hbwg1.cell (p := ⟨bxp, 1, none⟩) bxl).trans bxc1
    replace bxl := Nat.lt_of_lt_of_le bxl hbwg1.size
    replace byc0 := (hbwg1.cell (p := ⟨byp, 0, none⟩) byl).trans byc0
    replace byc1 := (hbwg1.cell (p := ⟨byp, 1, none⟩) byl).trans byc1
    replace byl := Nat.lt_of_lt_of_le byl hbwg1.size
    replace HW := Lib.hid (HW.out.trans (hbwg1.mono HW.out.size))
    have I1 := Lib.hid hI1
    clear hI1
    have R1 := Lib.hid hR1
    clear hR1
    clear hbwg1
    go_wp2_with fail
    obtain ⟨wg2, hwg2⟩ : ∃ wg2, wg2 = ((wg1.alloc (.cells #[.bool s1, .slice a1 m1 k1] 28)).alloc (.cells #[.bool t1, .slice d1 j1 e1] 31)) := ⟨_, rfl⟩
    have hbawg2 : Below wg1.heap.size wg1 wg2 := by rw [hwg2]; go_grown
    have hrb1 : wg2.heap[wg1.heap.size]? = some (.cells #[.bool s1, .slice a1 m1 k1] 28 (0, 0)) := by rw [hwg2]; exact (heap_alloc2 wg1 _ _).2
    have hrr1 : wg2.heap[wg1.heap.size + 1]? = some (.cells #[.bool t1, .slice d1 j1 e1] 31 (0, 0)) := by rw [hwg2]; exact (heap_alloc2 wg1 _ _).1
    rw [← hwg2]
    clear hwg2
    obtain ⟨b1p, hb1p⟩ : ∃ p, p = wg1.heap.size := ⟨_, rfl⟩
    obtain ⟨r1p, hr1p⟩ : ∃ p, p = wg1.heap.size + 1 := ⟨_, rfl⟩
    rw [← hr1p] at hrr1 ⊢
    rw [← hb1p] at hrb1 ⊢
    obtain ⟨b1c0, b1c1, -, -⟩ := blk2 hrb1
    have b1l : b1p < wg2.heap.size := World.block_lt_of_cell? _ _ b1c0
    clear hb1p hrb1
    obtain ⟨r1c0, r1c1, -, -⟩ := blk2 hrr1
    have r1l : r1p < wg2.heap.size := World.block_lt_of_cell? _ _ r1c0
    clear hr1p hrr1
    replace HX := Lib.hid (HX.out.below hbawg2)
    replace HY := Lib.hid (HY.out.below hbawg2)
    replace I1 := Lib.hid (I1.out.below hbawg2)
    replace R1 := Lib.hid (R1.out.below hbawg2)
    replace bxc0 := (hbawg2.cell (p := ⟨bxp, 0, none⟩) bxl).trans bxc0
    replace bxc1 := (hbawg2.cell (p := ⟨bxp, 1, none⟩) bxl).trans bxc1
    replace bxl := Nat.lt_of_lt_of_le bxl hbawg2.size
    replace byc0 := (hbawg2.cell (p := ⟨byp, 0, none⟩) byl).trans byc0
    replace byc1 := (hbawg2.cell (p := ⟨byp, 1, none⟩) byl).trans byc1
    replace byl := Nat.lt_of_lt_of_le byl hbawg2.size
    replace HW := Lib.hid (HW.out.trans (hbawg2.mono HW.out.size))
    clear hbawg2
    refine (of_any _ ny ay n2 c2 zy HY.out ly (by omega)).mono ?_
    rintro e wg3 ⟨s2, a2, m2, k2, z2, t2, d2, j2, e2, y2, rfl, hI2, hm2, hR2, hj2, hbwg3⟩
    rw [HYV.out] at hI2 hR2
    replace HX := Lib.hid (HX.out.below hbwg3)
    replace HY := Lib.hid (HY.out.below hbwg3)
    replace I1 := Lib.hid (I1.out.below hbwg3)
    replace R1 := Lib.hid (R1.out.below hbwg3)
    replace bxc0 := (hbwg3.cell (p := ⟨bxp, 0, none⟩) bxl).trans bxc0
    replace bxc1 := (hbwg3.cell (p := ⟨bxp, 1, none⟩) bxl).trans bxc1
    replace bxl := Nat.lt_of_lt_of_le bxl hbwg3.size
    replace byc0 := (hbwg3.cell (p := ⟨byp, 0, none⟩) byl).trans byc0
    replace byc1 := (hbwg3.cell (p := ⟨byp, 1, none⟩) byl).trans byc1
    replace byl := Nat.lt_of_lt_of_le byl hbwg3.size
    replace b1c0 := (hbwg3.cell (p := ⟨b1p, 0, none⟩) b1l).trans b1c0
    replace b1c1 := (hbwg3.cell (p := ⟨b1p, 1, none⟩) b1l).trans b1c1
    replace b1l := Nat.lt_of_lt_of_le b1l hbwg3.size
    replace r1c0 := (hbwg3.cell (p := ⟨r1p, 0, none⟩) r1l).trans r1c0
    replace r1c1 := (hbwg3.cell (p := ⟨r1p, 1, none⟩) r1l).trans r1c1
    replace r1l := Nat.lt_of_lt_of_le r1l hbwg3.size
    replace HW := Lib.hid (HW.out.trans (hbwg3.mono HW.out.size))
    have I2 := Lib.hid hI2
    clear hI2
    have R2 := Lib.hid hR2
    clear hR2
    clear hbwg3
    go_wp2_with fail
    obtain ⟨wg4, hwg4⟩ : ∃ wg4, wg4 = ((wg3.alloc (.cells #[.bool s2, .slice a2 m2 k2] 28)).alloc (.cells #[.bool t2, .slice d2 j2 e2] 31)) := ⟨_, rfl⟩
    have hbawg4 : Below wg3.heap.size wg3 wg4 := by rw [hwg4]; go_grown
    have hrb2 : wg4.heap[wg3.heap.size]? = some (.cells #[.bool s2, .slice a2 m2 k2] 28 (0, 0)) := by rw [hwg4]; exact (heap_alloc2 wg3 _ _).2
    have hrr2 : wg4.heap[wg3.heap.size + 1]? = some (.cells #[.bool t2, .slice d2 j2 e2] 31 (0, 0)) := by rw [hwg4]; exact (heap_alloc2 wg3 _ _).1
    rw [← hwg4]
    clear hwg4
    obtain ⟨b2p, hb2p⟩ : ∃ p, p = wg3.heap.size := ⟨_, rfl⟩
    obtain ⟨r2p, hr2p⟩ : ∃ p, p = wg3.heap.size + 1 := ⟨_, rfl⟩
    rw [← hr2p] at hrr2 ⊢
    rw [← hb2p] at hrb2 ⊢
    obtain ⟨b2c0, b2c1, -, -⟩ := blk2 hrb2
    have b2l : b2p < wg4.heap.size := World.block_lt_of_cell? _ _ b2c0
    clear hb2p hrb2
    obtain ⟨r2c0, r2c1, -, -⟩ := blk2 hrr2
    have r2l : r2p < wg4.heap.size := World.block_lt_of_cell? _ _ r2c0
    clear hr2p hrr2
    replace HX := Lib.hid (HX.out.below hbawg4)
    replace HY := Lib.hid (HY.out.below hbawg4)
    replace I1 := Lib.hid (I1.out.below hbawg4)
    replace R1 := Lib.hid (R1.out.below hbawg4)
    replace I2 := Lib.hid (I2.out.below hbawg4)
    replace R2 := Lib.hid (R2.out.below hbawg4)
    replace bxc0 := (hbawg4.cell (p := ⟨bxp, 0, none⟩) bxl).trans bxc0
    replace bxc1 := (hbawg4.cell (p := ⟨bxp, 1, none⟩) bxl).trans bxc1
    replace bxl := Nat.lt_of_lt_of_le bxl hbawg4.size
    replace byc0 := (hbawg4.cell (p := ⟨byp, 0, none⟩) byl).trans byc0
    replace byc1 := (hbawg4.cell (p := ⟨byp, 1, none⟩) byl).trans byc1
    replace byl := Nat.lt_of_lt_of_le byl hbawg4.size
    replace b1c0 := (hbawg4.cell (p := ⟨b1p, 0, none⟩) b1l).trans b1c0
    replace b1c1 := (hbawg4.cell (p := ⟨b1p, 1, none⟩) b1l).trans b1c1
    replace b1l := Nat.lt_of_lt_of_le b1l hbawg4.size
    replace r1c0 := (hbawg4.cell (p := ⟨r1p, 0, none⟩) r1l).trans r1c0
    replace r1c1 := (hbawg4.cell (p := ⟨r1p, 1, none⟩) r1l).trans r1c1
    replace r1l := Nat.lt_of_lt_of_le r1l hbawg4.size
    replace HW := Lib.hid (HW.out.trans (hbawg4.mono HW.out.size))
    clear hbawg4
    clear bxc0 bxc1 bxl
    clear byc0 byc1 byl
    clear HX HY HXV HYV lx ly
    obtain ⟨P, c, hP, hQ⟩ := both_shift n s1 t1 a1 d1 m1 j1 k1 e1 z1 y1 X wg4 I1.out R1.out (by omega) (by omega) HN.out HLO.out HHI.out
    obtain ⟨P', c', hP', hQ'⟩ := both_field size at' s1 t1 a1 d1 m1 j1 k1 e1 z1 y1 X wg4 I1.out R1.out (by omega) (by omega) HSZ.out HAT.out
    obtain ⟨P'', c'', hP'', hQ''⟩ := both_dep size at' s1 t1 s2 t2 a1 d1 a2 d2 m1 j1 m2 j2 k1 e1 k2 e2 z1 y1 z2 y2 X Y wg4 I1.out R1.out I2.out R2.out (by omega) (by omega) (by omega) (by omega) HSZ.out HAT.out
    have HP := Lib.hid hP
    clear hP
    have HQ := Lib.hid hQ
    clear hQ
    have HPF := Lib.hid hP'
    clear hP'
    have HQF := Lib.hid hQ'
    clear hQ'
    have HPD := Lib.hid hP''
    clear hP''
    have HQD := Lib.hid hQ''
    clear hQ''
    clear I1 R1 I2 R2 HN HSZ HAT HLO HHI
    refine (HP.out _ (.refl _ _)).mono ?_
    clear HP
    rintro e wg5 ⟨s3, a3, m3, k3, z3, rfl, hI3, hm3, hbwg5⟩
    replace b1c0 := (hbwg5.cell (p := ⟨b1p, 0, none⟩) b1l).trans b1c0
    replace b1c1 := (hbwg5.cell (p := ⟨b1p, 1, none⟩) b1l).trans b1c1
    replace b1l := Nat.lt_of_lt_of_le b1l hbwg5.size
    replace r1c0 := (hbwg5.cell (p := ⟨r1p, 0, none⟩) r1l).trans r1c0
    replace r1c1 := (hbwg5.cell (p := ⟨r1p, 1, none⟩) r1l).trans r1c1
    replace r1l := Nat.lt_of_lt_of_le r1l hbwg5.size
    replace b2c0 := (hbwg5.cell (p := ⟨b2p, 0, none⟩) b2l).trans b2c0
    replace b2c1 := (hbwg5.cell (p := ⟨b2p, 1, none⟩) b2l).trans b2c1
    replace b2l := Nat.lt_of_lt_of_le b2l hbwg5.size
    replace r2c0 := (hbwg5.cell (p := ⟨r2p, 0, none⟩) r2l).trans r2c0
    replace r2c1 := (hbwg5.cell (p := ⟨r2p, 1, none⟩) r2l).trans r2c1
    replace r2l := Nat.lt_of_lt_of_le r2l hbwg5.size
    replace HW := Lib.hid (HW.out.trans (hbwg5.mono HW.out.size))
    replace HQ : Hid (∀ w', Below _ _ w' → _) := Lib.hid (fun w' hb' => HQ.out w' (hbwg5.trans (hb'.mono hbwg5.size)))
    replace HPF : Hid (∀ w', Below _ _ w' → _) := Lib.hid (fun w' hb' => HPF.out w' (hbwg5.trans (hb'.mono hbwg5.size)))
    replace HQF : Hid (∀ w', Below _ _ w' → _) := Lib.hid (fun w' hb' => HQF.out w' (hbwg5.trans (hb'.mono hbwg5.size)))
    replace HPD : Hid (∀ w', Below _ _ w' → _) := Lib.hid (fun w' hb' => HPD.out w' (hbwg5.trans (hb'.mono hbwg5.size)))
    replace HQD : Hid (∀ w', Below _ _ w' → _) := Lib.hid (fun w' hb' => HQD.out w' (hbwg5.trans (hb'.mono hbwg5.size)))
    have I3 := Lib.hid hI3
    clear hI3 hbwg5
    go_wp2_with fail
    obtain ⟨wg6, hwg6⟩ : ∃ wg6, wg6 = (wg5.alloc (.cells #[.bool s3, .slice a3 m3 k3] 28)) := ⟨_, rfl⟩
    have hbawg6 : Below wg5.heap.size wg5 wg6 := by rw [hwg6]; go_grown
    have hrb3 : wg6.heap[wg5.heap.size]? = some (.cells #[.bool s3, .slice a3 m3 k3] 28 (0, 0)) := by rw [hwg6]; exact heap_alloc_new wg5 _
    rw [← hwg6]
    clear hwg6
    obtain ⟨b3p, hb3p⟩ : ∃ p, p = wg5.heap.size := ⟨_, rfl⟩
    rw [← hb3p] at hrb3 ⊢
    obtain ⟨b3c0, b3c1, -, -⟩ := blk2 hrb3
    have b3l : b3p < wg6.heap.size := World.block_lt_of_cell? _ _ b3c0
    clear hb3p hrb3
    replace I3 := Lib.hid (I3.out.below hbawg6)
    replace b1c0 := (hbawg6.cell (p := ⟨b1p, 0, none⟩) b1l).trans b1c0
    replace b1c1 := (hbawg6.cell (p := ⟨b1p, 1, none⟩) b1l).trans b1c1
    replace b1l := Nat.lt_of_lt_of_le b1l hbawg6.size
    replace r1c0 := (hbawg6.cell (p := ⟨r1p, 0, none⟩) r1l).trans r1c0
    replace r1c1 := (hbawg6.cell (p := ⟨r1p, 1, none⟩) r1l).trans r1c1
    replace r1l := Nat.lt_of_lt_of_le r1l hbawg6.size
    replace b2c0 := (hbawg6.cell (p := ⟨b2p, 0, none⟩) b2l).trans b2c0
    replace b2c1 := (hbawg6.cell (p := ⟨b2p, 1, none⟩) b2l).trans b2c1
    replace b2l := Nat.lt_of_lt_of_le b2l hbawg6.size
    replace r2c0 := (hbawg6.cell (p := ⟨r2p, 0, none⟩) r2l).trans r2c0
    replace r2c1 := (hbawg6.cell (p := ⟨r2p, 1, none⟩) r2l).trans r2c1
    replace r2l := Nat.lt_of_lt_of_le r2l hbawg6.size
    replace HW := Lib.hid (HW.out.trans (hbawg6.mono HW.out.size))
    replace HQ : Hid (∀ w', Below _ _ w' → _) := Lib.hid (fun w' hb' => HQ.out w' (hbawg6.trans (hb'.mono hbawg6.size)))
    replace HPF : Hid (∀ w', Below _ _ w' → _) := Lib.hid (fun w' hb' => HPF.out w' (hbawg6.trans (hb'.mono hbawg6.size)))
    replace HQF : Hid (∀ w', Below _ _ w' → _) := Lib.hid (fun w' hb' => HQF.out w' (hbawg6.trans (hb'.mono hbawg6.size)))
    replace HPD : Hid (∀ w', Below _ _ w' → _) := Lib.hid (fun w' hb' => HPD.out w' (hbawg6.trans (hb'.mono hbawg6.size)))
    replace HQD : Hid (∀ w', Below _ _ w' → _) := Lib.hid (fun w' hb' => HQD.out w' (hbawg6.trans (hb'.mono hbawg6.size)))
    clear hbawg6
    refine (HQ.out _ (.refl _ _)).mono ?_
    clear HQ
    rintro e wg7 ⟨s4, a4, m4, k4, z4, rfl, hR4, hm4, hbwg7⟩
    replace I3 := Lib.hid (I3.out.below hbwg7)
    replace b1c0 := (hbwg7.cell (p := ⟨b1p, 0, none⟩) b1l).trans b1c0
    replace b1c1 := (hbwg7.cell (p := ⟨b1p, 1, none⟩) b1l).trans b1c1
    replace b1l := Nat.lt_of_lt_of_le b1l hbwg7.size
    replace r1c0 := (hbwg7.cell (p := ⟨r1p, 0, none⟩) r1l).trans r1c0
    replace r1c1 := (hbwg7.cell (p := ⟨r1p, 1, none⟩) r1l).trans r1c1
    replace r1l := Nat.lt_of_lt_of_le r1l hbwg7.size
    replace b2c0 := (hbwg7.cell (p := ⟨b2p, 0, none⟩) b2l).trans b2c0
    replace b2c1 := (hbwg7.cell (p := ⟨b2p, 1, none⟩) b2l).trans b2c1
    replace b2l := Nat.lt_of_lt_of_le b2l hbwg7.size
    replace r2c0 := (hbwg7.cell (p := ⟨r2p, 0, none⟩) r2l).trans r2c0
    replace r2c1 := (hbwg7.cell (p := ⟨r2p, 1, none⟩) r2l).trans r2c1
    replace r2l := Nat.lt_of_lt_of_le r2l hbwg7.size
    replace b3c0 := (hbwg7.cell (p := ⟨b3p, 0, none⟩) b3l).trans b3c0
    replace b3c1 := (hbwg7.cell (p := ⟨b3p, 1, none⟩) b3l).trans b3c1
    replace b3l := Nat.lt_of_lt_of_le b3l hbwg7.size
    replace HW := Lib.hid (HW.out.trans (hbwg7.mono HW.out.size))
    replace HPF : Hid (∀ w', Below _ _ w' → _) := Lib.hid (fun w' hb' => HPF.out w' (hbwg7.trans (hb'.mono hbwg7.size)))
    replace HQF : Hid (∀ w', Below _ _ w' → _) := Lib.hid (fun w' hb' => HQF.out w' (hbwg7.trans (hb'.mono hbwg7.size)))
    replace HPD : Hid (∀ w', Below _ _ w' → _) := Lib.hid (fun w' hb' => HPD.out w' (hbwg7.trans (hb'.mono hbwg7.size)))
    replace HQD : Hid (∀ w', Below _ _ w' → _) := Lib.hid (fun w' hb' => HQD.out w' (hbwg7.trans (hb'.mono hbwg7.size)))
    have R4 := Lib.hid hR4
    clear hR4 hbwg7
    go_wp2_with fail
    obtain ⟨wg8, hwg8⟩ : ∃ wg8, wg8 = (wg7.alloc (.cells #[.bool s4, .slice a4 m4 k4] 31)) := ⟨_, rfl⟩
    have hbawg8 : Below wg7.heap.size wg7 wg8 := by rw [hwg8]; go_grown
    have hrr4 : wg8.heap[wg7.heap.size]? = some (.cells #[.bool s4, .slice a4 m4 k4] 31 (0, 0)) := by rw [hwg8]; exact heap_alloc_new wg7 _
    rw [← hwg8]
    clear hwg8
    obtain ⟨r4p, hr4p⟩ : ∃ p, p = wg7.heap.size := ⟨_, rfl⟩
    rw [← hr4p] at hrr4 ⊢
    obtain ⟨r4c0, r4c1, -, -⟩ := blk2 hrr4
    have r4l : r4p < wg8.heap.size := World.block_lt_of_cell? _ _ r4c0
    clear hr4p hrr4
    replace I3 := Lib.hid (I3.out.below hbawg8)
    replace R4 := Lib.hid (R4.out.below hbawg8)
    replace b1c0 := (hbawg8.cell (p := ⟨b1p, 0, none⟩) b1l).trans b1c0
    replace b1c1 := (hbawg8.cell (p := ⟨b1p, 1, none⟩) b1l).trans b1c1
    replace b1l := Nat.lt_of_lt_of_le b1l hbawg8.size
    replace r1c0 := (hbawg8.cell (p := ⟨r1p, 0, none⟩) r1l).trans r1c0
    replace r1c1 := (hbawg8.cell (p := ⟨r1p, 1, none⟩) r1l).trans r1c1
    replace r1l := Nat.lt_of_lt_of_le r1l hbawg8.size
    replace b2c0 := (hbawg8.cell (p := ⟨b2p, 0, none⟩) b2l).trans b2c0
    replace b2c1 := (hbawg8.cell (p := ⟨b2p, 1, none⟩) b2l).trans b2c1
    replace b2l := Nat.lt_of_lt_of_le b2l hbawg8.size
    replace r2c0 := (hbawg8.cell (p := ⟨r2p, 0, none⟩) r2l).trans r2c0
    replace r2c1 := (hbawg8.cell (p := ⟨r2p, 1, none⟩) r2l).trans r2c1
    replace r2l := Nat.lt_of_lt_of_le r2l hbawg8.size
    replace b3c0 := (hbawg8.cell (p := ⟨b3p, 0, none⟩) b3l).trans b3c0
    replace b3c1 := (hbawg8.cell (p := ⟨b3p, 1, none⟩) b3l).trans b3c1
    replace b3l := Nat.lt_of_lt_of_le b3l hbawg8.size
    replace HW := Lib.hid (HW.out.trans (hbawg8.mono HW.out.size))
    replace HPF : Hid (∀ w', Below _ _ w' → _) := Lib.hid (fun w' hb' => HPF.out w' (hbawg8.trans (hb'.mono hbawg8.size)))
    replace HQF : Hid (∀ w', Below _ _ w' → _) := Lib.hid (fun w' hb' => HQF.out w' (hbawg8.trans (hb'.mono hbawg8.size)))
    replace HPD : Hid (∀ w', Below _ _ w' → _) := Lib.hid (fun w' hb' => HPD.out w' (hbawg8.trans (hb'.mono hbawg8.size)))
    replace HQD : Hid (∀ w', Below _ _ w' → _) := Lib.hid (fun w' hb' => HQD.out w' (hbawg8.trans (hb'.mono hbawg8.size)))
    clear hbawg8
    refine (HPF.out _ (.refl _ _)).mono ?_
    clear HPF
    rintro e wg9 ⟨s5, a5, m5, k5, z5, rfl, hI5, hm5, hbwg9⟩
    replace I3 := Lib.hid (I3.out.below hbwg9)
    replace R4 := Lib.hid (R4.out.below hbwg9)
    replace b1c0 := (hbwg9.cell (p := ⟨b1p, 0, none⟩) b1l).trans b1c0
    replace b1c1 := (hbwg9.cell (p := ⟨b1p, 1, none⟩) b1l).trans b1c1
    replace b1l := Nat.lt_of_lt_of_le b1l hbwg9.size
    replace r1c0 := (hbwg9.cell (p := ⟨r1p, 0, none⟩) r1l).trans r1c0
    replace r1c1 := (hbwg9.cell (p := ⟨r1p, 1, none⟩) r1l).trans r1c1
    replace r1l := Nat.lt_of_lt_of_le r1l hbwg9.size
    replace b2c0 := (hbwg9.cell (p := ⟨b2p, 0, none⟩) b2l).trans b2c0
    replace b2c1 := (hbwg9.cell (p := ⟨b2p, 1, none⟩) b2l).trans b2c1
    replace b2l := Nat.lt_of_lt_of_le b2l hbwg9.size
    replace r2c0 := (hbwg9.cell (p := ⟨r2p, 0, none⟩) r2l).trans r2c0
    replace r2c1 := (hbwg9.cell (p := ⟨r2p, 1, none⟩) r2l).trans r2c1
    replace r2l := Nat.lt_of_lt_of_le r2l hbwg9.size
    replace b3c0 := (hbwg9.cell (p := ⟨b3p, 0, none⟩) b3l).trans b3c0
    replace b3c1 := (hbwg9.cell (p := ⟨b3p, 1, none⟩) b3l).trans b3c1
    replace b3l := Nat.lt_of_lt_of_le b3l hbwg9.size
    replace r4c0 := (hbwg9.cell (p := ⟨r4p, 0, none⟩) r4l).trans r4c0
    replace r4c1 := (hbwg9.cell (p := ⟨r4p, 1, none⟩) r4l).trans r4c1
    replace r4l := Nat.lt_of_lt_of_le r4l hbwg9.size
    replace HW := Lib.hid (HW.out.trans (hbwg9.mono HW.out.size))
    replace HQF : Hid (∀ w', Below _ _ w' → _) := Lib.hid (fun w' hb' => HQF.out w' (hbwg9.trans (hb'.mono hbwg9.size)))
    replace HPD : Hid (∀ w', Below _ _ w' → _) := Lib.hid (fun w' hb' => HPD.out w' (hbwg9.trans (hb'.mono hbwg9.size)))
    replace HQD : Hid (∀ w', Below _ _ w' → _) := Lib.hid (fun w' hb' => HQD.out w' (hbwg9.trans (hb'.mono hbwg9.size)))
    have I5 := Lib.hid hI5
    clear hI5 hbwg9
    go_wp2_with fail
    obtain ⟨wg10, hwg10⟩ : ∃ wg10, wg10 = (wg9.alloc (.cells #[.bool s5, .slice a5 m5 k5] 28)) := ⟨_, rfl⟩
    have hbawg10 : Below wg9.heap.size wg9 wg10 := by rw [hwg10]; go_grown
    have hrb5 : wg10.heap[wg9.heap.size]? = some (.cells #[.bool s5, .slice a5 m5 k5] 28 (0, 0)) := by rw [hwg10]; exact heap_alloc_new wg9 _
    rw [← hwg10]
    clear hwg10
    obtain ⟨b5p, hb5p⟩ : ∃ p, p = wg9.heap.size := ⟨_, rfl⟩
    rw [← hb5p] at hrb5 ⊢
    obtain ⟨b5c0, b5c1, -, -⟩ := blk2 hrb5
    have b5l : b5p < wg10.heap.size := World.block_lt_of_cell? _ _ b5c0
    clear hb5p hrb5
    replace I3 := Lib.hid (I3.out.below hbawg10)
    replace R4 := Lib.hid (R4.out.below hbawg10)
    replace I5 := Lib.hid (I5.out.below hbawg10)
    replace b1c0 := (hbawg10.cell (p := ⟨b1p, 0, none⟩) b1l).trans b1c0
    replace b1c1 := (hbawg10.cell (p := ⟨b1p, 1, none⟩) b1l).trans b1c1
    replace b1l := Nat.lt_of_lt_of_le b1l hbawg10.size
    replace r1c0 := (hbawg10.cell (p := ⟨r1p, 0, none⟩) r1l).trans r1c0
    replace r1c1 := (hbawg10.cell (p := ⟨r1p, 1, none⟩) r1l).trans r1c1
    replace r1l := Nat.lt_of_lt_of_le r1l hbawg10.size
    replace b2c0 := (hbawg10.cell (p := ⟨b2p, 0, none⟩) b2l).trans b2c0
    replace b2c1 := (hbawg10.cell (p := ⟨b2p, 1, none⟩) b2l).trans b2c1
    replace b2l := Nat.lt_of_lt_of_le b2l hbawg10.size
    replace r2c0 := (hbawg10.cell (p := ⟨r2p, 0, none⟩) r2l).trans r2c0
    replace r2c1 := (hbawg10.cell (p := ⟨r2p, 1, none⟩) r2l).trans r2c1
    replace r2l := Nat.lt_of_lt_of_le r2l hbawg10.size
    replace b3c0 := (hbawg10.cell (p := ⟨b3p, 0, none⟩) b3l).trans b3c0
    replace b3c1 := (hbawg10.cell (p := ⟨b3p, 1, none⟩) b3l).trans b3c1
    replace b3l := Nat.lt_of_lt_of_le b3l hbawg10.size
    replace r4c0 := (hbawg10.cell (p := ⟨r4p, 0, none⟩) r4l).trans r4c0
    replace r4c1 := (hbawg10.cell (p := ⟨r4p, 1, none⟩) r4l).trans r4c1
    replace r4l := Nat.lt_of_lt_of_le r4l hbawg10.size
    replace HW := Lib.hid (HW.out.trans (hbawg10.mono HW.out.size))
    replace HQF : Hid (∀ w', Below _ _ w' → _) := Lib.hid (fun w' hb' => HQF.out w' (hbawg10.trans (hb'.mono hbawg10.size)))
    replace HPD : Hid (∀ w', Below _ _ w' → _) := Lib.hid (fun w' hb' => HPD.out w' (hbawg10.trans (hb'.mono hbawg10.size)))
    replace HQD : Hid (∀ w', Below _ _ w' → _) := Lib.hid (fun w' hb' => HQD.out w' (hbawg10.trans (hb'.mono hbawg10.size)))
    clear hbawg10
    refine (HQF.out _ (.refl _ _)).mono ?_
    clear HQF
    rintro e wg11 ⟨s6, a6, m6, k6, z6, rfl, hR6, hm6, hbwg11⟩
    replace I3 := Lib.hid (I3.out.below hbwg11)
    replace R4 := Lib.hid (R4.out.below hbwg11)
    replace I5 := Lib.hid (I5.out.below hbwg11)
    replace b1c0 := (hbwg11.cell (p := ⟨b1p, 0, none⟩) b1l).trans b1c0
    replace b1c1 := (hbwg11.cell (p := ⟨b1p, 1, none⟩) b1l).trans b1c1
    replace b1l := Nat.lt_of_lt_of_le b1l hbwg11.size
    replace r1c0 := (hbwg11.cell (p := ⟨r1p, 0, none⟩) r1l).trans r1c0
    replace r1c1 := (hbwg11.cell (p := ⟨r1p, 1, none⟩) r1l).trans r1c1
    replace r1l := Nat.lt_of_lt_of_le r1l hbwg11.size
    replace b2c0 := (hbwg11.cell (p := ⟨b2p, 0, none⟩) b2l).trans b2c0
    replace b2c1 := (hbwg11.cell (p := ⟨b2p, 1, none⟩) b2l).trans b2c1
    replace b2l := Nat.lt_of_lt_of_le b2l hbwg11.size
    replace r2c0 := (hbwg11.cell (p := ⟨r2p, 0, none⟩) r2l).trans r2c0
    replace r2c1 := (hbwg11.cell (p := ⟨r2p, 1, none⟩) r2l).trans r2c1
    replace r2l := Nat.lt_of_lt_of_le r2l hbwg11.size
    replace b3c0 := (hbwg11.cell (p := ⟨b3p, 0, none⟩) b3l).trans b3c0
    replace b3c1 := (hbwg11.cell (p := ⟨b3p, 1, none⟩) b3l).trans b3c1
    replace b3l := Nat.lt_of_lt_of_le b3l hbwg11.size
    replace r4c0 := (hbwg11.cell (p := ⟨r4p, 0, none⟩) r4l).trans r4c0
    replace r4c1 := (hbwg11.cell (p := ⟨r4p, 1, none⟩) r4l).trans r4c1
    replace r4l := Nat.lt_of_lt_of_le r4l hbwg11.size
    replace b5c0 := (hbwg11.cell (p := ⟨b5p, 0, none⟩) b5l).trans b5c0
    replace b5c1 := (hbwg11.cell (p := ⟨b5p, 1, none⟩) b5l).trans b5c1
    replace b5l := Nat.lt_of_lt_of_le b5l hbwg11.size
    replace HW := Lib.hid (HW.out.trans (hbwg11.mono HW.out.size))
    replace HPD : Hid (∀ w', Below _ _ w' → _) := Lib.hid (fun w' hb' => HPD.out w' (hbwg11.trans (hb'.mono hbwg11.size)))
    replace HQD : Hid (∀ w', Below _ _ w' → _) := Lib.hid (fun w' hb' => HQD.out w' (hbwg11.trans (hb'.mono hbwg11.size)))
    have R6 := Lib.hid hR6
    clear hR6 hbwg11
    go_wp2_with fail
    obtain ⟨wg12, hwg12⟩ : ∃ wg12, wg12 = (wg11.alloc (.cells #[.bool s6, .slice a6 m6 k6] 31)) := ⟨_, rfl⟩
    have hbawg12 : Below wg11.heap.size wg11 wg12 := by rw [hwg12]; go_grown
    have hrr6 : wg12.heap[wg11.heap.size]? = some (.cells #[.bool s6, .slice a6 m6 k6] 31 (0, 0)) := by rw [hwg12]; exact heap_alloc_new wg11 _
    rw [← hwg12]
    clear hwg12
    obtain ⟨r6p, hr6p⟩ : ∃ p, p = wg11.heap.size := ⟨_, rfl⟩
    rw [← hr6p] at hrr6 ⊢
    obtain ⟨r6c0, r6c1, -, -⟩ := blk2 hrr6
    have r6l : r6p < wg12.heap.size := World.block_lt_of_cell? _ _ r6c0
    clear hr6p hrr6
    replace I3 := Lib.hid (I3.out.below hbawg12)
    replace R4 := Lib.hid (R4.out.below hbawg12)
    replace I5 := Lib.hid (I5.out.below hbawg12)
    replace R6 := Lib.hid (R6.out.below hbawg12)
    replace b1c0 := (hbawg12.cell (p := ⟨b1p, 0, none⟩) b1l).trans b1c0
    replace b1c1 := (hbawg12.cell (p := ⟨b1p, 1, none⟩) b1l).trans b1c1
    replace b1l := Nat.lt_of_lt_of_le b1l hbawg12.size
    replace r1c0 := (hbawg12.cell (p := ⟨r1p, 0, none⟩) r1l).trans r1c0
    replace r1c1 := (hbawg12.cell (p := ⟨r1p, 1, none⟩) r1l).trans r1c1
    replace r1l := Nat.lt_of_lt_of_le r1l hbawg12.size
    replace b2c0 := (hbawg12.cell (p := ⟨b2p, 0, none⟩) b2l).trans b2c0
    replace b2c1 := (hbawg12.cell (p := ⟨b2p, 1, none⟩) b2l).trans b2c1
    replace b2l := Nat.lt_of_lt_of_le b2l hbawg12.size
    replace r2c0 := (hbawg12.cell (p := ⟨r2p, 0, none⟩) r2l).trans r2c0
    replace r2c1 := (hbawg12.cell (p := ⟨r2p, 1, none⟩) r2l).trans r2c1
    replace r2l := Nat.lt_of_lt_of_le r2l hbawg12.size
    replace b3c0 := (hbawg12.cell (p := ⟨b3p, 0, none⟩) b3l).trans b3c0
    replace b3c1 := (hbawg12.cell (p := ⟨b3p, 1, none⟩) b3l).trans b3c1
    replace b3l := Nat.lt_of_lt_of_le b3l hbawg12.size
    replace r4c0 := (hbawg12.cell (p := ⟨r4p, 0, none⟩) r4l).trans r4c0
    replace r4c1 := (hbawg12.cell (p := ⟨r4p, 1, none⟩) r4l).trans r4c1
    replace r4l := Nat.lt_of_lt_of_le r4l hbawg12.size
    replace b5c0 := (hbawg12.cell (p := ⟨b5p, 0, none⟩) b5l).trans b5c0
    replace b5c1 := (hbawg12.cell (p := ⟨b5p, 1, none⟩) b5l).trans b5c1
    replace b5l := Nat.lt_of_lt_of_le b5l hbawg12.size
    replace HW := Lib.hid (HW.out.trans (hbawg12.mono HW.out.size))
    replace HPD : Hid (∀ w', Below _ _ w' → _) := Lib.hid (fun w' hb' => HPD.out w' (hbawg12.trans (hb'.mono hbawg12.size)))
    replace HQD : Hid (∀ w', Below _ _ w' → _) := Lib.hid (fun w' hb' => HQD.out w' (hbawg12.trans (hb'.mono hbawg12.size)))
    clear hbawg12
    refine (HPD.out _ (.refl _ _)).mono ?_
    clear HPD
    rintro e wg13 ⟨s7, a7, m7, k7, z7, rfl, hI7, hm7, hbwg13⟩
    replace I3 := Lib.hid (I3.out.below hbwg13)
    replace R4 := Lib.hid (R4.out.below hbwg13)
    replace I5 := Lib.hid (I5.out.below hbwg13)
    replace R6 := Lib.hid (R6.out.below hbwg13)
    replace b1c0 := (hbwg13.cell (p := ⟨b1p, 0, none⟩) b1l).trans b1c0
    replace b1c1 := (hbwg13.cell (p := ⟨b1p, 1, none⟩) b1l).trans b1c1
    replace b1l := Nat.lt_of_lt_of_le b1l hbwg13.size
    replace r1c0 := (hbwg13.cell (p := ⟨r1p, 0, none⟩) r1l).trans r1c0
    replace r1c1 := (hbwg13.cell (p := ⟨r1p, 1, none⟩) r1l).trans r1c1
    replace r1l := Nat.lt_of_lt_of_le r1l hbwg13.size
    replace b2c0 := (hbwg13.cell (p := ⟨b2p, 0, none⟩) b2l).trans b2c0
    replace b2c1 := (hbwg13.cell (p := ⟨b2p, 1, none⟩) b2l).trans b2c1
    replace b2l := Nat.lt_of_lt_of_le b2l hbwg13.size
    replace r2c0 := (hbwg13.cell (p := ⟨r2p, 0, none⟩) r2l).trans r2c0
    replace r2c1 := (hbwg13.cell (p := ⟨r2p, 1, none⟩) r2l).trans r2c1
    replace r2l := Nat.lt_of_lt_of_le r2l hbwg13.size
    replace b3c0 := (hbwg13.cell (p := ⟨b3p, 0, none⟩) b3l).trans b3c0
    replace b3c1 := (hbwg13.cell (p := ⟨b3p, 1, none⟩) b3l).trans b3c1
    replace b3l := Nat.lt_of_lt_of_le b3l hbwg13.size
    replace r4c0 := (hbwg13.cell (p := ⟨r4p, 0, none⟩) r4l).trans r4c0
    replace r4c1 := (hbwg13.cell (p := ⟨r4p, 1, none⟩) r4l).trans r4c1
    replace r4l := Nat.lt_of_lt_of_le r4l hbwg13.size
    replace b5c0 := (hbwg13.cell (p := ⟨b5p, 0, none⟩) b5l).trans b5c0
    replace b5c1 := (hbwg13.cell (p := ⟨b5p, 1, none⟩) b5l).trans b5c1
    replace b5l := Nat.lt_of_lt_of_le b5l hbwg13.size
    replace r6c0 := (hbwg13.cell (p := ⟨r6p, 0, none⟩) r6l).trans r6c0
    replace r6c1 := (hbwg13.cell (p := ⟨r6p, 1, none⟩) r6l).trans r6c1
    replace r6l := Nat.lt_of_lt_of_le r6l hbwg13.size
    replace HW := Lib.hid (HW.out.trans (hbwg13.mono HW.out.size))
    replace HQD : Hid (∀ w', Below _ _ w' → _) := Lib.hid (fun w' hb' => HQD.out w' (hbwg13.trans (hb'.mono hbwg13.size)))
    have I7 := Lib.hid hI7
    clear hI7 hbwg13
    go_wp2_with fail
    obtain ⟨wg14, hwg14⟩ : ∃ wg14, wg14 = (wg13.alloc (.cells #[.bool s7, .slice a7 m7 k7] 28)) := ⟨_, rfl⟩
    have hbawg14 : Below wg13.heap.size wg13 wg14 := by rw [hwg14]; go_grown
    have hrb7 : wg14.heap[wg13.heap.size]? = some (.cells #[.bool s7, .slice a7 m7 k7] 28 (0, 0)) := by rw [hwg14]; exact heap_alloc_new wg13 _
    rw [← hwg14]
    clear hwg14
    obtain ⟨b7p, hb7p⟩ : ∃ p, p = wg13.heap.size := ⟨_, rfl⟩
    rw [← hb7p] at hrb7 ⊢
    obtain ⟨b7c0, b7c1, -, -⟩ := blk2 hrb7
    have b7l : b7p < wg14.heap.size := World.block_lt_of_cell? _ _ b7c0
    clear hb7p hrb7
    replace I3 := Lib.hid (I3.out.below hbawg14)
    replace R4 := Lib.hid (R4.out.below hbawg14)
    replace I5 := Lib.hid (I5.out.below hbawg14)
    replace R6 := Lib.hid (R6.out.below hbawg14)
    replace I7 := Lib.hid (I7.out.below hbawg14)
    replace b1c0 := (hbawg14.cell (p := ⟨b1p, 0, none⟩) b1l).trans b1c0
    replace b1c1 := (hbawg14.cell (p := ⟨b1p, 1, none⟩) b1l).trans b1c1
    replace b1l := Nat.lt_of_lt_of_le b1l hbawg14.size
    replace r1c0 := (hbawg14.cell (p := ⟨r1p, 0, none⟩) r1l).trans r1c0
    replace r1c1 := (hbawg14.cell (p := ⟨r1p, 1, none⟩) r1l).trans r1c1
    replace r1l := Nat.lt_of_lt_of_le r1l hbawg14.size
    replace b2c0 := (hbawg14.cell (p := ⟨b2p, 0, none⟩) b2l).trans b2c0
    replace b2c1 := (hbawg14.cell (p := ⟨b2p, 1, none⟩) b2l).trans b2c1
    replace b2l := Nat.lt_of_lt_of_le b2l hbawg14.size
    replace r2c0 := (hbawg14.cell (p := ⟨r2p, 0, none⟩) r2l).trans r2c0
    replace r2c1 := (hbawg14.cell (p := ⟨r2p, 1, none⟩) r2l).trans r2c1
    replace r2l := Nat.lt_of_lt_of_le r2l hbawg14.size
    replace b3c0 := (hbawg14.cell (p := ⟨b3p, 0, none⟩) b3l).trans b3c0
    replace b3c1 := (hbawg14.cell (p := ⟨b3p, 1, none⟩) b3l).trans b3c1
    replace b3l := Nat.lt_of_lt_of_le b3l hbawg14.size
    replace r4c0 := (hbawg14.cell (p := ⟨r4p, 0, none⟩) r4l).trans r4c0
    replace r4c1 := (hbawg14.cell (p := ⟨r4p, 1, none⟩) r4l).trans r4c1
    replace r4l := Nat.lt_of_lt_of_le r4l hbawg14.size
    replace b5c0 := (hbawg14.cell (p := ⟨b5p, 0, none⟩) b5l).trans b5c0
    replace b5c1 := (hbawg14.cell (p := ⟨b5p, 1, none⟩) b5l).trans b5c1
    replace b5l := Nat.lt_of_lt_of_le b5l hbawg14.size
    replace r6c0 := (hbawg14.cell (p := ⟨r6p, 0, none⟩) r6l).trans r6c0
    replace r6c1 := (hbawg14.cell (p := ⟨r6p, 1, none⟩) r6l).trans r6c1
    replace r6l := Nat.lt_of_lt_of_le r6l hbawg14.size
    replace HW := Lib.hid (HW.out.trans (hbawg14.mono HW.out.size))
    replace HQD : Hid (∀ w', Below _ _ w' → _) := Lib.hid (fun w' hb' => HQD.out w' (hbawg14.trans (hb'.mono hbawg14.size)))
    clear hbawg14
    refine (HQD.out _ (.refl _ _)).mono ?_
    clear HQD
    rintro e wg15 ⟨s8, a8, m8, k8, z8, rfl, hR8, hm8, hbwg15⟩
    replace I3 := Lib.hid (I3.out.below hbwg15)
    replace R4 := Lib.hid (R4.out.below hbwg15)
    replace I5 := Lib.hid (I5.out.below hbwg15)
    replace R6 := Lib.hid (R6.out.below hbwg15)
    replace I7 := Lib.hid (I7.out.below hbwg15)
    replace b1c0 := (hbwg15.cell (p := ⟨b1p, 0, none⟩) b1l).trans b1c0
    replace b1c1 := (hbwg15.cell (p := ⟨b1p, 1, none⟩) b1l).trans b1c1
    replace b1l := Nat.lt_of_lt_of_le b1l hbwg15.size
    replace r1c0 := (hbwg15.cell (p := ⟨r1p, 0, none⟩) r1l).trans r1c0
    replace r1c1 := (hbwg15.cell (p := ⟨r1p, 1, none⟩) r1l).trans r1c1
    replace r1l := Nat.lt_of_lt_of_le r1l hbwg15.size
    replace b2c0 := (hbwg15.cell (p := ⟨b2p, 0, none⟩) b2l).trans b2c0
    replace b2c1 := (hbwg15.cell (p := ⟨b2p, 1, none⟩) b2l).trans b2c1
    replace b2l := Nat.lt_of_lt_of_le b2l hbwg15.size
    replace r2c0 := (hbwg15.cell (p := ⟨r2p, 0, none⟩) r2l).trans r2c0
    replace r2c1 := (hbwg15.cell (p := ⟨r2p, 1, none⟩) r2l).trans r2c1
    replace r2l := Nat.lt_of_lt_of_le r2l hbwg15.size
    replace b3c0 := (hbwg15.cell (p := ⟨b3p, 0, none⟩) b3l).trans b3c0
    replace b3c1 := (hbwg15.cell (p := ⟨b3p, 1, none⟩) b3l).trans b3c1
    replace b3l := Nat.lt_of_lt_of_le b3l hbwg15.size
    replace r4c0 := (hbwg15.cell (p := ⟨r4p, 0, none⟩) r4l).trans r4c0
    replace r4c1 := (hbwg15.cell (p := ⟨r4p, 1, none⟩) r4l).trans r4c1
    replace r4l := Nat.lt_of_lt_of_le r4l hbwg15.size
    replace b5c0 := (hbwg15.cell (p := ⟨b5p, 0, none⟩) b5l).trans b5c0
    replace b5c1 := (hbwg15.cell (p := ⟨b5p, 1, none⟩) b5l).trans b5c1
    replace b5l := Nat.lt_of_lt_of_le b5l hbwg15.size
    replace r6c0 := (hbwg15.cell (p := ⟨r6p, 0, none⟩) r6l).trans r6c0
    replace r6c1 := (hbwg15.cell (p := ⟨r6p, 1, none⟩) r6l).trans r6c1
    replace r6l := Nat.lt_of_lt_of_le r6l hbwg15.size
    replace b7c0 := (hbwg15.cell (p := ⟨b7p, 0, none⟩) b7l).trans b7c0
    replace b7c1 := (hbwg15.cell (p := ⟨b7p, 1, none⟩) b7l).trans b7c1
    replace b7l := Nat.lt_of_lt_of_le b7l hbwg15.size
    replace HW := Lib.hid (HW.out.trans (hbwg15.mono HW.out.size))
    have R8 := Lib.hid hR8
    clear hR8 hbwg15
    go_wp2_with fail
    obtain ⟨wg16, hwg16⟩ : ∃ wg16, wg16 = (wg15.alloc (.cells #[.bool s8, .slice a8 m8 k8] 31)) := ⟨_, rfl⟩
    have hbawg16 : Below wg15.heap.size wg15 wg16 := by rw [hwg16]; go_grown
    have hrr8 : wg16.heap[wg15.heap.size]? = some (.cells #[.bool s8, .slice a8 m8 k8] 31 (0, 0)) := by rw [hwg16]; exact heap_alloc_new wg15 _
    rw [← hwg16]
    clear hwg16
    obtain ⟨r8p, hr8p⟩ : ∃ p, p = wg15.heap.size := ⟨_, rfl⟩
    rw [← hr8p] at hrr8 ⊢
    obtain ⟨r8c0, r8c1, -, -⟩ := blk2 hrr8
    have r8l : r8p < wg16.heap.size := World.block_lt_of_cell? _ _ r8c0
    clear hr8p hrr8
    replace I3 := Lib.hid (I3.out.below hbawg16)
    replace R4 := Lib.hid (R4.out.below hbawg16)
    replace I5 := Lib.hid (I5.out.below hbawg16)
    replace R6 := Lib.hid (R6.out.below hbawg16)
    replace I7 := Lib.hid (I7.out.below hbawg16)
    replace R8 := Lib.hid (R8.out.below hbawg16)
    replace b1c0 := (hbawg16.cell (p := ⟨b1p, 0, none⟩) b1l).trans b1c0
    replace b1c1 := (hbawg16.cell (p := ⟨b1p, 1, none⟩) b1l).trans b1c1
    replace b1l := Nat.lt_of_lt_of_le b1l hbawg16.size
    replace r1c0 := (hbawg16.cell (p := ⟨r1p, 0, none⟩) r1l).trans r1c0
    replace r1c1 := (hbawg16.cell (p := ⟨r1p, 1, none⟩) r1l).trans r1c1
    replace r1l := Nat.lt_of_lt_of_le r1l hbawg16.size
    replace b2c0 := (hbawg16.cell (p := ⟨b2p, 0, none⟩) b2l).trans b2c0
    replace b2c1 := (hbawg16.cell (p := ⟨b2p, 1, none⟩) b2l).trans b2c1
    replace b2l := Nat.lt_of_lt_of_le b2l hbawg16.size
    replace r2c0 := (hbawg16.cell (p := ⟨r2p, 0, none⟩) r2l).trans r2c0
    replace r2c1 := (hbawg16.cell (p := ⟨r2p, 1, none⟩) r2l).trans r2c1
    replace r2l := Nat.lt_of_lt_of_le r2l hbawg16.size
    replace b3c0 := (hbawg16.cell (p := ⟨b3p, 0, none⟩) b3l).trans b3c0
    replace b3c1 := (hbawg16.cell (p := ⟨b3p, 1, none⟩) b3l).trans b3c1
    replace b3l := Nat.lt_of_lt_of_le b3l hbawg16.size
    replace r4c0 := (hbawg16.cell (p := ⟨r4p, 0, none⟩) r4l).trans r4c0
    replace r4c1 := (hbawg16.cell (p := ⟨r4p, 1, none⟩) r4l).trans r4c1
    replace r4l := Nat.lt_of_lt_of_le r4l hbawg16.size
    replace b5c0 := (hbawg16.cell (p := ⟨b5p, 0, none⟩) b5l).trans b5c0
    replace b5c1 := (hbawg16.cell (p := ⟨b5p, 1, none⟩) b5l).trans b5c1
    replace b5l := Nat.lt_of_lt_of_le b5l hbawg16.size
    replace r6c0 := (hbawg16.cell (p := ⟨r6p, 0, none⟩) r6l).trans r6c0
    replace r6c1 := (hbawg16.cell (p := ⟨r6p, 1, none⟩) r6l).trans r6c1
    replace r6l := Nat.lt_of_lt_of_le r6l hbawg16.size
    replace b7c0 := (hbawg16.cell (p := ⟨b7p, 0, none⟩) b7l).trans b7c0
    replace b7c1 := (hbawg16.cell (p := ⟨b7p, 1, none⟩) b7l).trans b7c1
    replace b7l := Nat.lt_of_lt_of_le b7l hbawg16.size
    replace HW := Lib.hid (HW.out.trans (hbawg16.mono HW.out.size))
    clear hbawg16
    clear b1c0 b1c1 b1l
    clear r1c0 r1c1 r1l
    clear b2c0 b2c1 b2l
    clear r2c0 r2c1 r2l
    have hIS3 := is_any wg16 s3 s4 a3 a4 m3 m4 k3 k4 z3 z4 P P I3.out R4.out (by omega) (by omega)
    rw [decide_eq_true rfl] at hIS3
    refine hIS3.mono ?_
    clear hIS3
    rintro e wg17 ⟨rfl, hbwg17⟩
    replace I3 := Lib.hid (I3.out.below hbwg17)
    replace R4 := Lib.hid (R4.out.below hbwg17)
    replace I5 := Lib.hid (I5.out.below hbwg17)
    replace R6 := Lib.hid (R6.out.below hbwg17)
    replace I7 := Lib.hid (I7.out.below hbwg17)
    replace R8 := Lib.hid (R8.out.below hbwg17)
    replace b3c0 := (hbwg17.cell (p := ⟨b3p, 0, none⟩) b3l).trans b3c0
    replace b3c1 := (hbwg17.cell (p := ⟨b3p, 1, none⟩) b3l).trans b3c1
    replace b3l := Nat.lt_of_lt_of_le b3l hbwg17.size
    replace r4c0 := (hbwg17.cell (p := ⟨r4p, 0, none⟩) r4l).trans r4c0
    replace r4c1 := (hbwg17.cell (p := ⟨r4p, 1, none⟩) r4l).trans r4c1
    replace r4l := Nat.lt_of_lt_of_le r4l hbwg17.size
    replace b5c0 := (hbwg17.cell (p := ⟨b5p, 0, none⟩) b5l).trans b5c0
    replace b5c1 := (hbwg17.cell (p := ⟨b5p, 1, none⟩) b5l).trans b5c1
    replace b5l := Nat.lt_of_lt_of_le b5l hbwg17.size
    replace r6c0 := (hbwg17.cell (p := ⟨r6p, 0, none⟩) r6l).trans r6c0
    replace r6c1 := (hbwg17.cell (p := ⟨r6p, 1, none⟩) r6l).trans r6c1
    replace r6l := Nat.lt_of_lt_of_le r6l hbwg17.size
    replace b7c0 := (hbwg17.cell (p := ⟨b7p, 0, none⟩) b7l).trans b7c0
    replace b7c1 := (hbwg17.cell (p := ⟨b7p, 1, none⟩) b7l).trans b7c1
    replace b7l := Nat.lt_of_lt_of_le b7l hbwg17.size
    replace r8c0 := (hbwg17.cell (p := ⟨r8p, 0, none⟩) r8l).trans r8c0
    replace r8c1 := (hbwg17.cell (p := ⟨r8p, 1, none⟩) r8l).trans r8c1
    replace r8l := Nat.lt_of_lt_of_le r8l hbwg17.size
    replace HW := Lib.hid (HW.out.trans (hbwg17.mono HW.out.size))
    clear hbwg17
    go_wp2_with fail
    have hIS5 := is_any wg17 s5 s6 a5 a6 m5 m6 k5 k6 z5 z6 P' P' I5.out R6.out (by omega) (by omega)
    rw [decide_eq_true rfl] at hIS5
    refine hIS5.mono ?_
    clear hIS5
    rintro e wg18 ⟨rfl, hbwg18⟩
    replace I3 := Lib.hid (I3.out.below hbwg18)
    replace R4 := Lib.hid (R4.out.below hbwg18)
    replace I5 := Lib.hid (I5.out.below hbwg18)
    replace R6 := Lib.hid (R6.out.below hbwg18)
    replace I7 := Lib.hid (I7.out.below hbwg18)
    replace R8 := Lib.hid (R8.out.below hbwg18)
    replace b3c0 := (hbwg18.cell (p := ⟨b3p, 0, none⟩) b3l).trans b3c0
    replace b3c1 := (hbwg18.cell (p := ⟨b3p, 1, none⟩) b3l).trans b3c1
    replace b3l := Nat.lt_of_lt_of_le b3l hbwg18.size
    replace r4c0 := (hbwg18.cell (p := ⟨r4p, 0, none⟩) r4l).trans r4c0
    replace r4c1 := (hbwg18.cell (p := ⟨r4p, 1, none⟩) r4l).trans r4c1
    replace r4l := Nat.lt_of_lt_of_le r4l hbwg18.size
    replace b5c0 := (hbwg18.cell (p := ⟨b5p, 0, none⟩) b5l).trans b5c0
    replace b5c1 := (hbwg18.cell (p := ⟨b5p, 1, none⟩) b5l).trans b5c1
    replace b5l := Nat.lt_of_lt_of_le b5l hbwg18.size
    replace r6c0 := (hbwg18.cell (p := ⟨r6p, 0, none⟩) r6l).trans r6c0
    replace r6c1 := (hbwg18.cell (p := ⟨r6p, 1, none⟩) r6l).trans r6c1
    replace r6l := Nat.lt_of_lt_of_le r6l hbwg18.size
    replace b7c0 := (hbwg18.cell (p := ⟨b7p, 0, none⟩) b7l).trans b7c0
    replace b7c1 := (hbwg18.cell (p := ⟨b7p, 1, none⟩) b7l).trans b7c1
    replace b7l := Nat.lt_of_lt_of_le b7l hbwg18.size
    replace r8c0 := (hbwg18.cell (p := ⟨r8p, 0, none⟩) r8l).trans r8c0
    replace r8c1 := (hbwg18.cell (p := ⟨r8p, 1, none⟩) r8l).trans r8c1
    replace r8l := Nat.lt_of_lt_of_le r8l hbwg18.size
    replace HW := Lib.hid (HW.out.trans (hbwg18.mono HW.out.size))
    clear hbwg18
    go_wp2_with fail
    have hIS7 := is_any wg18 s7 s8 a7 a8 m7 m8 k7 k8 z7 z8 P'' P'' I7.out R8.out (by omega) (by omega)
    rw [decide_eq_true rfl] at hIS7
    refine hIS7.mono ?_
    clear hIS7
    rintro e wg19 ⟨rfl, hbwg19⟩
    replace I3 := Lib.hid (I3.out.below hbwg19)
    replace R4 := Lib.hid (R4.out.below hbwg19)
    replace I5 := Lib.hid (I5.out.below hbwg19)
    replace R6 := Lib.hid (R6.out.below hbwg19)
    replace I7 := Lib.hid (I7.out.below hbwg19)
    replace R8 := Lib.hid (R8.out.below hbwg19)
    replace b3c0 := (hbwg19.cell (p := ⟨b3p, 0, none⟩) b3l).trans b3c0
    replace b3c1 := (hbwg19.cell (p := ⟨b3p, 1, none⟩) b3l).trans b3c1
    replace b3l := Nat.lt_of_lt_of_le b3l hbwg19.size
    replace r4c0 := (hbwg19.cell (p := ⟨r4p, 0, none⟩) r4l).trans r4c0
    replace r4c1 := (hbwg19.cell (p := ⟨r4p, 1, none⟩) r4l).trans r4c1
    replace r4l := Nat.lt_of_lt_of_le r4l hbwg19.size
    replace b5c0 := (hbwg19.cell (p := ⟨b5p, 0, none⟩) b5l).trans b5c0
    replace b5c1 := (hbwg19.cell (p := ⟨b5p, 1, none⟩) b5l).trans b5c1
    replace b5l := Nat.lt_of_lt_of_le b5l hbwg19.size
    replace r6c0 := (hbwg19.cell (p := ⟨r6p, 0, none⟩) r6l).trans r6c0
    replace r6c1 := (hbwg19.cell (p := ⟨r6p, 1, none⟩) r6l).trans r6c1
    replace r6l := Nat.lt_of_lt_of_le r6l hbwg19.size
    replace b7c0 := (hbwg19.cell (p := ⟨b7p, 0, none⟩) b7l).trans b7c0
    replace b7c1 := (hbwg19.cell (p := ⟨b7p, 1, none⟩) b7l).trans b7c1
    replace b7l := Nat.lt_of_lt_of_le b7l hbwg19.size
    replace r8c0 := (hbwg19.cell (p := ⟨r8p, 0, none⟩) r8l).trans r8c0
    replace r8c1 := (hbwg19.cell (p := ⟨r8p, 1, none⟩) r8l).trans r8c1
    replace r8l := Nat.lt_of_lt_of_le r8l hbwg19.size
    replace HW := Lib.hid (HW.out.trans (hbwg19.mono HW.out.size))
    clear hbwg19
    go_wp2_with fail
    refine (awake_any _).mono ?_
    rintro e we ⟨rfl, hbe⟩
    go_wp2_with fail
    go_ret
    exact ⟨rfl, HW.out.trans (hbe.mono HW.out.size)⟩

theorem fields_law (w : World) (n size at' : Int) (nx ny : Bool) (ax ay : Option Addr) (n1 c1 n2 c2 : Nat) (zx zy : List Int) (hx : Sl w ax n1 c1 zx) (lx : Lim zx) (hy : Sl w ay n2 c2 zy) (ly : Lim zy) (hlo : -9223372036854775808 ≤ n) (hhi : n ≤ 9223372036854775807) :
    Calls Try.prog 8 #[.agg #[.bool nx, .slice ax n1 c1], .agg #[.bool ny, .slice ay n2 c2], .int .i64 n, .int .i64 size, .int .i64 at'] w (RetV w (.bool true)) := by
  by_cases h : n1 ≤ 8 ∧ n2 ≤ 8
  · by_cases hn : Fair n
    · by_cases hs : Fair size
      · by_cases ha : Fair at'
        · exact fields_short w n size at' nx ny ax ay n1 c1 n2 c2 zx zy hx lx hy ly h hn hs ha hlo hhi
        · exact fields_long w n size at' nx ny ax ay n1 c1 n2 c2 (.inr (.inr (.inr ha)))
      · exact fields_long w n size at' nx ny ax ay n1 c1 n2 c2 (.inr (.inr (.inl hs)))
    · exact fields_long w n size at' nx ny ax ay n1 c1 n2 c2 (.inr (.inl hn))
  · exact fields_long w n size at' nx ny ax ay n1 c1 n2 c2 (.inl h)
end Go.Proofs.Ytipjbknoeoajnaa
