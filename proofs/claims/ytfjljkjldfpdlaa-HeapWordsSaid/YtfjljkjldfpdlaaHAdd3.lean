/- add: an object behind all others. -/
import Derived.Test.YtfjljkjldfpdlaaHAdd2
namespace Go.Proofs.Ytfjljkjldfpdlaa
open Go.RowKit
set_option autoImplicit false
set_option linter.unusedVariables false

def AddPost (w : World) (hb : Nat) (D : Hd) (wo : Option Addr) (wk : Nat) (bo : Option Addr) (bk n : Nat) (ws : List Int) (bs : List Bool) (kind count : Nat) (e : Ending) (w' : World) : Prop :=
  ∃ g wk2 gb bk2, e = .returned (.int .i64 (n : Int)) ∧ HeapAt w' hb D (some ⟨g, 0, none⟩) wk2 (some ⟨gb, 0, none⟩) bk2 (n + (1 + count)) (n + (1 + count)) (ws ++ ((kind + 64 * count : Nat) : Int) :: List.replicate count 3) (bs ++ true :: List.replicate count false) ∧
    Frame (rows wo wk bo bk n hb) w w' ∧ ((Value.slice wo n wk).ownBlock = some g ∨ w.heap.size ≤ g) ∧ ((Value.slice bo n bk).ownBlock = some gb ∨ w.heap.size ≤ gb)

/-- A loop's world: k fields are written. -/
def Filled (w5 : World) (hb : Nat) (D : Hd) (g wk gb bk N : Nat) (ws : List Int) (bs : List Bool) (V : Int) (count k : Nat) (wr : World) : Prop :=
  HeapAt wr hb D (some ⟨g, 0, none⟩) wk (some ⟨gb, 0, none⟩) bk N N (ws ++ V :: (List.replicate k 3 ++ List.replicate (count - k) 0)) (bs ++ true :: List.replicate count false) ∧ Frame [some g, some gb] w5 wr
theorem Filled.step {w5 : World} {hb : Nat} {D : Hd} {g wk gb bk N : Nat} {ws : List Int} {bs : List Bool} {V : Int} {count k : Nat} {wr : World} {n : Nat} (h : Filled w5 hb D g wk gb bk N ws bs V count k wr) (hw : ws.length = n) (hk : k < count) :
    Filled w5 hb D g wk gb bk N ws bs V count (k + 1) (wr.setCell ⟨g, n + 1 + k, none⟩ (.int .u64 3)) := by
  refine ⟨?_, h.2.setCell (by simp) _⟩
  have := h.1.setWord (n + 1 + k) 3
  rwa [set_field ws n count k V 3 hw hk] at this

theorem add_end {w w4 w5 wr : World} {hb : Nat} {D : Hd} {wo : Option Addr} {wk : Nat} {bo : Option Addr} {bk n : Nat} {ws : List Int} {bs : List Bool} {kind count : Nat} {g wk2 gb bk2 N : Nat} {V : Int}
    (h : Filled w5 hb D g wk2 gb bk2 N ws bs V count count wr) (hN : n + (1 + count) = N) (hV : V = ((kind + 64 * count : Nat) : Int)) (h4 : Frame (rows wo wk bo bk n hb) w w4) (h5 : Frame [some hb, (Value.slice bo n bk).ownBlock] w4 w5)
    (ha : (Value.slice wo n wk).ownBlock = some g ∨ w.heap.size ≤ g) (hb' : (Value.slice bo n bk).ownBlock = some gb ∨ w4.heap.size ≤ gb) : AddPost w hb D wo wk bo bk n ws bs kind count (.returned (.int .i64 (n : Int))) wr := by
  have hs := h4.size
  refine ⟨g, wk2, gb, bk2, rfl, ?_, ?_, ha, hb'.imp id fun h => by omega⟩
  · have := h.1
    rw [Nat.sub_self, List.replicate_zero, List.append_nil, hV] at this
    rw [hN]
    exact this
  · refine (h4.trans h5 ?_).trans h.2 ?_
    · intro k hk hm
      simp at hm
      unfold rows
      simp
      rcases hm with rfl | hm
      · exact .inl rfl
      · exact .inr (.inr hm)
    · intro k hk hm
      simp at hm
      unfold rows
      rcases hm with rfl | rfl
      · rcases ha with e | e
        · simp [e]
        · omega
      · rcases hb' with e | e
        · simp [e]
        · omega

set_option maxRecDepth 100000 in
set_option maxHeartbeats 4000000 in
theorem add_any (w : World) (hb : Nat) (D : Hd) (wo : Option Addr) (wk : Nat) (bo : Option Addr) (bk : Nat) (n : Nat) (ws : List Int) (bs : List Bool) (kind count : Nat) (h : HeapAt w hb D wo wk bo bk n n ws bs)
    (hk : kind < 32) (hc : count ≤ 16384) (hn : n ≤ 70000) :
    Calls Try.prog 65 #[.pointer (some ⟨hb, 0, none⟩), .agg #[.int .i64 (kind : Int), .bool false, .int .i64 (count : Int)]] w (AddPost w hb D wo wk bo bk n ws bs kind count) := by
  obtain ⟨c2, c3, c4, f2, f3, f4⟩ := cells8 h.blk
  have hlt : hb < w.heap.size := World.block_lt_of_cell? w _ c2
  have HH := Lib.hid h
  have HW := Lib.hid h.wrow
  obtain ⟨i0, hi, hz0, hz1, hz2⟩ := info_parts info_word
  obtain ⟨i1, hj, hy0, hy1, hy2⟩ := info_parts info_bool
  obtain ⟨m, hm⟩ : ∃ m, 1 + count = m := ⟨_, rfl⟩
  have HM := Lib.hid hm
  have hm0 : 0 < m := by omega
  have hm1 : m ≤ 16385 := by omega
  have hz3 : (Value.int IntKind.u64 0).cells = #[.int .u64 0] := rfl
  have hrows : ∀ k, (Value.slice wo n wk).ownBlock = some k → hb + 1 ≤ k ∧ k < w.heap.size := h.wrow.lt
  have HR := Lib.hid hrows
  clear h hm hrows
  go_enter Try.func65, Try.ntmps65
  go_wp2_with fail
  obtain ⟨p, hp⟩ : ∃ p, p = w.heap.size := ⟨_, rfl⟩
  obtain ⟨ho, hho⟩ : ∃ ho, ho = Obj.cells #[.int .i64 (kind : Int), .bool false, .int .i64 (count : Int)] 91 (0, 0) := ⟨_, rfl⟩
  obtain ⟨w1, hw1⟩ : ∃ w1, w1 = w.alloc (.cells #[.int .i64 (kind : Int), .bool false, .int .i64 (count : Int)] 91) := ⟨_, rfl⟩
  have hsz1 : w1.heap.size = p + 1 := by rw [hw1, hp]; simp
  have hx : w1.heap[p]? = some (.cells #[.int .i64 (kind : Int), .bool false, .int .i64 (count : Int)] 91 (0, 0)) := by rw [hw1, hp]; exact heap_alloc_new _ _
  have x0 : w1.cell? ⟨p, 0, none⟩ = some (.int .i64 (kind : Int)) := by simp [World.cell?, hx]
  have x1 : w1.cell? ⟨p, 1, none⟩ = some (.bool false) := by simp [World.cell?, hx]
  have x2 : w1.cell? ⟨p, 2, none⟩ = some (.int .i64 (count : Int)) := by simp [World.cell?, hx]
  have d2 : w1.cell? ⟨hb, 2, none⟩ = some (.slice wo n wk) := by rw [hw1]; exact (World.cell?_of_block (heap_alloc_old w _ hlt)).trans c2
  have e2 : w1.frozen? ⟨hb, 2, none⟩ = false := by rw [hw1]; exact (World.frozen?_of_block (heap_alloc_old w _ hlt)).trans f2
  have HW1 : Hid (w1.ownsRow (hb + 1) 23 1 (.slice wo n wk) n (ws.map (.int .u64))) := Lib.hid (by rw [hw1]; exact HW.out.alloc _)
  rw [← hw1, ← hp]
  have HW1E : Hid (w1 = w.alloc ho) := Lib.hid (by rw [hho]; exact hw1)
  have HP := Lib.hid hp
  have HHO := Lib.hid hho
  have hltp : hb < p := by rw [hp]; exact hlt
  have HSZ1 := Lib.hid hsz1
  clear hw1 hp hx hsz1 hho
  have HA1 : Hid (∀ w2, Below w1.heap.size w1 w2 → w2.ownsRow (hb + 1) 23 1 (.slice wo n wk) n (ws.map (.int .u64))) := Lib.hid fun w2 hb2 => row_frame (ks := []) (Frame.ofBelow hb2 (Nat.le_refl _)) HW1.out (by simp)
  have QB1 : Hid (hb < w1.heap.size) := Lib.hid (by have := HSZ1.out; omega)
  have QB2 : Hid (some hb ≠ (Value.slice wo n wk).ownBlock) := Lib.hid (by intro h; have := HR.out _ h.symm; omega)
  go_cut [5] (fun q wx => q = .int .i64 (n : Int) ∧ Cut2 w hb p D wo wk bo bk n m ws bs ho wx)
  case first =>
    go_region_law (first | (go_simp; (with_reducible refine (size_any _ (kind : Int) count m (by omega) HM.out).mono ?_); rintro e w2 ⟨rfl, hb2⟩; dsimp only; have hb3 : Below w1.heap.size w1 w2 := (by first | exact hb2 | exact (Below.refl _ _).drew.trans hb2); have y2 : w2.cell? ⟨hb, 2, none⟩ = some (.slice wo n wk) := (hb3.cell QB1.out).trans d2) | (refine step_append_zeros rfl _ _ 32 3 rfl (hb + 1) 23 i0 (.int .u64 0) (.int .u64 0) .i64 .i64 Try.underlying32 Try.underlying3 hi hz0 hz1 hz3 rfl (.slice wo n wk) n (ws.map (.int .u64)) (by rfl) (HA1.out _ hb3) m (by rfl) (by omega) (by unfold maxLen; omega) (by rw [hz2]; omega) (by have := HSZ1.out; have := hb3.size; omega) ?_; intro g wc2 w3 hown2 hgrow hat hlt2; have z2 := keep_cell hb3 hgrow QB1.out QB2.out _ d2; have g2 := keep_frozen hb3 hgrow QB1.out QB2.out _ e2))
    all_goals (go_wp2_with fail; go_meet; exact ⟨rfl, cut2_mk HH.out HP.out HW1E.out hb3 hown2 hgrow hat⟩)
  case rest =>
    obtain ⟨rfl, g, wk2, hH2, hF2, hx2, hat2⟩ := hcut
    obtain ⟨w4, hw4⟩ : ∃ w4, w4 = wc := ⟨_, rfl⟩
    rw [← hw4] at hH2 hF2 hx2 ⊢
    clear hw4
    rw [HHO.out] at hx2
    clear x0 x1 x2 d2 e2 c2 c3 c4 f2 f3 f4
    have x0 : w4.cell? ⟨p, 0, none⟩ = some (.int .i64 (kind : Int)) := by simp [World.cell?, hx2]
    have x1 : w4.cell? ⟨p, 1, none⟩ = some (.bool false) := by simp [World.cell?, hx2]
    have x2 : w4.cell? ⟨p, 2, none⟩ = some (.int .i64 (count : Int)) := by simp [World.cell?, hx2]
    obtain ⟨-, d3, -, -, e3, -⟩ := cells8 hH2.blk
    have hlp4 : p < w4.heap.size := World.block_lt_of_cell? w4 _ x0
    have HR2 := Lib.hid hH2.brow.lt
    have hpr : some p ≠ (Value.slice bo n bk).ownBlock := by
      intro h
      have h1 := HH.out.brow.lt p h.symm
      have := HP.out
      omega
    have QB1' : Hid (hb < w4.heap.size) := Lib.hid (by omega)
    have QB2' : Hid (some hb ≠ (Value.slice bo n bk).ownBlock) := Lib.hid (by intro h; have := HR2.out _ h.symm; omega)
    have HPR := Lib.hid hpr
    have HX4 := Lib.hid hx2
    have HH4 := Lib.hid hH2
    have HF4 := Lib.hid hF2
    have HAT2 := Lib.hid hat2
    have HB1 : Hid (∀ w2, Below w4.heap.size w4 w2 → w2.ownsRow (hb + 1) 4 1 (.slice bo n bk) n (bs.map .bool)) := Lib.hid fun w2 hb2 => row_frame (ks := []) (Frame.ofBelow hb2 (Nat.le_refl _)) HH4.out.brow (by simp)
    have hy3 : (Value.bool false).cells = #[.bool false] := rfl
    clear hx2 hH2 hF2 hat2 hpr
    go_wp2_with fail
    go_cut [5] (fun q wx => q = .int .i64 (n : Int) ∧ Cut3 w4 hb p D g wk2 bo bk (n + m) n m (ws ++ List.replicate m 0) bs (Obj.cells #[.int .i64 (kind : Int), .bool false, .int .i64 (count : Int)] 91 (0, 0)) wx)
    case first =>
      go_region_law (first | (go_simp; (with_reducible refine (size_any _ (kind : Int) count m (by omega) HM.out).mono ?_); rintro e w2 ⟨rfl, hb2⟩; dsimp only; have hb3 : Below w4.heap.size w4 w2 := (by first | exact hb2 | exact (Below.refl _ _).drew.trans hb2); have y2 : w2.cell? ⟨hb, 3, none⟩ = some (.slice bo n bk) := (hb3.cell QB1'.out).trans d3) | (refine step_append_zeros rfl _ _ 106 3 rfl (hb + 1) 4 i1 (.bool false) (.bool false) .i64 .i64 Try.underlying106 Try.underlying3 hj hy0 hy1 hy3 rfl (.slice bo n bk) n (bs.map .bool) (by rfl) (HB1.out _ hb3) m (by rfl) (by omega) (by unfold maxLen; omega) (by rw [hy2]; omega) (by have := hb3.size; omega) ?_; intro gb bk2 w3 hown2 hgrow hat hlt2; have z2 := keep_cell hb3 hgrow QB1'.out QB2'.out _ d3; have g2 := keep_frozen hb3 hgrow QB1'.out QB2'.out _ e3))
      all_goals (go_wp2_with fail; go_meet; exact ⟨rfl, cut3_mk HH4.out HX4.out (by omega) HPR.out hb3 hown2 hgrow hat⟩)
    case rest =>
      obtain ⟨rfl, gb, bk2, hH5, hF5, hx5, hat5⟩ := hcut
      obtain ⟨w5, hw5⟩ : ∃ w5, w5 = wc := ⟨_, rfl⟩
      rw [← hw5] at hH5 hF5 hx5 ⊢
      clear hw5 x0 x1 x2 d3 e3
      obtain ⟨N, hN⟩ : ∃ N, N = n + m := ⟨_, rfl⟩
      rw [← hN] at hH5
      have HN := Lib.hid hN
      have hnN : n < N := by omega
      have hN2 : N ≤ 90000 := by omega
      obtain ⟨V, hV⟩ : ∃ V : Int, V = ((kind + 64 * count : Nat) : Int) := ⟨_, rfl⟩
      have HPK : Hid (∀ w, Calls Try.prog 80 #[.agg #[.int .i64 (kind : Int), .bool false, .int .i64 (count : Int)]] w (RetV w (.int .u64 V))) := Lib.hid fun w => by rw [hV]; exact pack_any w kind count hk (by omega)
      have HV := Lib.hid hV
      clear hN hV
      have x0 : w5.cell? ⟨p, 0, none⟩ = some (.int .i64 (kind : Int)) := by simp [World.cell?, hx5]
      have x1 : w5.cell? ⟨p, 1, none⟩ = some (.bool false) := by simp [World.cell?, hx5]
      have x2 : w5.cell? ⟨p, 2, none⟩ = some (.int .i64 (count : Int)) := by simp [World.cell?, hx5]
      obtain ⟨d2, -, -, -, -, -⟩ := cells8 hH5.blk
      obtain ⟨r1, r2, r3, r4, r5⟩ := hH5.room
      unfold maxLen at r2
      obtain ⟨q1, q2⟩ := word_at hH5 hnN
      have hpg : p ≠ g := row_not hH5.wrow hx5 (by decide)
      have HH5 := Lib.hid hH5
      have HX5 := Lib.hid hx5
      have HPG := Lib.hid hpg
      have HF5 := Lib.hid hF5
      have HAT5 := Lib.hid hat5
      have R3 := Lib.hid r3
      clear hH5 hx5 hpg hF5 hat5 r3
      have hln : (n : Int) < (N : Int) := by omega
      go_wp2_with fail
      go_cut [5] (fun q wx => q = .int .i64 (n : Int) ∧ Cut4 w5 hb p D g wk2 (some ⟨gb, 0, none⟩) bk2 N N ((ws ++ List.replicate m 0).set n V) (bs ++ List.replicate m false) (Obj.cells #[.int .i64 (kind : Int), .bool false, .int .i64 (count : Int)] 91 (0, 0)) wx)
      case first =>
        go_region_law (go_simp; (with_reducible refine (HPK.out _).mono ?_); rintro e w2 ⟨rfl, hb2⟩; dsimp only; have hb3 : Below w5.heap.size w5 w2 := (by first | exact hb2 | exact (Below.refl _ _).drew.trans hb2); have y2 : w2.cell? ⟨hb, 2, none⟩ = some (.slice (some ⟨g, 0, none⟩) N wk2) := (hb3.cell (by dsimp only; omega)).trans d2; have y3 : w2.cell? ⟨g, n, none⟩ = _ := (hb3.cell (by dsimp only; omega)).trans q1; have y4 : w2.frozen? ⟨g, n, none⟩ = false := (hb3.frozen (by dsimp only; omega)).trans q2)
        all_goals (go_wp2_with fail; go_meet; exact ⟨rfl, cut4_mk HH5.out HX5.out HPG.out hb3 _ _⟩)
      case rest =>
        obtain ⟨rfl, hH6, hF6, hx6⟩ := hcut
        obtain ⟨w6, hw6⟩ : ∃ w6, w6 = wc := ⟨_, rfl⟩
        rw [← hw6] at hH6 hF6 hx6 ⊢
        clear hw6 x0 x1 x2 d2 q1 q2 r1 r2
        have HH6 := Lib.hid hH6
        obtain ⟨-, d3, -, -, -, -⟩ := cells8 hH6.blk
        obtain ⟨r1, r2, r3, r4', r5'⟩ := hH6.roomB
        unfold maxLen at r2
        obtain ⟨q1, q2⟩ := mark_at hH6 hnN
        have hpgb : p ≠ gb := row_not hH6.brow hx6 (by decide)
        have HH7 := Lib.hid (hH6.setBegin n true)
        have HF7 : Hid (Frame [some g, some gb] w5 (w6.setCell ⟨gb, n, none⟩ (.bool true))) := Lib.hid ((hF6.mono (by simp; intros; simp_all)).setCell (by simp) _)
        have HX7 : Hid ((w6.setCell ⟨gb, n, none⟩ (.bool true)).heap[p]? = some (.cells #[.int .i64 (kind : Int), .bool false, .int .i64 (count : Int)] 91 (0, 0))) := Lib.hid (by rw [Below.heap_setCell _ _ _ _ (by simpa using hpgb)]; exact hx6)
        obtain ⟨w7, hw7⟩ : ∃ w7, w7 = w6.setCell ⟨gb, n, none⟩ (.bool true) := ⟨_, rfl⟩
        have x0 : (w6.setCell ⟨gb, n, none⟩ (.bool true)).cell? ⟨p, 0, none⟩ = some (.int .i64 (kind : Int)) := by simp [World.cell?, HX7.out]
        have x1 : (w6.setCell ⟨gb, n, none⟩ (.bool true)).cell? ⟨p, 1, none⟩ = some (.bool false) := by simp [World.cell?, HX7.out]
        have x2 : (w6.setCell ⟨gb, n, none⟩ (.bool true)).cell? ⟨p, 2, none⟩ = some (.int .i64 (count : Int)) := by simp [World.cell?, HX7.out]
        have R3b := Lib.hid r3
        clear hH6 hF6 hx6 r3
        have HW7 := Lib.hid hw7
        clear hw7
        go_wp2_with fail
        rw [← HW7.out]
        rw [← HW7.out] at HH7 HF7
        obtain ⟨d2, -, -, -, -, -⟩ := cells8 HH7.out.blk
        obtain ⟨s1, s2, -, -, -⟩ := HH7.out.room
        refine (fields_any _ hb g N wk2 n count (kind : Int) d2 (by have := HN.out; have := HM.out; omega) s2).mono ?_
        rintro e w8 ⟨ao, c8, rfl, hao, hb8⟩
        have HAO := Lib.hid hao
        have hlw : ws.length = n := by have := HH.out.wrow.1; simpa using this
        have hlb : bs.length = n := by have := HH.out.brow.1; simpa using this
        have HLW := Lib.hid hlw
        have hfill : Filled w5 hb D g wk2 gb bk2 N ws bs V count 0 w8 := by
          refine ⟨?_, HF7.out.trans (Frame.ofBelow (ks := []) hb8 (Nat.le_refl _)) (by simp)⟩
          have h8 := HH7.out.frame (Frame.ofBelow (ks := []) hb8 (Nat.le_refl _)) (by simp) (by simp) (by simp)
          rw [set_head ws n count m hlw HM.out, set_mark bs n count m hlb HM.out] at h8
          simpa using h8
        have HFL := Lib.hid hfill
        have HCN : Hid (n + (1 + count) = N) := Lib.hid (by have := HN.out; have := HM.out; omega)
        clear hfill hlw hlb hao d2 s1 s2 x0 x1 x2 d3 q1 q2 r1 r2
        go_wp2_with fail
        go_loopw [53, 7] (fun i v wr => ∃ k : Nat, k ≤ count ∧ i = .int .i64 k ∧ Filled w5 hb D g wk2 gb bk2 N ws bs V count k wr) (fun i _ _ => count - (intOf i).toNat)
        case atStart => exact ⟨0, Nat.zero_le _, rfl, HFL.out⟩
        case round =>
          obtain ⟨k, hk, rfl, hfl⟩ := hrel
          have HK := Lib.hid hfl
          clear hfl
          by_cases hkc : k < count
          · obtain rfl := HAO.out (by omega)
            have hki : (k : Int) < (count : Int) := by omega
            obtain ⟨z1, z2⟩ := word_at HK.out.1 (j := n + 1 + k) (by have := HCN.out; omega)
            go_wp2_with fail
            go_roundw
            case rel => exact ⟨k + 1, by omega, by go_num, HK.out.step HLW.out hkc⟩
            case measure => simp [intOf]; omega
          · obtain rfl : k = count := by omega
            go_wp2_with fail
            go_ret
            exact add_end HK.out HCN.out HV.out HF4.out HF5.out HAT2.out HAT5.out
end Go.Proofs.Ytfjljkjldfpdlaa
