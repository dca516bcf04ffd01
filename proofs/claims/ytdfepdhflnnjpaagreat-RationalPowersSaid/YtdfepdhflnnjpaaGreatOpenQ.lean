/- A fraction that is handed in, opened: two numbers. -/
import Derived.Test.YtdfepdhflnnjpaaGreatNumIn
namespace Go.Proofs.YtdfepdhflnnjpaaGreat
open Go.ChangeShapes Go.WideShapes Go.ChangeAt Go.RowKit Go.Joins
set_option autoImplicit false
set_option linter.unusedVariables false

theorem cellsBool : Tryz.prog.cellsOf 4 = 1 := by kernel_rfl
theorem cellsLimbs : Tryz.prog.cellsOf 22 = 1 := by kernel_rfl
theorem cellsQ : Tryz.prog.cellsOf 26 = 4 := by kernel_rfl

set_option maxRecDepth 100000 in
theorem open_cells {H : Type} {enc : TypeId × Value → H} {W : World} {m : Nat} {c0 c1 : Value} {y : DataW H × List MemPlace} (h : DataW.trod enc Tryz.prog W 0 (fun _ => true) true m 24 [c0, c1] = some y) :
    ∃ neg ao n cap zs, c0 = .bool neg ∧ c1 = .slice ao n cap ∧ Sl W ao n cap zs ∧ Lim zs := by
  obtain ⟨y0, y1, k, _, _, h0, h1⟩ := trod_struct2 Tryz.underlying24 h
  have hy0 : DataW.trod enc Tryz.prog W 0 (fun _ => true) true k 4 [c0] = some y0 := by simpa [cellsBool] using h0
  have hy1 : DataW.trod enc Tryz.prog W 0 (fun _ => true) true k 22 [c1] = some y1 := by simpa [cellsLimbs] using h1
  clear h0 h1
  obtain ⟨neg, e0, rfl⟩ := DataW.trod_bool Tryz.underlying4 hy0
  simp at e0
  subst e0
  rcases open_ints Tryz.underlying22 Tryz.underlying138 (by kernel_rfl) hy1 with ⟨hcs, _⟩ | ⟨a, l, c, zs, hcs, _, hl, hm, hz, _, hcell, hwz⟩
  · simp at hcs
    subst hcs
    exact ⟨neg, none, 0, 0, [], rfl, rfl, ⟨rfl, Nat.le_refl _, by unfold maxLen; omega, fun _ => rfl, .inl rfl⟩, by intro z hz; simp at hz⟩
  · simp at hcs
    subst hcs
    simp at hz
    refine ⟨neg, some a, l, c, zs.take l, rfl, rfl, ⟨by rw [List.length_take]; omega, hl, hm, fun h => by simp at h, ?_⟩, ?_⟩
    · by_cases h0 : l = 0
      · left; simp [h0]
      · right
        obtain ⟨b, off, spot⟩ := a
        have hc := hcell 0 (by omega)
        have hspot : spot = none := by simpa [Addr.add] using World.cell?_spot hc
        subst hspot
        refine ⟨b, off, rfl, ?_⟩
        intro i hi
        rw [List.length_take] at hi
        have := hcell i (by omega)
        have e : (⟨b, off, none⟩ : Addr).add i = ⟨b, off + i, none⟩ := by
          by_cases h : i = 0 <;> simp [Addr.add, h]
        rw [e] at this
        have h2 : (zs.take l).getD i 0 = zs.getD i 0 := by
          rw [getD_lt (a := zs.take l) (by rw [List.length_take]; omega), getD_lt (a := zs) (by omega), List.getElem_take]
        rw [this, h2]
    · intro z hz2
      have := hwz z (List.mem_of_mem_take hz2)
      simp only [Lit.wf, Bool.and_eq_true, decide_eq_true_eq] at this
      have h1 : IntKind.u32.min = 0 := by decide
      have h2 : IntKind.u32.max = 4294967295 := by decide
      rw [h1, h2] at this
      omega

set_option maxRecDepth 100000 in
theorem open_frac {H : Type} {enc : TypeId × Value → H} {W : World} {b0 : Nat} {r : Reach} {v : Value} {d : DataW H} {p : List MemPlace} (hv : Value.okWide Tryz.prog W r b0 26 v) (h : DataW.Trod enc Tryz.prog W 0 (fun _ => true) true 26 v d p) :
    ∃ neg ao n cap zs deg bo m cup ys, v = .agg #[.bool neg, .slice ao n cap, .bool deg, .slice bo m cup] ∧ Sl W ao n cap zs ∧ Lim zs ∧ Sl W bo m cup ys ∧ Lim ys := by
  obtain ⟨cs, rfl, hsz⟩ := okWide_struct Tryz.underlying26 hv
  rw [cellsQ] at hsz
  obtain ⟨c0, c1, c2, c3, rfl⟩ := array4 hsz
  obtain ⟨fuel, hf⟩ := h
  obtain ⟨y0, y1, k, _, _, h0, h1⟩ := trod_struct2 Tryz.underlying26 hf
  have hy0 : DataW.trod enc Tryz.prog W 0 (fun _ => true) true k 24 [c0, c1] = some y0 := by simpa [Value.cells, cellsN] using h0
  have hy1 : DataW.trod enc Tryz.prog W 0 (fun _ => true) true k 24 [c2, c3] = some y1 := by simpa [Value.cells, cellsN] using h1
  clear h0 h1 hf
  obtain ⟨neg, ao, n, cap, zs, rfl, rfl, s0, l0⟩ := open_cells hy0
  obtain ⟨deg, bo, m, cup, ys, rfl, rfl, s1, l1⟩ := open_cells hy1
  exact ⟨neg, ao, n, cap, zs, deg, bo, m, cup, ys, rfl, s0, l0, s1, l1⟩

end Go.Proofs.YtdfepdhflnnjpaaGreat
