/- The fixed sums that every statement ends with: the quotient of -7 and 2, the text of 255, and the bits of -4 and 7. -/
import Derived.Test.YtpakfknacmcohaaIs
import Derived.Test.YtpakfknacmcohaaBits3
namespace Go.Proofs.Ytpakfknacmcohaa
open Go.RowKit
set_option autoImplicit false
set_option linter.unusedVariables false

theorem one_of_val {zs : List Int} (lz : Lim zs) (tz : Top zs) (v : Int) (h0 : 0 < v) (h1 : v ≤ 4294967295) (h : val zs = v) : zs = [v] := by
  refine eq_of_val lz ?_ tz ?_ ?_
  · intro z hz; simp at hz; omega
  · right; simp; omega
  · rw [h]; simp [val]

theorem IntAt.pos {w : World} {neg : Bool} {ao : Option Addr} {n cap : Nat} {zs : List Int} (v : Int) (h0 : 0 < v) (h1 : v ≤ 4294967295) (h : IntAt w neg ao n cap zs v) : zs = [v] ∧ n = 1 ∧ neg = false := by
  have hv := h.val
  have hn := val_nonneg h.lim
  have hneg : neg = false := by
    cases neg with
    | false => rfl
    | true => simp [sgn] at hv; omega
  subst hneg
  have hz := one_of_val h.lim h.top v h0 h1 (by simp [sgn] at hv; omega)
  refine ⟨hz, ?_, rfl⟩
  have := h.sl.len
  rw [hz] at this
  simp at this
  omega

theorem IntAt.neg1 {w : World} {neg : Bool} {ao : Option Addr} {n cap : Nat} {zs : List Int} (v : Int) (h0 : 0 < v) (h1 : v ≤ 4294967295) (h : IntAt w neg ao n cap zs (-v)) : zs = [v] ∧ n = 1 ∧ neg = true := by
  have hv := h.val
  have hn := val_nonneg h.lim
  have hneg : neg = true := by
    cases neg with
    | true => rfl
    | false => simp [sgn] at hv; omega
  subst hneg
  have hz := one_of_val h.lim h.top v h0 h1 (by simp [sgn] at hv; omega)
  refine ⟨hz, ?_, rfl⟩
  have := h.sl.len
  rw [hz] at this
  simp at this
  omega

theorem div7 (w : World) (nx ny : Bool) (ao bo : Option Addr) (n m capa capb : Nat) (xs ys : List Int) (hx : IntAt w nx ao n capa xs (-7)) (hy : IntAt w ny bo m capb ys 2) :
    Calls Try.prog 30 #[.agg #[.bool nx, .slice ao n capa], .agg #[.bool ny, .slice bo m capb]] w (RetQR w (-3) (-1) 1 2) := by
  obtain ⟨rfl, rfl, rfl⟩ := hx.neg1 7 (by omega) (by omega)
  obtain ⟨rfl, rfl, rfl⟩ := hy.pos 2 (by omega) (by omega)
  exact div_int w true false ao bo 1 1 capa capb [7] [2] (-7) 2 hx hy (by omega) 1 2 fun w1 hb =>
    divide_one w1 ao bo 1 capa capb [7] 2 (hx.sl.below hb) (hy.sl.below hb) hx.lim hy.lim hx.top hy.top (by omega) (by simp [val])

theorem text255 (w : World) (nx : Bool) (ao : Option Addr) (n cap : Nat) (xs : List Int) (hx : IntAt w nx ao n cap xs 255) (hn : n ≤ 34359738368) :
    Calls Try.prog 60 #[.agg #[.bool nx, .slice ao n cap], .int .i64 16] w (RetV w (.tuple #[.string { data := #[70, 70] }, .int .i64 0])) := by
  refine (text_any w nx ao n cap xs 255 16 hx hn (by omega) (by omega)).mono ?_
  rintro e w1 ⟨rfl, hb⟩
  refine ⟨?_, hb⟩
  have h : textOf 16 255 = [70, 70] := by
    simp [textOf, digs_pos, digs_zero, letter]
  rw [h]
  rfl

/-- A number and the code 0. -/
def RetIE (w : World) (x : Int) (L : Nat) (e : Ending) (w' : World) : Prop :=
  ∃ neg ao n cap zs, e = .returned (.tuple #[.agg #[.bool neg, .slice ao n cap], .int .i64 0]) ∧ IntAt w' neg ao n cap zs x ∧ n ≤ L ∧ Below w.heap.size w w'

theorem boole84 (w : World) (nx ny : Bool) (ao bo : Option Addr) (n m capa capb : Nat) (xs ys : List Int) (hx : IntAt w nx ao n capa xs (-4)) (hy : IntAt w ny bo m capb ys 7) :
    Calls Try.prog 51 #[.agg #[.bool nx, .slice ao n capa], .int .i64 8, .agg #[.bool ny, .slice bo m capb]] w (RetIE w 4 2) := by
  obtain ⟨rfl, rfl, rfl⟩ := hx.neg1 4 (by omega) (by omega)
  obtain ⟨rfl, rfl, rfl⟩ := hy.pos 7 (by omega) (by omega)
  refine (boole_any w true false ao bo 1 1 capa capb [4] [7] (-4) 7 8 hx hy (by omega) (by omega) (by omega) (by omega)).mono ?_
  rintro e w1 ⟨neg, a1, n1, c1, zs, As, Bs, rfl, hAl, hA, hAv, hBl, hB, hBv, hint, hn, hb⟩
  have eA : As = [4294967292, 4294967295] := by
    refine val_inj hA ?_ ?_ ?_
    · intro z hz; simp at hz; omega
    · rw [hAv]; decide
    · simpa using hAl
  have eB : Bs = [7, 0] := by
    refine val_inj hB ?_ ?_ ?_
    · intro z hz; simp at hz; omega
    · rw [hBv]; decide
    · simpa using hBl
  subst eA eB
  refine ⟨neg, a1, n1, c1, zs, rfl, ?_, hn, hb⟩
  have : sval (max 1 1 + 1) (val (List.zipWith (comb 8) [4294967292, 4294967295] [7, 0])) = 4 := by decide
  rw [← this]
  exact hint
end Go.Proofs.Ytpakfknacmcohaa
