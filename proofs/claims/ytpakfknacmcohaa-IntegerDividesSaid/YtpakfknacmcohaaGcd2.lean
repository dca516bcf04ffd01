/- Gcd: look. -/
import Derived.Test.YtpakfknacmcohaaGcd1
namespace Go.Proofs.Ytpakfknacmcohaa
open Go.RowKit
set_option autoImplicit false
set_option linter.unusedVariables false

/-- The loop's variables. -/
structure LookAt (x0 y0 : Nat) (x y u0 v0 u1 v1 u2 v2 : Nat) (odd : Bool) : Prop where
  now : Euc x0 y0 x y u1 v1 u2 v2 (if odd then 1 else -1)
  old : (u0 = 0 ∧ v0 = 0) ∨ ∃ px py, Euc x0 y0 px py u0 v0 u1 v1 (if odd then -1 else 1) ∧ v1 ≤ py ∧ v0 + v1 ≤ px - py

/-- Steps that lead from A and B to X and Y. -/
structure Steps (A B u0 v0 u1 v1 : Nat) (odd : Bool) (X Y : Nat) : Prop where
  hX : (X : Int) = (if odd then -1 else 1) * ((u0 : Int) * A - v0 * B)
  hY : (Y : Int) = (if odd then -1 else 1) * ((v1 : Int) * B - u1 * A)
  pos : 0 < Y
  lt : Y < X
  a : v1 * X + v0 * Y = A
  b : u1 * X + u0 * Y = B
  ul : u0 < 4294967296
  vl : v0 < 4294967296
  ur : u1 < 4294967296
  vr : v1 < 4294967296
  one : 1 ≤ u1
  nil : 1 ≤ v1

theorem LookAt.out {x0 y0 x y u0 v0 u1 v1 u2 v2 : Nat} {odd : Bool} (h : LookAt x0 y0 x y u0 v0 u1 v1 u2 v2 odd) (hv : v0 ≠ 0) (hx0 : x0 < 18446744073709551616) {A B E a b : Nat} (hA : A = x0 * E + a) (hB : B = y0 * E + b) (ha : a < E) (hb : b < E) :
    ∃ X Y, Steps A B u0 v0 u1 v1 odd X Y := by
  rcases h.old with ⟨_, h0⟩ | ⟨px, py, he, c1, c2⟩
  · exact absurd h0 hv
  · obtain ⟨X, Y, g1, g2, g3, g4, g5, g6⟩ := he.whole c1 c2 hA hB ha hb
    have hs := he.small c1 hx0
    have h1 := he.uv2
    have h2 := he.uv
    have h3 : 1 ≤ u1 := by
      rcases he.two with h | h
      · exact absurd h hv
      · exact h
    have h4 := he.v
    have h5 := he.mv
    have h6 := he.mu
    exact ⟨X, Y, ⟨g1, g2, g3, g4, g5, g6, by omega, by omega, by omega, hs, h3, h4⟩⟩

/-- Steps, and the code that tells whether there are some. -/
def RetLook (w : World) (A B : Nat) (e : Ending) (w' : World) : Prop :=
  ∃ (u0 v0 u1 v1 : Nat) (odd : Bool), e = .returned (.agg #[.int .u64 (u0 : Int), .int .u64 (v0 : Int), .int .u64 (u1 : Int), .int .u64 (v1 : Int), .bool odd]) ∧ (v0 = 0 ∨ ∃ X Y, Steps A B u0 v0 u1 v1 odd X Y) ∧ Below w.heap.size w w'

theorem top_bound {xs : List Int} (lx : Lim xs) {N t s : Nat} (hl : xs.length = N + 3) (ht : (t : Int) = xs.getD (N + 2) 0) (hs : s + blen t = 32) : val xs < 4294967296 ^ N * 2 ^ (96 - s) := by
  have h1 := val_take_succ xs (N + 2)
  rw [List.take_of_length_le (by omega), ← ht] at h1
  have h2 := val_lt (Lim_take lx (N + 2))
  rw [List.length_take, hl, Nat.min_eq_left (by omega)] at h2
  have h3 : t < 2 ^ (32 - s) := by
    have := blen_le_iff.1 (show blen t ≤ 32 - s by omega)
    exact this
  have h4 : ((t : Int) + 1) ≤ 2 ^ (32 - s) := by exact_mod_cast h3
  have h5 : (4294967296 : Int) ^ (N + 2) * ((t : Int) + 1) ≤ 4294967296 ^ (N + 2) * 2 ^ (32 - s) := Int.mul_le_mul_of_nonneg_left h4 (Int.le_of_lt (pow_pos _))
  have h6 : (4294967296 : Int) ^ (N + 2) * 2 ^ (32 - s) = 4294967296 ^ N * 2 ^ (96 - s) := by
    have e2 : (4294967296 : Int) ^ 2 = 2 ^ 64 := by rfl
    rw [Int.pow_add, show 96 - s = 64 + (32 - s) by omega, Int.pow_add, Int.mul_assoc, e2]
  rw [← h6, h1]
  have e : (4294967296 : Int) ^ (N + 2) * ((t : Int) + 1) = 4294967296 ^ (N + 2) * (t : Int) + 4294967296 ^ (N + 2) := by rw [Int.mul_add, Int.mul_one]
  omega

theorem cells5 {w : World} {b : Nat} {v0 v1 v2 v3 v4 : Value} {T : TypeId} (h : w.heap[b]? = some (.cells #[v0, v1, v2, v3, v4] T (0, 0))) :
    w.cell? ⟨b, 0, none⟩ = some v0 ∧ w.cell? ⟨b, 1, none⟩ = some v1 ∧ w.cell? ⟨b, 2, none⟩ = some v2 ∧ w.cell? ⟨b, 3, none⟩ = some v3 ∧ w.cell? ⟨b, 4, none⟩ = some v4 ∧ (∀ o, w.frozen? ⟨b, o, none⟩ = false) := by
  refine ⟨?_, ?_, ?_, ?_, ?_, ?_⟩ <;> simp [World.cell?, World.frozen?, h]

set_option maxRecDepth 100000 in
set_option maxHeartbeats 2000000 in
theorem look_any (w : World) (ao bo : Option Addr) (n m capa capb : Nat) (xs ys : List Int) (hx : Sl w ao n capa xs) (hy : Sl w bo m capb ys) (lx : Lim xs) (ly : Lim ys) (tx : Top xs) (A B : Nat) (hA : val xs = (A : Int)) (hB : val ys = (B : Int)) (hn : n ≤ 1073741824) (hn3 : 3 ≤ n) (hmn : m ≤ n) (hle : B ≤ A) :
    Calls Try.prog 122 #[.slice ao n capa, .slice bo m capb] w (RetLook w A B) := by
  obtain ⟨N, rfl⟩ : ∃ N, n = N + 3 := ⟨n - 3, by omega⟩
  have hxl := hx.len
  have hyl := hy.len
  have hne : xs ≠ [] := by intro h; rw [h] at hxl; simp at hxl
  obtain ⟨t, ht⟩ : ∃ t : Nat, (t : Int) = xs.getD (N + 2) 0 := ⟨(xs.getD (N + 2) 0).toNat, by have := Lim_getD lx (N + 2); omega⟩
  have htb := Lim_getD lx (N + 2)
  rw [← ht] at htb
  have ht0 : t ≠ 0 := by
    rcases tx with h | h
    · exact absurd h hne
    · rw [hxl, show N + 3 - 1 = N + 2 by omega, ← ht] at h
      intro h0
      rw [h0] at h
      exact h rfl
  have hbl : blen t ≤ 32 := blen_le_iff.2 (by omega)
  have hbl1 : 1 ≤ blen t := by
    have : ¬ blen t ≤ 0 := fun h => by have := blen_le_iff.1 h; omega
    omega
  obtain ⟨s, hs⟩ : ∃ s, s + blen t = 32 := ⟨32 - blen t, by omega⟩
  have hs31 : s ≤ 31 := by omega
  have HLZ : Hid (∀ w1, Calls Try.prog 133 #[.int .u32 (t : Int)] w1 fun e w' => e = .returned (.int .i64 (s : Int)) ∧ w1 = w') := Lib.hid fun w1 => lz32_any w1 t s (by omega) hs
  have hvx := top_bound lx hxl ht hs
  have hvy : val ys < 4294967296 ^ N * 2 ^ (96 - s) := by rw [hB]; rw [hA] at hvx; omega
  obtain ⟨E, hE⟩ : ∃ E : Nat, E = 4294967296 ^ N * 2 ^ (32 - s) := ⟨_, rfl⟩
  have hEp : 0 < E := by rw [hE]; exact Nat.mul_pos (Nat.pow_pos (by omega)) (Nat.two_pow_pos _)
  have hEI : (4294967296 : Int) ^ N * 2 ^ (32 - s) = (E : Int) := by rw [hE, Int.natCast_mul, Int.natCast_pow, Int.natCast_pow]; rfl
  obtain ⟨x0, hx0⟩ : ∃ x0, A / E = x0 := ⟨_, rfl⟩
  obtain ⟨y0, hy0⟩ : ∃ y0, B / E = y0 := ⟨_, rfl⟩
  have hWx : Hid (∀ w', Below w.heap.size w w' → Calls Try.prog 137 #[.slice ao (N + 3) capa, .int .i64 ((N + 3 : Nat) : Int), .int .i64 (s : Int)] w' (RetQ w' (.int .u64 (x0 : Int)))) := Lib.hid fun w' hb => by
    have := window_any w' ao (N + 3) capa xs N s (N + 3) rfl (hx.below hb) lx hs31 (by omega) (by omega) hvx
    rw [hEI, hA] at this
    rw [← hx0]
    exact_mod_cast this
  have hWy : Hid (∀ w', Below w.heap.size w w' → Calls Try.prog 137 #[.slice bo m capb, .int .i64 ((N + 3 : Nat) : Int), .int .i64 (s : Int)] w' (RetQ w' (.int .u64 (y0 : Int)))) := Lib.hid fun w' hb => by
    have := window_any w' bo m capb ys N s (N + 3) rfl (hy.below hb) ly hs31 hmn (by omega) hvy
    rw [hEI, hB] at this
    rw [← hy0]
    exact_mod_cast this
  have hx64 : x0 < 18446744073709551616 := by
    rw [← hx0, Nat.div_lt_iff_lt_mul hEp, hE]
    have h96 : (4294967296 : Nat) ^ N * 2 ^ (96 - s) = 18446744073709551616 * (4294967296 ^ N * 2 ^ (32 - s)) := by
      rw [show 96 - s = 64 + (32 - s) by omega, Nat.pow_add]
      grind
    have : ((A : Nat) : Int) < ((4294967296 ^ N * 2 ^ (96 - s) : Nat) : Int) := by rw [← hA, Int.natCast_mul, Int.natCast_pow, Int.natCast_pow]; exact hvx
    omega
  have hyx : y0 ≤ x0 := by rw [← hx0, ← hy0]; exact Nat.div_le_div_right hle
  have hAE : A = x0 * E + A % E := by rw [← hx0, Nat.mul_comm]; exact (Nat.div_add_mod A E).symm
  have hBE : B = y0 * E + B % E := by rw [← hy0, Nat.mul_comm]; exact (Nat.div_add_mod B E).symm
  have hal := Nat.mod_lt A hEp
  have hbl2 := Nat.mod_lt B hEp
  have HOUT : Hid (∀ x y u0 v0 u1 v1 u2 v2 odd, LookAt x0 y0 x y u0 v0 u1 v1 u2 v2 odd → v0 = 0 ∨ ∃ X Y, Steps A B u0 v0 u1 v1 odd X Y) := Lib.hid fun x y u0 v0 u1 v1 u2 v2 odd h => by
    by_cases h0 : v0 = 0
    · exact .inl h0
    · exact .inr (h.out h0 hx64 hAE hBE hal hbl2)
  have HST : Hid (LookAt x0 y0 x0 y0 0 0 1 0 0 1 true) := Lib.hid ⟨Euc.start hyx, .inl ⟨rfl, rfl⟩⟩
  have hcell := hx.cells
  obtain ⟨gb, ob, rfl, hct⟩ := hcell.at (k := N + 2) (by omega)
  rw [← ht] at hct
  have hgb : gb < w.heap.size := World.block_lt_of_cell? w _ hct
  have hy64 : y0 < 18446744073709551616 := by omega
  obtain ⟨M, hM⟩ : ∃ M, M = N + 3 := ⟨_, rfl⟩
  have hM1 : (M : Int) - 1 = ((N + 2 : Nat) : Int) := by omega
  have hM2 : (0 : Int) ≤ (M : Int) - 1 := by omega
  have hM3 : (M : Int) - 1 < (M : Int) := by omega
  have hMt : ((M : Int) - 1).toNat = N + 2 := by omega
  rw [← hM] at hWx hWy ⊢
  clear hx hy tx hA hB hle hbl hbl1 ht htb hs hvx hvy hEI hx0 hy0 hAE hBE hal hbl2 hE hcell hne hxl hyl hyx hM ht0 lx ly
  go_enter Try.func122, Try.ntmps122
  go_wp2_with fail
  refine (HLZ.out _).mono ?_
  rintro e w1 ⟨rfl, rfl⟩
  clear hct
  go_wp2_with fail
  refine (hWx.out _ (by go_grown)).mono ?_
  rintro e w2 ⟨rfl, q2, rfl⟩
  go_wp2_with fail
  refine (hWy.out _ (by first | exact below_drewN (by go_grown) _ | go_grown)).mono ?_
  rintro e w3 ⟨rfl, q3, rfl⟩
  obtain ⟨W0, hW0⟩ : ∃ W0, W0 = ((w.alloc (.cells #[.int .u64 0, .int .u64 0, .int .u64 0, .int .u64 0, .bool false] 139)).drewN q2).drewN q3 := ⟨_, rfl⟩
  have hb0 : Below w.heap.size w W0 := by rw [hW0]; exact below_drewN (below_drewN (by go_grown) _) _
  have hr0 : W0.heap[w.heap.size]? = some (.cells #[.int .u64 0, .int .u64 0, .int .u64 0, .int .u64 0, .bool false] 139 (0, 0)) := by rw [hW0]; simpa using heap_alloc_new w (.cells #[.int .u64 0, .int .u64 0, .int .u64 0, .int .u64 0, .bool false] 139)
  rw [← hW0]
  clear hW0
  have HB0 := Lib.hid hb0
  have HR0 := Lib.hid hr0
  clear hb0 hr0
  go_wp2_with fail
  go_loopw [6, 7, 8, 9, 10, 11, 12, 13, 14] (fun a b c d e f g h o wr => ∃ (x y u0 u1 u2 v0 v1 v2 : Nat) (odd : Bool), a = .int .u64 (x : Int) ∧ b = .int .u64 (y : Int) ∧ c = .int .u64 (u0 : Int) ∧ d = .int .u64 (u1 : Int) ∧ e = .int .u64 (u2 : Int) ∧ f = .int .u64 (v0 : Int) ∧ g = .int .u64 (v1 : Int) ∧ h = .int .u64 (v2 : Int) ∧ o = .bool odd ∧ LookAt x0 y0 x y u0 v0 u1 v1 u2 v2 odd ∧ ∃ q, wr = W0.drewN q) (fun _ b _ _ _ _ _ _ _ _ => (intOf b).toNat)
  case atStart => exact ⟨x0, y0, 0, 1, 0, 0, 0, 1, true, rfl, rfl, rfl, rfl, rfl, rfl, rfl, rfl, rfl, HST.out, 0, rfl⟩
  case round =>
    obtain ⟨x, y, u0, u1, u2, v0, v1, v2, odd, rfl, rfl, rfl, rfl, rfl, rfl, rfl, rfl, rfl, hla, q, rfl⟩ := hrel
    have hyx := hla.now.le
    have hv1 := hla.now.v
    have ha0 := hla.now.a0
    have hxx : x ≤ x0 := by
      have : x ≤ x * v2 := Nat.le_mul_of_pos_right _ hv1
      omega
    clear ha0
    have HLA := Lib.hid hla
    clear hla
    by_cases c1 : v2 ≤ y
    · have hsm := HLA.out.now.small c1 hx64
      have hmv := HLA.out.now.mv
      obtain ⟨d, hd⟩ : ∃ d, x - y = d := ⟨_, rfl⟩
      have hdI : (x : Int) - (y : Int) = (d : Int) := by omega
      have hdw : IntKind.u64.wrap ((x : Int) - (y : Int)) = (d : Int) := by rw [hdI]; simp only [IntKind.wrap, IntKind.bits, IntKind.signed]; simp; omega
      obtain ⟨sv, hsv⟩ : ∃ sv, v1 + v2 = sv := ⟨_, rfl⟩
      have hsI : (v1 : Int) + (v2 : Int) = (sv : Int) := by omega
      have hsw : IntKind.u64.wrap ((v1 : Int) + (v2 : Int)) = (sv : Int) := by rw [hsI]; simp only [IntKind.wrap, IntKind.bits, IntKind.signed]; simp; omega
      have c1I : (v2 : Int) ≤ (y : Int) := by omega
      have HD := Lib.hid hd
      have HSV := Lib.hid hsv
      clear hd hsv
      by_cases c2 : sv ≤ d
      · have c2I : (sv : Int) ≤ (d : Int) := by omega
        have hy1 : 1 ≤ y := by omega
        have hnow := HLA.out.now.step hy1
        have hfit := hnow.fits hy1
        obtain ⟨Q, hQ⟩ : ∃ Q, x / y = Q := ⟨_, rfl⟩
        obtain ⟨r, hr⟩ : ∃ r, x % y = r := ⟨_, rfl⟩
        rw [hQ, hr] at hnow
        rw [hQ] at hfit
        obtain ⟨m1, hm1⟩ : ∃ m1, Q * u2 = m1 := ⟨_, rfl⟩
        obtain ⟨m2, hm2⟩ : ∃ m2, Q * v2 = m2 := ⟨_, rfl⟩
        rw [hm1, hm2] at hnow hfit
        obtain ⟨U, hU⟩ : ∃ U, u1 + m1 = U := ⟨_, rfl⟩
        obtain ⟨V, hV⟩ : ∃ V, v1 + m2 = V := ⟨_, rfl⟩
        rw [hU, hV] at hnow hfit
        have hrl : r < y := by rw [← hr]; exact Nat.mod_lt _ hy1
        have f1 : U < 18446744073709551616 := by have := hfit.2.1; omega
        have f2 : V < 18446744073709551616 := by have := hfit.1; omega
        have gQ : IntKind.u64.wrap (Q : Int) = (Q : Int) := by
          have : Q ≤ x := by rw [← hQ]; exact Nat.div_le_self _ _
          simp only [IntKind.wrap, IntKind.bits, IntKind.signed]; simp; omega
        have g1 : IntKind.u64.wrap ((Q : Int) * (u2 : Int)) = (m1 : Int) := by
          rw [show (Q : Int) * (u2 : Int) = (m1 : Int) by rw [← hm1]; push_cast; rfl]; simp only [IntKind.wrap, IntKind.bits, IntKind.signed]; simp; omega
        have g2 : IntKind.u64.wrap ((Q : Int) * (v2 : Int)) = (m2 : Int) := by
          rw [show (Q : Int) * (v2 : Int) = (m2 : Int) by rw [← hm2]; push_cast; rfl]; simp only [IntKind.wrap, IntKind.bits, IntKind.signed]; simp; omega
        have g3 : (u1 : Int) + (m1 : Int) = (U : Int) := by omega
        have g4 : (v1 : Int) + (m2 : Int) = (V : Int) := by omega
        have g5 : IntKind.u64.wrap ((u1 : Int) + (m1 : Int)) = (U : Int) := by rw [g3]; simp only [IntKind.wrap, IntKind.bits, IntKind.signed]; simp; omega
        have g6 : IntKind.u64.wrap ((v1 : Int) + (m2 : Int)) = (V : Int) := by rw [g4]; simp only [IntKind.wrap, IntKind.bits, IntKind.signed]; simp; omega
        have t1 : (x : Int).tdiv (y : Int) = (Q : Int) := by rw [Int.tdiv_eq_ediv_of_nonneg (by omega), ← hQ]; rfl
        have t2 : (x : Int).tmod (y : Int) = (r : Int) := by rw [Int.tmod_eq_emod_of_nonneg (by omega), ← hr]; rfl
        have t3 : (x : Int) / (y : Int) = (Q : Int) := by rw [← hQ]; rfl
        have t4 : (x : Int) % (y : Int) = (r : Int) := by rw [← hr]; rfl
        have hy0 : (0 : Int) < (y : Int) := by omega
        have hy2 : ((y : Int) == 0) = false := by simp; omega
        have HNEW : Hid (LookAt x0 y0 y r u1 v1 u2 v2 U V (!odd)) := Lib.hid ⟨by cases odd <;> simpa using hnow, .inr ⟨x, y, by have := HLA.out.now; cases odd <;> simpa using this, by omega, by have := HD.out; have := HSV.out; omega⟩⟩
        clear hnow hfit hQ hr hm1 hm2 hU hV hdI hsI g3 g4
        go_wp2_with fail
        go_quiet (fail)
        go_wp2_with fail
        go_roundw
        case rel => exact ⟨y, r, u1, u2, U, v1, v2, V, !odd, rfl, rfl, rfl, rfl, rfl, rfl, rfl, rfl, rfl, HNEW.out, _, rfl⟩
        case measure => simp [intOf]; omega
      · have c2I : ¬ (sv : Int) ≤ (d : Int) := by omega
        obtain ⟨p0, p1, p2, p3, p4, pf⟩ := cells5 (w := W0.drewN q) (b := w.heap.size) (by simpa using HR0.out)
        have HBF := Lib.hid (below_drewN HB0.out q)
        have HRES := Lib.hid (HOUT.out _ _ _ _ _ _ _ _ _ HLA.out)
        go_wp2_with fail
        refine bodyPost_ret (v := .agg #[.int .u64 (u0 : Int), .int .u64 (v0 : Int), .int .u64 (u1 : Int), .int .u64 (v1 : Int), .bool odd]) (by simp [results, Try.results122, go_sem, p0, p1, p2, p3, p4]) rfl ?_
        exact ⟨u0, v0, u1, v1, odd, rfl, HRES.out, ((((HBF.out.setCell (p := ⟨w.heap.size, 0, none⟩) (Nat.le_refl _) _).setCell (p := ⟨w.heap.size, 1, none⟩) (Nat.le_refl _) _).setCell (p := ⟨w.heap.size, 2, none⟩) (Nat.le_refl _) _).setCell (p := ⟨w.heap.size, 3, none⟩) (Nat.le_refl _) _).setCell (p := ⟨w.heap.size, 4, none⟩) (Nat.le_refl _) _⟩
    · have c1I : ¬ (v2 : Int) ≤ (y : Int) := by omega
      obtain ⟨p0, p1, p2, p3, p4, pf⟩ := cells5 (w := W0.drewN q) (b := w.heap.size) (by simpa using HR0.out)
      have HBF := Lib.hid (below_drewN HB0.out q)
      have HRES := Lib.hid (HOUT.out _ _ _ _ _ _ _ _ _ HLA.out)
      go_wp2_with fail
      refine bodyPost_ret (v := .agg #[.int .u64 (u0 : Int), .int .u64 (v0 : Int), .int .u64 (u1 : Int), .int .u64 (v1 : Int), .bool odd]) (by simp [results, Try.results122, go_sem, p0, p1, p2, p3, p4]) rfl ?_
      exact ⟨u0, v0, u1, v1, odd, rfl, HRES.out, ((((HBF.out.setCell (p := ⟨w.heap.size, 0, none⟩) (Nat.le_refl _) _).setCell (p := ⟨w.heap.size, 1, none⟩) (Nat.le_refl _) _).setCell (p := ⟨w.heap.size, 2, none⟩) (Nat.le_refl _) _).setCell (p := ⟨w.heap.size, 3, none⟩) (Nat.le_refl _) _).setCell (p := ⟨w.heap.size, 4, none⟩) (Nat.le_refl _) _⟩
end Go.Proofs.Ytpakfknacmcohaa
