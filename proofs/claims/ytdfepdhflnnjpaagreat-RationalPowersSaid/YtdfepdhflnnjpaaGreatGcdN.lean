/- Root, Gcd5, Gcd6 in one text. -/
import Derived.Test.YtdfepdhflnnjpaaGreatLongs
import Derived.Test.YtdfepdhflnnjpaaGreatShiftM
import Derived.Test.YtdfepdhflnnjpaaGreatGcd4
import Derived.Test.YtdfepdhflnnjpaaGreatNumM
import Derived.Deep.DeepCutAuto
import Derived.Sort.AtCall
namespace Go.Proofs.YtdfepdhflnnjpaaGreat
open Go.RowKit
set_option autoImplicit false
set_option linter.unusedVariables false

set_option maxHeartbeats 1000000
set_option linter.unusedVariables false

/-- The value of the limbs that a slice value stands for. -/
def rowVal (w : World) : Value → Nat
  | .slice (some a) n _ => match w.heap[a.block]? with
    | some (.cells cur _ _) => (val ((cur.toList.take n).map intOf)).toNat
    | _ => 0
  | _ => 0

theorem map_intOf (zs : List Int) : (zs.map (Value.int .u32)).map intOf = zs := by
  rw [List.map_map]
  conv => rhs; rw [← List.map_id zs]
  exact List.map_congr_left (fun z _ => rfl)

theorem Own.rowVal {B : Nat} {w : World} {ao : Option Addr} {n cap : Nat} {zs : List Int} (h : Own B w ao n cap zs) : Go.Proofs.YtdfepdhflnnjpaaGreat.rowVal w (.slice ao n cap) = (val zs).toNat := by
  rcases h.2 with ⟨hv, h0⟩ | ⟨g, c, cur, hv, hbg, hg, h1, h2, h3, h4⟩
  · simp only [Value.slice.injEq] at hv
    obtain ⟨rfl, _, _⟩ := hv
    have hl := h.sl.len
    have : zs = [] := List.eq_nil_of_length_eq_zero (by omega)
    rw [this]
    rfl
  · simp only [Value.slice.injEq] at hv
    obtain ⟨rfl, _, _⟩ := hv
    have hl := h.sl.len
    rw [Nat.mul_one] at h4
    simp only [Go.Proofs.YtdfepdhflnnjpaaGreat.rowVal, hg]
    rw [h4, map_intOf]

set_option maxHeartbeats 1000000
set_option linter.unusedVariables false

theorem Own.some_of {B : Nat} {w : World} {ao : Option Addr} {n cap : Nat} {zs : List Int} (h : Own B w ao n cap zs) (hn : 0 < n) : ∃ g, ao = some ⟨g, 0, none⟩ := by
  rcases h.2 with ⟨hv, h0⟩ | ⟨g, c, cur, hv, _⟩
  · omega
  · simp at hv
    exact ⟨g, hv.1⟩

/-- The state of divisor's loop. -/
structure DivAt (Bb : Nat) (w wr : World) (G N A B n m : Nat) (ao bo : Option Addr) (capa capb : Nat) (xs ys : List Int) : Prop where
  oa : Own Bb wr ao n capa xs
  ob : Own Bb wr bo m capb ys
  ne : ∀ g1 g2, ao = some ⟨g1, 0, none⟩ → bo = some ⟨g2, 0, none⟩ → g1 ≠ g2
  lx : Lim xs
  ly : Lim ys
  tx : Top xs
  ty : Top ys
  vA : val xs = (A : Int)
  vB : val ys = (B : Int)
  le : B ≤ A
  g : Nat.gcd A B = G
  nb : n ≤ N
  bel : Below Bb w wr

def RetNatB (Bb : Nat) (w : World) (x : Int) (L : Nat) (e : Ending) (w' : World) : Prop :=
  ∃ ao n cap zs, e = .returned (.slice ao n cap) ∧ Own Bb w' ao n cap zs ∧ Lim zs ∧ Top zs ∧ val zs = x ∧ n ≤ L ∧ Below Bb w w'

theorem DivAt.mn {Bb : Nat} {w wr : World} {G N A B n m : Nat} {ao bo : Option Addr} {capa capb : Nat} {xs ys : List Int} (h : DivAt Bb w wr G N A B n m ao bo capa capb xs ys) : m ≤ n := by
  have := len_le_of_val h.ly h.lx h.ty (by rw [h.vA, h.vB]; exact_mod_cast h.le)
  rwa [h.oa.sl.len, h.ob.sl.len] at this

/-- A step of Euclid. -/
theorem DivAt.euclid {Bb : Nat} {w wr w4 : World} {G N A B n m : Nat} {ao bo : Option Addr} {capa capb : Nat} {xs ys : List Int} (h : DivAt Bb w wr G N A B n m ao bo capa capb xs ys) (hm : 1 ≤ m) (hB : Bb ≤ wr.heap.size) {w3 : World} (h3 : Below wr.heap.size wr w3)
    {a2 : Option Addr} {n2 c2 : Nat} {z2 : List Int} (o2 : Own w3.heap.size w4 a2 n2 c2 z2) (l2 : Lim z2) (t2 : Top z2) (v2 : val z2 = val xs % val ys) (hb : Below w3.heap.size w3 w4) :
    DivAt Bb w w4 G N B (A % B) m n2 bo a2 capb c2 ys z2 ∧ A % B < B := by
  have hB0 : 0 < B := by
    have h1 := val_pos_of_top h.ly h.ty (by intro e; have := h.ob.sl.len; rw [e] at this; simp at this; omega)
    have h2 := pow_pos (ys.length - 1)
    have := h.vB
    omega
  have hs := h3.size
  have hb4 : Below wr.heap.size wr w4 := h3.trans (hb.mono hs)
  refine ⟨⟨h.ob.kept hb4, o2.mono (by omega), ?_, h.ly, l2, h.ty, t2, h.vB, by rw [v2, h.vA, h.vB]; rfl, Nat.le_of_lt (Nat.mod_lt _ hB0), ?_, Nat.le_trans h.mn h.nb, h.bel.trans (hb4.mono hB)⟩, Nat.mod_lt _ hB0⟩
  · rintro g1 g2 rfl rfl
    have k1 := h.ob.block_lt.2
    have k2 := o2.block_lt.1
    omega
  · rw [← h.g, Nat.gcd_comm A B, Nat.gcd_rec B A, Nat.gcd_comm]

/-- Lehmer's step. -/
theorem DivAt.lehmer {Bb : Nat} {w wr w3 w4 : World} {G N A B n m g1 g2 : Nat} {capa capb : Nat} {xs ys : List Int} (h : DivAt Bb w wr G N A B n m (some ⟨g1, 0, none⟩) (some ⟨g2, 0, none⟩) capa capb xs ys) (hB : Bb ≤ wr.heap.size) (h3 : Below wr.heap.size wr w3)
    {u0 v0 u1 v1 X Y : Nat} {odd : Bool} (hs : Steps A B u0 v0 u1 v1 odd X Y) {zs ts : List Int} (o1 : Own Bb w4 (some ⟨g1, 0, none⟩) zs.length capa zs) (o2 : Own Bb w4 (some ⟨g2, 0, none⟩) ts.length capb ts)
    (l1 : Lim zs) (l2 : Lim ts) (t1 : Top zs) (t2 : Top ts) (e1 : val zs = (X : Int)) (e2 : val ts = (Y : Int)) (hl : zs.length ≤ n) (hF : Frame [some g1, some g2] w3 w4) :
    DivAt Bb w w4 G N X Y zs.length ts.length (some ⟨g1, 0, none⟩) (some ⟨g2, 0, none⟩) capa capb zs ts ∧ Y < B := by
  have hXB : X ≤ B := by
    have h1 := hs.b
    have h2 : X ≤ u1 * X := Nat.le_mul_of_pos_left _ hs.one
    omega
  have hg1 := h.oa.block_lt.1
  have hg2 := h.ob.block_lt.1
  have hs3 := h3.size
  refine ⟨⟨o1, o2, h.ne, l1, l2, t1, t2, e1, e2, Nat.le_of_lt hs.lt, ?_, Nat.le_trans hl h.nb, ?_⟩, by have := hs.lt; omega⟩
  · rw [← h.g]; exact whole_gcd hs.hX hs.hY hs.a hs.b
  · exact (h.bel.trans (h3.mono hB)).trans (hF.below Bb (by omega) (by intro k hk; simp at hk; omega))

def DivRel (Bb : Nat) (w : World) (G N : Nat) (p q : Value) (wr : World) : Prop :=
  ∃ A B n m ao bo capa capb xs ys, p = .slice ao n capa ∧ q = .slice bo m capb ∧ DivAt Bb w wr G N A B n m ao bo capa capb xs ys

theorem val_pair {zs : List Int} (h : zs.length ≤ 2) : zs.getD 1 0 * 4294967296 + zs.getD 0 0 = val zs := by
  match zs, h with
  | [], _ => simp [val]
  | [a], _ => simp [val]
  | [a, b], _ => simp [val]; omega
  | a :: b :: c :: r, h => simp at h

/-- What the last lines need. -/
theorem div_end {Bb : Nat} {w wr : World} {G N A B n m : Nat} {ao bo : Option Addr} {capa capb : Nat} {xs ys : List Int} (h : DivAt Bb w wr G N A B n m ao bo capa capb xs ys) (hB : Bb ≤ wr.heap.size) (hn : n ≤ 2) (hm : m ≤ 2) (hN : N ≤ 1000000) :
    A < 18446744073709551616 ∧ B < 18446744073709551616 ∧ (∀ q, Calls Tryz.prog 168 #[.slice ao n capa] (wr.drewN q) (RetQ (wr.drewN q) (.int .u64 (A : Int)))) ∧ (∀ q, Calls Tryz.prog 168 #[.slice bo m capb] (wr.drewN q) (RetQ (wr.drewN q) (.int .u64 (B : Int)))) := by
  have l1 := h.oa.sl.len
  have l2 := h.ob.sl.len
  have b1 := val_lt h.lx
  have b2 := val_lt h.ly
  have p1 := pow_le (show xs.length ≤ 2 by omega)
  have p2 := pow_le (show ys.length ≤ 2 by omega)
  have e : (4294967296 : Int) ^ 2 = 18446744073709551616 := by rfl
  rw [e] at p1 p2
  have v1 := h.vA
  have v2 := h.vB
  refine ⟨by omega, by omega, fun q => ?_, fun q => ?_⟩
  · have := join_any (wr.drewN q) ao n capa xs (h.oa.kept (below_drewN (Below.refl _ _) q)).sl h.lx
    rwa [val_pair (by omega), v1] at this
  · have := join_any (wr.drewN q) bo m capb ys (h.ob.kept (below_drewN (Below.refl _ _) q)).sl h.ly
    rwa [val_pair (by omega), v2] at this

set_option maxRecDepth 100000 in
set_option maxHeartbeats 4000000 in
theorem divisor_any (w : World) (Bb N A B n m : Nat) (ao bo : Option Addr) (capa capb : Nat) (xs ys : List Int) (oa : Own Bb w ao n capa xs) (ob : Own Bb w bo m capb ys) (ne : ∀ g1 g2, ao = some ⟨g1, 0, none⟩ → bo = some ⟨g2, 0, none⟩ → g1 ≠ g2)
    (lx : Lim xs) (ly : Lim ys) (tx : Top xs) (ty : Top ys) (hA : val xs = (A : Int)) (hB : val ys = (B : Int)) (hn : n ≤ N) (hm : m ≤ N) (hN : N ≤ 1000000) (hBb : Bb ≤ w.heap.size) :
    Calls Tryz.prog 153 #[.slice ao n capa, .slice bo m capb] w (RetNatB Bb w (Nat.gcd A B : Int) (N + 2)) := by
  obtain ⟨G, hG⟩ : ∃ G, Nat.gcd A B = G := ⟨_, rfl⟩
  obtain ⟨c, hc⟩ : ∃ c, cmpI (val xs) (val ys) = c := ⟨_, rfl⟩
  have HC : Hid (Calls Tryz.prog 114 #[.slice ao n capa, .slice bo m capb] w (RetQ w (.int .i64 c))) := Lib.hid (by rw [← hc]; exact compare_any w ao bo n m capa capb xs ys oa.sl ob.sl lx ly tx ty)
  have H1 : Hid (¬ c < 0 → ∀ q, DivAt Bb w (w.drewN q) G N A B n m ao bo capa capb xs ys) := Lib.hid fun h q =>
    ⟨oa.kept (below_drewN (Below.refl _ _) q), ob.kept (below_drewN (Below.refl _ _) q), ne, lx, ly, tx, ty, hA, hB, by
      rw [← hc, hA, hB] at h
      unfold cmpI at h
      split at h <;> first | omega | (split at h <;> omega), hG, hn, below_drewN (Below.refl _ _) q⟩
  have H2 : Hid (c < 0 → ∀ q, DivAt Bb w (w.drewN q) G N B A m n bo ao capb capa ys xs) := Lib.hid fun h q =>
    ⟨ob.kept (below_drewN (Below.refl _ _) q), oa.kept (below_drewN (Below.refl _ _) q), fun g1 g2 e1 e2 => (ne g2 g1 e2 e1).symm, ly, lx, ty, tx, hB, hA, by
      rw [← hc, hA, hB] at h
      unfold cmpI at h
      split at h <;> first | omega | (split at h <;> omega), by rw [Nat.gcd_comm]; exact hG, hm, below_drewN (Below.refl _ _) q⟩
  rw [hG]
  clear oa ob ne lx ly tx ty hA hB hG hc
  go_enter Tryz.func153, Tryz.ntmps153
  go_wp2_with fail
  refine HC.out.mono ?_
  rintro e w1 ⟨rfl, q, rfl⟩
  clear HC
  go_upto_if 13 with (fail)
  go_cut [0, 1] (fun p q wx => DivRel Bb w G N p q wx)
  case first =>
    by_cases hc0 : c < 0
    · go_wp2_with fail
      go_meet
      exact ⟨_, _, _, _, _, _, _, _, _, _, rfl, rfl, H2.out hc0 q⟩
    · go_wp2_with fail
      go_meet
      exact ⟨_, _, _, _, _, _, _, _, _, _, rfl, rfl, H1.out hc0 q⟩
  case rest =>
    clear H1 H2
    have HCUT := Lib.hid hcut
    clear hcut
    rename World => w1
    obtain ⟨A, B, n, m, ao, bo, capa, capb, xs, ys, rfl, rfl, hD⟩ := HCUT.out
    have HD := Lib.hid hD
    clear HCUT hD
    go_wp2_with fail
    go_loopw [0, 1] (fun p q wr => DivRel Bb w G N p q wr) (fun _ q wr => rowVal wr q)
    case atStart => exact ⟨_, _, _, _, _, _, _, _, _, _, rfl, rfl, HD.out⟩
    case round =>
      clear HD
      obtain ⟨A, B, n, m, ao, bo, capa, capb, xs, ys, rfl, rfl, hD⟩ := hrel
      have HD := Lib.hid hD
      have hmn := hD.mn
      have hnb := hD.nb
      have hbs : Bb ≤ wr.heap.size := Nat.le_trans hBb hD.bel.size
      clear hD
      by_cases hm2 : 2 < m
      · obtain ⟨g1, rfl⟩ := HD.out.oa.some_of (by omega)
        obtain ⟨g2, rfl⟩ := HD.out.ob.some_of (by omega)
        have hmI : (2 : Int) < (m : Int) := by omega
        go_wp2_with fail
        refine (look_any wr _ _ n m capa capb xs ys HD.out.oa.sl HD.out.ob.sl HD.out.lx HD.out.ly HD.out.tx A B HD.out.vA HD.out.vB (by omega) (by omega) hmn HD.out.le).mono ?_
        rintro e w2 ⟨u0, v0, u1, v1, odd, rfl, hst, hb2⟩
        have HST := Lib.hid hst
        have HB2 := Lib.hid hb2
        clear hst hb2
        by_cases hv : v0 = 0
        · have hv1 : ((v0 : Int) == 0) = true := by simp; omega
          clear hv HST
          go_wp2_with fail
          have hb3 : Below wr.heap.size wr (w2.alloc (.cells #[.int .u64 (u0 : Int), .int .u64 (v0 : Int), .int .u64 (u1 : Int), .int .u64 (v1 : Int), .bool odd] 195)) := HB2.out.alloc HB2.out.size _
          have HB3 := Lib.hid hb3
          have HDV := Lib.hid (divide_any _ _ _ n m capa capb xs ys (HD.out.oa.sl.below hb3) (HD.out.ob.sl.below hb3) HD.out.lx HD.out.ly HD.out.tx HD.out.ty (by omega) (by omega))
          clear hb3
          refine HDV.out.mono ?_
          rintro e w4 ⟨a1, n1, c1, z1, a2, n2, c2, z2, rfl, o1, l1, t1, e1, b1, o2, l2, t2, e2, b2, hb⟩
          have hnew := HD.out.euclid (by omega) hbs HB3.out o2 l2 t2 e2 hb
          have HNEW := Lib.hid hnew
          clear o1 o2 e1 e2 hb hnew HDV l1 t1 l2 t2
          go_wp2_with fail
          go_roundw
          case rel => exact ⟨_, _, _, _, _, _, _, _, _, _, rfl, rfl, HNEW.out.1⟩
          case measure =>
            rw [HNEW.out.1.ob.rowVal, HD.out.ob.rowVal, HNEW.out.1.vB, HD.out.vB]
            have := HNEW.out.2
            omega
        · have hv1 : ((v0 : Int) == 0) = false := by simp; omega
          obtain ⟨X, Y, hS⟩ := HST.out.resolve_left hv
          have HSP := Lib.hid hS
          clear hS
          have hg12 := HD.out.ne g1 g2 rfl rfl
          go_wp2_with fail
          have hb3 : Below wr.heap.size wr (w2.alloc (.cells #[.int .u64 (u0 : Int), .int .u64 (v0 : Int), .int .u64 (u1 : Int), .int .u64 (v1 : Int), .bool odd] 195)) := HB2.out.alloc HB2.out.size _
          have HB3 := Lib.hid hb3
          have HTK := Lib.hid (take_any _ Bb g1 g2 n m capa capb xs ys A B u0 v0 u1 v1 X Y odd (HD.out.oa.kept hb3) (HD.out.ob.kept hb3) hg12 HD.out.lx HD.out.ly HD.out.vA HD.out.vB hmn (by omega) HSP.out)
          clear hb3
          refine HTK.out.mono ?_
          rintro e w4 ⟨zs, ts, rfl, o1, o2, l1, l2, t1, t2, e1, e2, k1, k2, hF⟩
          have hnew := HD.out.lehmer hbs HB3.out HSP.out o1 o2 l1 l2 t1 t2 e1 e2 k1 hF
          have HNEW := Lib.hid hnew
          clear o1 o2 e1 e2 hF hnew HTK l1 t1 l2 t2
          go_wp2_with fail
          go_roundw
          case rel => exact ⟨_, _, _, _, _, _, _, _, _, _, rfl, rfl, HNEW.out.1⟩
          case measure =>
            rw [HNEW.out.1.ob.rowVal, HD.out.ob.rowVal, HNEW.out.1.vB, HD.out.vB]
            have := HNEW.out.2
            omega
      · have hmI : ¬ (2 : Int) < (m : Int) := by omega
        by_cases hm0 : m = 0
        · have hmz : ¬ (0 : Int) < (m : Int) := by omega
          have hme : ((m : Int) == 0) = true := by simp; omega
          have hB0 : B = 0 := by
            have h1 := HD.out.ob.sl.len
            have h2 : ys = [] := List.eq_nil_of_length_eq_zero (by omega)
            have h3 := HD.out.vB
            rw [h2] at h3
            simp [val] at h3
            omega
          have hAG : A = G := by
            have := HD.out.g
            rwa [hB0, Nat.gcd_zero_right] at this
          have HAG := Lib.hid hAG
          clear hAG hB0
          go_wp2_with fail
          go_ret
          exact ⟨ao, n, capa, xs, rfl, HD.out.oa, HD.out.lx, HD.out.tx, by rw [HD.out.vA, HAG.out], by omega, HD.out.bel⟩
        · have hmz : (0 : Int) < (m : Int) := by omega
          have hme : ((m : Int) == 0) = false := by simp; omega
          by_cases hn2 : 2 < n
          · have hnI : (2 : Int) < (n : Int) := by omega
            have HDV := Lib.hid (divide_any wr ao bo n m capa capb xs ys HD.out.oa.sl HD.out.ob.sl HD.out.lx HD.out.ly HD.out.tx HD.out.ty (by omega) (by omega))
            go_wp2_with fail
            refine HDV.out.mono ?_
            rintro e w4 ⟨a1, n1, c1, z1, a2, n2, c2, z2, rfl, o1, l1, t1, e1, b1, o2, l2, t2, e2, b2, hb⟩
            have hnew := HD.out.euclid (by omega) hbs (Below.refl _ _) o2 l2 t2 e2 hb
            have HNEW := Lib.hid hnew.1
            have hn2m : n2 ≤ m := hnew.1.mn
            have HHB := Lib.hid hb
            clear o1 o2 e1 e2 hb hnew HDV l1 t1 l2 t2
            by_cases hn20 : n2 = 0
            · have hme2 : ((n2 : Int) == 0) = true := by simp; omega
              have hR0 : A % B = 0 := by
                have h1 := HNEW.out.ob.sl.len
                have h2 : z2 = [] := List.eq_nil_of_length_eq_zero (by omega)
                have h3 := HNEW.out.vB
                rw [h2] at h3
                simp [val] at h3
                omega
              have hBG : B = G := by
                have := HNEW.out.g
                rwa [hR0, Nat.gcd_zero_right] at this
              have HBG := Lib.hid hBG
              clear hBG hR0 hn20
              go_wp2_with fail
              go_ret
              exact ⟨bo, m, capb, ys, rfl, HNEW.out.oa, HNEW.out.lx, HNEW.out.tx, by rw [HNEW.out.vA, HBG.out], by omega, HNEW.out.bel⟩
            · have hme2 : ((n2 : Int) == 0) = false := by simp; omega
              have hbs4 : Bb ≤ w4.heap.size := Nat.le_trans hBb HNEW.out.bel.size
              obtain ⟨k1, k2, k3, k4⟩ := div_end HNEW.out hbs4 (by omega) (by omega) hN
              have J1 := Lib.hid k3
              have J2 := Lib.hid k4
              have WG := Lib.hid (fun q => words_gcd (w4.drewN q) B (A % B) k1 k2)
              have HGG := Lib.hid HNEW.out.g
              obtain ⟨R, hR⟩ : ∃ R, A % B = R := ⟨_, rfl⟩
              rw [hR] at J2 WG HGG k2
              rw [HGG.out] at WG
              have hGl : G < 18446744073709551616 := by
                have := Nat.gcd_le_left R (show 0 < B by
                  have h1 := HNEW.out.le
                  have h2 := HNEW.out.ob.sl.len
                  have h3 := val_pos_of_top HNEW.out.ly HNEW.out.ty (by intro e; rw [e] at h2; simp at h2; omega)
                  have h4 := pow_pos (z2.length - 1)
                  have h5 := HNEW.out.vB
                  omega)
                rw [HGG.out] at this
                omega
              have J10 := Lib.hid (J1.out 0)
              clear k3 k4 hR hn20
              go_wp2_with fail
              refine J10.out.mono ?_
              rintro e w5 ⟨rfl, q5, rfl⟩
              go_wp2_with fail
              refine (J2.out _).mono ?_
              rintro e w6 ⟨rfl, q6, rfl⟩
              go_wp2_with fail
              refine (WG.out _).mono ?_
              rintro e w7 ⟨rfl, q7, rfl⟩
              go_wp2_with fail
              refine (split_any _ (G : Int) (by omega) (by omega)).mono ?_
              rintro e w8 ⟨a8, n8, c8, z8, rfl, o8, l8, t8, v8, b8, u8⟩
              have hbd := (below_drewN (HNEW.out.bel) _).trans (u8.mono (by first | (simp; omega) | simpa using hbs4))
              have HO := Lib.hid (o8.mono (show Bb ≤ _ by first | (simp; omega) | simpa using hbs4))
              have HVV := Lib.hid v8
              have HBD := Lib.hid hbd
              clear o8 v8 u8 hbd
              go_wp2_with fail
              go_ret
              exact ⟨_, _, _, z8, rfl, HO.out, l8, t8, HVV.out, by omega, HBD.out⟩
          · have hnI : ¬ (2 : Int) < (n : Int) := by omega
            obtain ⟨k1, k2, k3, k4⟩ := div_end HD.out hbs (by omega) (by omega) hN
            have J1 := Lib.hid k3
            have J2 := Lib.hid k4
            have WG := Lib.hid (fun q => words_gcd (wr.drewN q) A B k1 k2)
            have HGG := Lib.hid HD.out.g
            rw [HGG.out] at WG
            have hGl : G < 18446744073709551616 := by
              have := Nat.gcd_le_right A (show 0 < B by
                have h2 := HD.out.ob.sl.len
                have h3 := val_pos_of_top HD.out.ly HD.out.ty (by intro e; rw [e] at h2; simp at h2; omega)
                have h4 := pow_pos (ys.length - 1)
                have h5 := HD.out.vB
                omega)
              rw [HGG.out] at this
              omega
            have J10 := Lib.hid (J1.out 0)
            have hbs4 := hbs
            clear k3 k4
            go_wp2_with fail
            refine J10.out.mono ?_
            rintro e w5 ⟨rfl, q5, rfl⟩
            go_wp2_with fail
            refine (J2.out _).mono ?_
            rintro e w6 ⟨rfl, q6, rfl⟩
            go_wp2_with fail
            refine (WG.out _).mono ?_
            rintro e w7 ⟨rfl, q7, rfl⟩
            go_wp2_with fail
            refine (split_any _ (G : Int) (by omega) (by omega)).mono ?_
            rintro e w8 ⟨a8, n8, c8, z8, rfl, o8, l8, t8, v8, b8, u8⟩
            have hbd := (below_drewN (HD.out.bel) _).trans (u8.mono (by first | (simp; omega) | simpa using hbs4))
            have HO := Lib.hid (o8.mono (show Bb ≤ _ by first | (simp; omega) | simpa using hbs4))
            have HVV := Lib.hid v8
            have HBD := Lib.hid hbd
            clear o8 v8 u8 hbd
            go_wp2_with fail
            go_ret
            exact ⟨_, _, _, z8, rfl, HO.out, l8, t8, HVV.out, by omega, HBD.out⟩

set_option maxHeartbeats 1000000
set_option linter.unusedVariables false

def RetClone (v : World) (n : Nat) (xs : List Int) (e : Ending) (v' : World) : Prop :=
  ∃ a k, e = .returned (.slice a n k) ∧ Own v.heap.size v' a n k xs ∧ Below v.heap.size v v'

theorem gcd_divide {B : Nat} {v0 v1 v2 : World} {a1 a2 : Option Addr} {n m k1 k2 : Nat} {xs ys : List Int} {A C : Nat} (o1 : Own v0.heap.size v1 a1 n k1 xs) (o2 : Own v1.heap.size v2 a2 m k2 ys) (h0 : B ≤ v0.heap.size) (u1 : v0.heap.size ≤ v1.heap.size) (u2 : Below v1.heap.size v1 v2)
    (lx : Lim xs) (ly : Lim ys) (tx : Top xs) (ty : Top ys) (hA : val xs = (A : Int)) (hC : val ys = (C : Int)) (N : Nat) (hn : n ≤ N) (hm : m ≤ N) (hN : N ≤ 1000000) :
    Calls Tryz.prog 153 #[.slice a1 n k1, .slice a2 m k2] v2 (RetNatB B v2 (Nat.gcd A C : Int) (N + 2)) ∧ Calls Tryz.prog 153 #[.slice a2 m k2, .slice a1 n k1] v2 (RetNatB B v2 (Nat.gcd A C : Int) (N + 2)) := by
  have hs2 := u2.size
  have p1 : Own B v2 a1 n k1 xs := (o1.mono h0).kept u2
  have p2 : Own B v2 a2 m k2 ys := o2.mono (by omega)
  have ne : ∀ g1 g2, a1 = some ⟨g1, 0, none⟩ → a2 = some ⟨g2, 0, none⟩ → g1 ≠ g2 := by
    rintro g1 g2 rfl rfl
    have q1 := o1.block_lt.2
    have q2 := o2.block_lt.1
    omega
  constructor
  · exact divisor_any v2 B N A C n m a1 a2 k1 k2 xs ys p1 p2 ne lx ly tx ty hA hC hn hm hN (by omega)
  · have := divisor_any v2 B N C A m n a2 a1 k2 k1 ys xs p2 p1 (fun g1 g2 e1 e2 => (ne g2 g1 e2 e1).symm) ly lx ty tx hC hA hm hn hN (by omega)
    rwa [Nat.gcd_comm] at this

set_option maxRecDepth 100000 in
set_option maxHeartbeats 2000000 in
theorem gcd_int (w : World) (nx ny : Bool) (ao bo : Option Addr) (n m capa capb : Nat) (xs ys : List Int) (x y : Int) (hx : IntAt w nx ao n capa xs x) (hy : IntAt w ny bo m capb ys y) (N : Nat) (hn : n ≤ N) (hm : m ≤ N) (hN : N ≤ 1000000) :
    Calls Tryz.prog 119 #[.agg #[.bool nx, .slice ao n capa], .agg #[.bool ny, .slice bo m capb]] w (RetInt w (Nat.gcd x.natAbs y.natAbs : Int) (N + 2)) := by
  obtain ⟨A, hA⟩ : ∃ A : Nat, val xs = (A : Int) := ⟨(val xs).toNat, by have := val_nonneg hx.lim; omega⟩
  obtain ⟨C, hC⟩ : ∃ C : Nat, val ys = (C : Int) := ⟨(val ys).toNat, by have := val_nonneg hy.lim; omega⟩
  have hxA : x.natAbs = A := by have := hx.abs; omega
  have hyC : y.natAbs = C := by have := hy.abs; omega
  rw [hxA, hyC]
  have lx := hx.lim
  have ly := hy.lim
  have tx := hx.top
  have ty := hy.top
  have HX := Lib.hid hx.sl
  have HY := Lib.hid hy.sl
  have HVA := Lib.hid hA
  have HVC := Lib.hid hC
  clear hx hy hxA hyC hA hC
  obtain ⟨G, hG⟩ : ∃ G, Nat.gcd A C = G := ⟨_, rfl⟩
  have HG := Lib.hid hG
  rw [hG]
  clear hG
  go_enter Tryz.func119, Tryz.ntmps119
  go_upto_region 1 with (fail)
  obtain ⟨w1, hw1⟩ : ∃ w1, w1 = ((w.alloc (.cells #[.bool nx, .slice ao n capa] 31)).alloc (.cells #[.bool ny, .slice bo m capb] 31)).alloc (.cells #[.bool false, .slice none 0 0] 31) := ⟨_, rfl⟩
  have hbw : Below w.heap.size w w1 := by rw [hw1]; exact (((Below.refl _ _).alloc (Nat.le_refl _) _).alloc (by simp) _).alloc (by simp; omega) _
  have hsz : w1.heap.size = w.heap.size + 1 + 1 + 1 := by rw [hw1]; simp
  have r0 : w1.heap[w.heap.size]? = some (.cells #[.bool nx, .slice ao n capa] 31 (0, 0)) := by rw [hw1, heap_alloc_old _ _ (by simp; omega), heap_alloc_old _ _ (by simp)]; exact heap_alloc_new w _
  have r1 : w1.heap[w.heap.size + 1]? = some (.cells #[.bool ny, .slice bo m capb] 31 (0, 0)) := by
    rw [hw1, heap_alloc_old _ _ (by simp)]
    have := heap_alloc_new (w.alloc (.cells #[.bool nx, .slice ao n capa] 31)) (.cells #[.bool ny, .slice bo m capb] 31)
    simpa using this
  have r2 : w1.heap[w.heap.size + 1 + 1]? = some (.cells #[.bool false, .slice none 0 0] 31 (0, 0)) := by
    rw [hw1]
    have := heap_alloc_new ((w.alloc (.cells #[.bool nx, .slice ao n capa] 31)).alloc (.cells #[.bool ny, .slice bo m capb] 31)) (.cells #[.bool false, .slice none 0 0] 31)
    simpa using this
  rw [← hw1]
  clear hw1
  obtain ⟨p, hp⟩ : ∃ p, p = w.heap.size := ⟨_, rfl⟩
  rw [← hp] at r0 r1 r2 hsz ⊢
  obtain ⟨x0, x1, -, -⟩ := blk2 r0
  obtain ⟨y0, y1, -, -⟩ := blk2 r1
  have hl0 : p < w1.heap.size := by omega
  have hl1 : p + 1 < w1.heap.size := by omega
  have HP := Lib.hid hp
  have R2 := Lib.hid r2
  have HBW := Lib.hid hbw
  have hl2 : p + 1 + 1 < w1.heap.size := by omega
  have HCX : Hid (∀ v, Below w1.heap.size w1 v → Calls Tryz.prog 113 #[.slice ao n capa] v (RetClone v n xs)) := Lib.hid fun v hv => clone_any v ao n capa xs (HX.out.below (hbw.trans (hv.mono (by omega)))) (by omega)
  have HCY : Hid (∀ v, Below w1.heap.size w1 v → Calls Tryz.prog 113 #[.slice bo m capb] v (RetClone v m ys)) := Lib.hid fun v hv => clone_any v bo m capb ys (HY.out.below (hbw.trans (hv.mono (by omega)))) (by omega)
  clear r0 r1 r2 hsz hp hbw
  go_wp2_with fail
  go_region_law (first
    | (go_simp; (with_reducible refine (HCX.out _ (by first | exact XB | exact (Below.refl _ _).drew)).mono ?_); rintro e vA ⟨aA, kA, rfl, oA, uA⟩; dsimp only; have XA : Below w1.heap.size w1 vA := (by first | exact XB.trans (uA.mono XB.size) | exact (Below.refl _ _).drew.trans uA); have yA : vA.cell? ⟨p + 1, 1, none⟩ = some (.slice bo m capb) := (XA.cell (p := ⟨p + 1, 1, none⟩) hl1).trans y1)
    | (go_simp; (with_reducible refine (HCY.out _ (by first | exact XA | exact (Below.refl _ _).drew)).mono ?_); rintro e vB ⟨aB, kB, rfl, oB, uB⟩; dsimp only; have XB : Below w1.heap.size w1 vB := (by first | exact XA.trans (uB.mono XA.size) | exact (Below.refl _ _).drew.trans uB); have yB : vB.cell? ⟨p, 1, none⟩ = some (.slice ao n capa) := (XB.cell (p := ⟨p, 1, none⟩) hl0).trans x1)
    | (go_simp; (refine (show Calls Tryz.prog 153 #[.slice aA n kA, .slice aB m kB] _ (RetNatB w1.heap.size _ (G : Int) (N + 2)) from (by rw [← HG.out]; first | exact (gcd_divide oA oB (by first | exact Nat.le_refl _ | simp) uA.size uB lx ly tx ty HVA.out HVC.out N hn hm hN).1 | (rw [Nat.gcd_comm]; exact (gcd_divide oB oA (by first | exact Nat.le_refl _ | simp) uB.size uA ly lx ty tx HVC.out HVA.out N hm hn hN).2))).mono ?_); rintro e vC ⟨aG, nG, kG, zG, rfl, oG, lG, tG, eG, bG, uG⟩; dsimp only; have XC : Below w1.heap.size w1 vC := (by first | exact XB.trans uG | exact XA.trans uG); have EG := Lib.hid eG; clear eG)
    | (go_simp; (refine (wrap_int vC false aG nG kG zG oG.sl lG (x := (G : Int)) (by rw [EG.out]; rfl)).mono ?_); rintro e vD ⟨sD, aD, nD, kD, zD, rfl, iD, gD, uD⟩; dsimp only; have XD : Below w1.heap.size w1 vD := XC.trans (uD.mono XC.size); have rD := (XD.block _ hl2).trans R2.out; obtain ⟨t0, t1, q0, q1⟩ := blk2 rD; have ID := Lib.hid (iD.stored rD (.bool sD) (.slice aD nD kD)); clear iD rD))
  all_goals
    have hbf := HBW.out.trans (XD.mono HBW.out.size)
    go_wp2_with fail
    refine bodyPost_ret (v := .agg #[.bool sD, .slice aD nD kD]) (by simp [results, Tryz.results119, go_sem, t0, t1]) rfl ?_
    exact ⟨_, _, _, _, _, rfl, ID.out, by omega, (hbf.setCell (p := ⟨p + 1 + 1, 0, none⟩) (by have := HP.out; dsimp only; omega) _).setCell (p := ⟨p + 1 + 1, 1, none⟩) (by have := HP.out; dsimp only; omega) _⟩
end Go.Proofs.YtdfepdhflnnjpaaGreat
