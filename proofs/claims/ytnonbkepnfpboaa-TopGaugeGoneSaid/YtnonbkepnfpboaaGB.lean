/- TopGaugeGone of any cellar, losses and amount. -/
import Derived.Test.YtnonbkepnfpboaaGA
set_option linter.unusedVariables false
set_option linter.unusedSimpArgs false
namespace Go.Proofs.Ytnonbkepnfpboaa
open Go.RowKit
namespace Sy
open Go.RowKit

/-! Numbers of symbols, without the wraps. -/
abbrev OkC (D : Dn) (f : Fact) : Prop := ∃ x y, Dv D f.2.1 x ∧ Dv D f.2.2.1 y ∧ cmpN f.1 x y = f.2.2.2
theorem c_nil {D : Dn} {G : List Fact} : ∀ f ∈ G.take 0, OkC D f := fun f h => by simp at h
theorem c_more {D : Dn} {G : List Fact} {k : Nat} {g : Fact} (h : ∀ f ∈ G.take k, OkC D f) (e : G[k]? = some g) (hg : OkC D g) : ∀ f ∈ G.take (k + 1), OkC D f := fun f hf => by
  rw [List.take_add_one, e] at hf
  rcases List.mem_append.1 hf with h1 | h1
  · exact h f h1
  · simp at h1; subst h1; exact hg
theorem c_snoc {D : Dn} {G : List Fact} {k : Nat} {g : Fact} (h : ∀ f ∈ G.take k, OkC D f) (hg : OkC D g) : ∀ f ∈ G.take k ++ [g], OkC D f := fun f hf => by
  rcases List.mem_append.1 hf with h1 | h1
  · exact h f h1
  · simp at h1; subst h1; exact hg
section
variable {D : Dn} {a b : Value} {x y : Int}
theorem leY (ha : Dv D a x) (hb : Dv D b y) (h : x ≤ y) : OkC D (2, a, b, true) := ⟨x, y, ha, hb, decide_eq_true h⟩
theorem leN (ha : Dv D a x) (hb : Dv D b y) (h : ¬ x ≤ y) : OkC D (2, a, b, false) := ⟨x, y, ha, hb, decide_eq_false h⟩
theorem ltY (ha : Dv D a x) (hb : Dv D b y) (h : x < y) : OkC D (1, a, b, true) := ⟨x, y, ha, hb, decide_eq_true h⟩
theorem ltN (ha : Dv D a x) (hb : Dv D b y) (h : ¬ x < y) : OkC D (1, a, b, false) := ⟨x, y, ha, hb, decide_eq_false h⟩
theorem eqY (ha : Dv D a x) (hb : Dv D b y) (h : x = y) : OkC D (0, a, b, true) := ⟨x, y, ha, hb, decide_eq_true h⟩
theorem eqN (ha : Dv D a x) (hb : Dv D b y) (h : ¬ x = y) : OkC D (0, a, b, false) := ⟨x, y, ha, hb, decide_eq_false h⟩
theorem dAdd (ha : Dv D a x) (hb : Dv D b y) (h : -9000000000000000000 ≤ x + y ∧ x + y ≤ 9000000000000000000) : Dv D (bC 1 a b) (x + y) := by
  have := Dv.bin (t := 1) (by decide) ha hb
  rwa [show binN 1 x y = x + y from IntWalk.i64_in _ (by omega)] at this
theorem dSub (ha : Dv D a x) (hb : Dv D b y) (h : -9000000000000000000 ≤ x - y ∧ x - y ≤ 9000000000000000000) : Dv D (bC 2 a b) (x - y) := by
  have := Dv.bin (t := 2) (by decide) ha hb
  rwa [show binN 2 x y = x - y from IntWalk.i64_in _ (by omega)] at this
theorem dMul (ha : Dv D a x) (hb : Dv D b y) {z : Int} (e : x * y = z) (h : -9000000000000000000 ≤ z ∧ z ≤ 9000000000000000000) : Dv D (bC 3 a b) z := by
  have := Dv.bin (t := 3) (by decide) ha hb
  rwa [show binN 3 x y = z from by show IntKind.i64.wrap (x * y) = z; rw [e]; exact IntWalk.i64_in _ (by omega)] at this
theorem dMin (ha : Dv D a x) (hb : Dv D b y) : Dv D (bC 4 a b) (min x y) := Dv.bin (t := 4) (by decide) ha hb
theorem dMax (ha : Dv D a x) (hb : Dv D b y) : Dv D (bC 5 a b) (max x y) := Dv.bin (t := 5) (by decide) ha hb
theorem dC {z : Int} (ha : Dv D a x) (e : x = z) : Dv D a z := by rw [← e]; exact ha
theorem dApp1 {t : Nat} (ht : 100 ≤ t) (ha : Dv D a x) : Dv D (.iface t (.tuple #[a])) (D.int t [x]) := .app ht rfl (fun i v z hv hz => by
  match i with
  | 0 => simp at hv hz; subst hv hz; exact ha
  | i + 1 => simp at hv)
theorem dApp3 {t : Nat} (ht : 100 ≤ t) {c : Value} {u : Int} (ha : Dv D a x) (hb : Dv D b y) (hc : Dv D c u) : Dv D (.iface t (.tuple #[a, b, c])) (D.int t [x, y, u]) := .app ht rfl (fun i v z hv hz => by
  match i with
  | 0 => simp at hv hz; subst hv hz; exact ha
  | 1 => simp at hv hz; subst hv hz; exact hb
  | 2 => simp at hv hz; subst hv hz; exact hc
  | i + 3 => simp at hv)
theorem dApp2 {t : Nat} (ht : 100 ≤ t) (ha : Dv D a x) (hb : Dv D b y) : Dv D (.iface t (.tuple #[a, b])) (D.int t [x, y]) := .app ht rfl (fun i v z hv hz => by
  match i with
  | 0 => simp at hv hz; subst hv hz; exact ha
  | 1 => simp at hv hz; subst hv hz; exact hb
  | i + 2 => simp at hv)
end
section
variable {is : List Int} {p q : Value} {a b c : Value} {x y : Int}
theorem dNum0 {m : Int} (ha : Dv (DC is p q) a x) (h0 : 0 ≤ x) (h1 : x ≤ m) : Dv (DC is p q) (numC a m) 0 := by
  have h : Dv (DC is p q) (numC a m) (numE x 0 m) := dApp3 (t := 103) (by decide) ha (.lit 0) (.lit m)
  rwa [show numE x 0 m = 0 from by unfold numE; rw [if_pos (inB_yes h0 h1)]] at h
theorem dFir2 (ha : Dv (DC is p q) a 0) (hb : Dv (DC is p q) b 0) : Dv (DC is p q) (firC [a, b]) 0 := dApp2 (t := 104) (by decide) ha hb
theorem dFir3 (ha : Dv (DC is p q) a 0) (hb : Dv (DC is p q) b 0) (hc : Dv (DC is p q) c 0) : Dv (DC is p q) (firC [a, b, c]) 0 := dApp3 (t := 104) (by decide) ha hb hc
theorem dRng0 (ha : Dv (DC is p q) a x) (hb : Dv (DC is p q) b y) (h0 : 0 ≤ x) (h1 : x ≤ 100000) (h2 : 0 ≤ y) (h3 : y ≤ 100000) : Dv (DC is p q) (rngC a b) 0 := dFir3 (dNum0 ha h0 h1) (dNum0 hb h2 h3) (.lit 0)
theorem dFl (ha : Dv (DC is p q) a (1000 * x)) (h : -1000000000000 ≤ x ∧ x ≤ 1000000000000) : Dv (DC is p q) (.iface 108 (.tuple #[a])) x := by
  have d : Dv (DC is p q) (.iface 108 (.tuple #[a])) (floorK (1000 * x)) := dApp1 (t := 108) (by decide) ha
  rwa [show floorK (1000 * x) = x from by
    unfold floorK
    rw [Int.mul_tmod_right, if_neg (by decide), Int.mul_tdiv_cancel_left _ (by decide)]
    exact IntWalk.wrap64_in _ (by omega)] at d
theorem dCl (ha : Dv (DC is p q) a (1000 * x)) (h : -1000000000000 ≤ x ∧ x ≤ 1000000000000) : Dv (DC is p q) (.iface 109 (.tuple #[a])) x := by
  have d : Dv (DC is p q) (.iface 109 (.tuple #[a])) (ceilK (1000 * x)) := dApp1 (t := 109) (by decide) ha
  rwa [show ceilK (1000 * x) = x from by
    unfold ceilK
    rw [IntWalk.i64_in (-(1000 * x)) (by omega), show -(1000 * x) = 1000 * (-x) by omega]
    unfold floorK
    rw [Int.mul_tmod_right, if_neg (by decide), Int.mul_tdiv_cancel_left _ (by decide)]
    rw [IntWalk.wrap64_in (-x) (by omega), Int.neg_neg]
    exact IntWalk.wrap64_in _ (by omega)] at d
end
/-! Windows. -/
def WinB (gs os : Nat) (xs : List Int) (w : World) : Prop := ∃ c' e fr, w.heap[gs]? = some (.cells c' e fr) ∧ (c'.toList.drop os).take xs.length = xs.map fun x => Value.int .i64 x
theorem winB_of {b off n : Nat} {g : Nat → Int} {w : World} (h0 : 0 < n) (hx : ∀ k, k < n → w.cell? ⟨b, off + k, none⟩ = some (.int .i64 (g k))) : WinB b off ((List.range n).map g) w := by
  have h := hx 0 h0
  have hcell : ∃ c e fr, w.heap[b]? = some (.cells c e fr) := by
    unfold World.cell? at h
    split at h
    · rename_i c e fr hb
      exact ⟨c, e, fr, hb⟩
    · cases h
  obtain ⟨c, e, fr, hb⟩ := hcell
  refine ⟨c, e, fr, hb, ?_⟩
  have hc : ∀ k, k < n → c[off + k]? = some (.int .i64 (g k)) := fun k hk => by
    have h1 := hx k hk
    unfold World.cell? at h1
    rw [hb] at h1
    exact h1
  apply List.ext_getElem?
  intro i
  simp only [List.length_map, List.length_range, List.getElem?_take, List.getElem?_map]
  by_cases hi : i < n
  · rw [if_pos hi, List.getElem?_drop, Array.getElem?_toList, hc i hi, List.getElem?_range hi]
    rfl
  · rw [if_neg hi, List.getElem?_eq_none (by simp; omega)]
    rfl
theorem winB {P : Pg} {M : Mp} {gs os : Nat} {xs : List Int} {row : List Value} {w : World} (hl : row.length = xs.length) (hd : ∀ (i : Nat) (v : Value) (x : Int), row[i]? = some v → xs[i]? = some x → Dv P.den v x) (hw : WinB gs os xs w) (hpin : ∀ ob, P.den.pin ob) : ∃ ob, w.heap[gs]? = some ob ∧ ORel P M os (.win row) ob := by
  obtain ⟨c', e, fr, h1, h2⟩ := hw
  refine ⟨_, h1, c', e, fr, rfl, ?_, hpin _⟩
  rw [hl, h2]
  refine ⟨by simp [hl], fun i v v' hv hv' => ?_⟩
  rw [List.getElem?_map] at hv'
  cases hx : xs[i]? with
  | none => rw [hx] at hv'; cases hv'
  | some x =>
    rw [hx] at hv'
    cases hv'
    exact (hd i v x hv hx).vrel
def mp2 (g0 o0 g1 o1 : Nat) : Mp := fun id => if id = 0 then some (g0, o0) else if id = 1 then some (g1, o1) else none
theorem hpC_get (id : Nat) (o : AObj) (h : hpC.get id = some o) : (id = 0 ∧ o = .win [hC 5, hC 6]) ∨ (id = 1 ∧ o = .win [hC 7, hC 8, hC 9, hC 10]) := by
  unfold hpC at h
  rw [T.get_node] at h
  by_cases h0 : id = 0
  · simp [h0] at h; exact .inl ⟨h0, h.symm⟩
  · simp only [h0, if_false] at h
    split at h
    · rw [T.get_node] at h
      by_cases h1 : id / 2 = 0
      · simp [h1] at h; exact .inr ⟨by omega, h.symm⟩
      · simp [h1, T.get_leaf] at h
    · simp [T.get_leaf] at h
section
variable {V L Mv D0 D1 w00 w01 w10 w11 lo hi tk : Int} {nd nw : Nat} {p q : Value}
abbrev isC (V L Mv D0 D1 w00 w01 w10 w11 lo hi tk : Int) (nd nw : Nat) : List Int := [V, L, Mv, nd, nw, D0, D1, w00, w01, w10, w11, lo, hi, tk]
abbrev DG (V L Mv D0 D1 w00 w01 w10 w11 lo hi tk : Int) (nd nw : Nat) (p q : Value) : Dn := DC (isC V L Mv D0 D1 w00 w01 w10 w11 lo hi tk nd nw) p q
theorem g0 : Dv (DG V L Mv D0 D1 w00 w01 w10 w11 lo hi tk nd nw p q) (hC 0) V := .hole rfl
theorem g1 : Dv (DG V L Mv D0 D1 w00 w01 w10 w11 lo hi tk nd nw p q) (hC 1) L := .hole rfl
theorem g2 : Dv (DG V L Mv D0 D1 w00 w01 w10 w11 lo hi tk nd nw p q) (hC 2) Mv := .hole rfl
theorem g3 : Dv (DG V L Mv D0 D1 w00 w01 w10 w11 lo hi tk nd nw p q) (hC 3) (nd : Int) := .hole rfl
theorem g4 : Dv (DG V L Mv D0 D1 w00 w01 w10 w11 lo hi tk nd nw p q) (hC 4) (nw : Int) := .hole rfl
theorem g5 : Dv (DG V L Mv D0 D1 w00 w01 w10 w11 lo hi tk nd nw p q) (hC 5) D0 := .hole rfl
theorem g6 : Dv (DG V L Mv D0 D1 w00 w01 w10 w11 lo hi tk nd nw p q) (hC 6) D1 := .hole rfl
theorem g7 : Dv (DG V L Mv D0 D1 w00 w01 w10 w11 lo hi tk nd nw p q) (hC 7) w00 := .hole rfl
theorem g8 : Dv (DG V L Mv D0 D1 w00 w01 w10 w11 lo hi tk nd nw p q) (hC 8) w01 := .hole rfl
theorem g9 : Dv (DG V L Mv D0 D1 w00 w01 w10 w11 lo hi tk nd nw p q) (hC 9) w10 := .hole rfl
theorem g10 : Dv (DG V L Mv D0 D1 w00 w01 w10 w11 lo hi tk nd nw p q) (hC 10) w11 := .hole rfl
theorem g11 : Dv (DG V L Mv D0 D1 w00 w01 w10 w11 lo hi tk nd nw p q) (hC 11) lo := .hole rfl
theorem g12 : Dv (DG V L Mv D0 D1 w00 w01 w10 w11 lo hi tk nd nw p q) (hC 12) hi := .hole rfl
theorem g13 : Dv (DG V L Mv D0 D1 w00 w01 w10 w11 lo hi tk nd nw p q) (hC 13) tk := .hole rfl
structure Good (V L Mv D0 D1 w00 w01 w10 w11 lo hi tk : Int) : Prop where
  v0 : 0 ≤ V
  v1 : V ≤ 50000
  l0 : 0 ≤ lo
  l1 : lo ≤ L
  l2 : L ≤ hi
  l3 : hi ≤ 1000
  t0 : 0 ≤ tk
  t1 : tk ≤ 20000
  a0 : 0 ≤ D0
  a1 : D0 ≤ 8
  b0 : 0 ≤ w00
  b1 : w00 ≤ 100
  b2 : 0 ≤ w01
  b3 : w01 ≤ 100
  n0 : 100 ≤ V - L * D0
  c0 : 0 ≤ D1
  c1 : D1 ≤ 8
  c2 : D0 ≤ D1
  d0 : 0 ≤ w10
  d1 : w10 ≤ 100
  d2 : 0 ≤ w11
  d3 : w11 ≤ 100
  n1 : 100 ≤ V - L * D1 - tk
theorem mul_bd {x y m n : Int} (h0 : 0 ≤ x) (h1 : x ≤ m) (h2 : 0 ≤ y) (h3 : y ≤ n) : 0 ≤ x * y ∧ x * y ≤ m * n :=
  ⟨Int.mul_nonneg h0 h2, Int.mul_le_mul h1 h3 h2 (by omega)⟩
theorem dN0 (h0 : 0 ≤ L) (h1 : L ≤ 1000) (h2 : 0 ≤ D0) (h3 : D0 ≤ 8) (v0 : 0 ≤ V) (v1 : V ≤ 50000) (t0 : 0 ≤ tk) (t1 : tk ≤ 20000) : Dv (DG V L Mv D0 D1 w00 w01 w10 w11 lo hi tk nd nw p q) (nC 0) (V - L * D0) := by
  have a := mul_bd h0 h1 h2 h3
  exact dC (dSub (dSub g0 (dMul g1 g5 rfl (by omega)) (by omega)) (dMul (.lit 0) g13 (Int.zero_mul tk) (by omega)) (by omega)) (by omega)
theorem dN1 (h0 : 0 ≤ L) (h1 : L ≤ 1000) (h2 : 0 ≤ D1) (h3 : D1 ≤ 8) (v0 : 0 ≤ V) (v1 : V ≤ 50000) (t0 : 0 ≤ tk) (t1 : tk ≤ 20000) : Dv (DG V L Mv D0 D1 w00 w01 w10 w11 lo hi tk nd nw p q) (nC 1) (V - L * D1 - tk) := by
  have a := mul_bd h0 h1 h2 h3
  exact dSub (dSub g0 (dMul g1 g6 rfl (by omega)) (by omega)) (dMul (.lit 1) g13 (Int.one_mul tk) (by omega)) (by omega)
theorem okAll (h : Good V L Mv D0 D1 w00 w01 w10 w11 lo hi tk) (hE : ∀ f ∈ eC, OkC (DG V L Mv D0 D1 w00 w01 w10 w11 lo hi tk nd nw p q) f) : ∃ c, ∀ f ∈ allC c, OkC (DG V L Mv D0 D1 w00 w01 w10 w11 lo hi tk nd nw p q) f := by
  obtain ⟨v0, v1, l0, l1, l2, l3, t0, t1, a0, a1, b0, b1, b2, b3, n0, c0, c1, c2, d0, d1, d2, d3, n1⟩ := h
  have m0 := mul_bd (show 0 ≤ L by omega) (show L ≤ 1000 by omega) a0 a1
  have m1 := mul_bd (show 0 ≤ L by omega) (show L ≤ 1000 by omega) c0 c1
  have m2 := mul_bd l0 (show lo ≤ 1000 by omega) (show 0 ≤ D1 - D0 by omega) (show D1 - D0 ≤ 8 by omega)
  have m3 := mul_bd (show 0 ≤ hi by omega) l3 (show 0 ≤ D1 - D0 by omega) (show D1 - D0 ≤ 8 by omega)
  have m4 : L * (D1 - D0) = L * D1 - L * D0 := Int.mul_sub L D1 D0
  have m5 : lo * (D1 - D0) ≤ L * (D1 - D0) := Int.mul_le_mul_of_nonneg_right l1 (by omega)
  have m6 : L * (D1 - D0) ≤ hi * (D1 - D0) := Int.mul_le_mul_of_nonneg_right l2 (by omega)
  have hn0 : Dv (DG V L Mv D0 D1 w00 w01 w10 w11 lo hi tk nd nw p q) (nC 0) (V - L * D0) := dN0 (by omega) (by omega) a0 a1 v0 v1 t0 t1
  have hn1 : Dv (DG V L Mv D0 D1 w00 w01 w10 w11 lo hi tk nd nw p q) (nC 1) (V - L * D1 - tk) := dN1 (by omega) (by omega) c0 c1 v0 v1 t0 t1
  have hl0 : Dv (DG V L Mv D0 D1 w00 w01 w10 w11 lo hi tk nd nw p q) (loC 0) (V - L * D0 - w00) := dSub hn0 g7 (by omega)
  have hh0 : Dv (DG V L Mv D0 D1 w00 w01 w10 w11 lo hi tk nd nw p q) (hiC 0) (V - L * D0 + w01) := dAdd hn0 g8 (by omega)
  have hl1 : Dv (DG V L Mv D0 D1 w00 w01 w10 w11 lo hi tk nd nw p q) (loC 1) (V - L * D1 - tk - w10) := dSub hn1 g9 (by omega)
  have hh1 : Dv (DG V L Mv D0 D1 w00 w01 w10 w11 lo hi tk nd nw p q) (hiC 1) (V - L * D1 - tk + w11) := dAdd hn1 g10 (by omega)
  have hd0 : Dv (DG V L Mv D0 D1 w00 w01 w10 w11 lo hi tk nd nw p q) (dayC 0) (1000 * D0) := dMul (.lit 1000) g5 rfl (by omega)
  have hd1 : Dv (DG V L Mv D0 D1 w00 w01 w10 w11 lo hi tk nd nw p q) (dayC 1) (1000 * D1) := dMul (.lit 1000) g6 rfl (by omega)
  have hdd : Dv (DG V L Mv D0 D1 w00 w01 w10 w11 lo hi tk nd nw p q) ddC (1000 * D1 - 1000 * D0) := dSub hd1 hd0 (by omega)
  have th : ∀ {v : Value} {x : Int}, Dv (DG V L Mv D0 D1 w00 w01 w10 w11 lo hi tk nd nw p q) v x → -1000000 ≤ x ∧ x ≤ 1000000 → Dv (DG V L Mv D0 D1 w00 w01 w10 w11 lo hi tk nd nw p q) (thC v) (1000 * x) := fun hv hx => dMul (.lit 1000) (dAdd hv (.lit 0) (by omega)) (by omega) (by omega)
  have ha : Dv (DG V L Mv D0 D1 w00 w01 w10 w11 lo hi tk nd nw p q) aLo (1000 * (V - L * D0 - w00 - hi * (D1 - D0))) := dC (dSub (th hl0 (by omega)) (dMul g12 hdd (z := 1000 * (hi * (D1 - D0))) (by rw [show 1000 * D1 - 1000 * D0 = 1000 * (D1 - D0) by omega, Int.mul_left_comm]) (by omega)) (by omega)) (by omega)
  have hb : Dv (DG V L Mv D0 D1 w00 w01 w10 w11 lo hi tk nd nw p q) aHi (1000 * (V - L * D0 + w01 - lo * (D1 - D0))) := dC (dSub (th hh0 (by omega)) (dMul g11 hdd (z := 1000 * (lo * (D1 - D0))) (by rw [show 1000 * D1 - 1000 * D0 = 1000 * (D1 - D0) by omega, Int.mul_left_comm]) (by omega)) (by omega)) (by omega)
  have hg : Dv (DG V L Mv D0 D1 w00 w01 w10 w11 lo hi tk nd nw p q) gLo (V - L * D0 - w00 - hi * (D1 - D0) - (V - L * D1 - tk + w11)) := dSub (dFl ha (by omega)) hh1 (by omega)
  have hk : Dv (DG V L Mv D0 D1 w00 w01 w10 w11 lo hi tk nd nw p q) gHi (V - L * D0 + w01 - lo * (D1 - D0) - (V - L * D1 - tk - w10)) := dSub (dCl hb (by omega)) hl1 (by omega)
  have hcl : Dv (DG V L Mv D0 D1 w00 w01 w10 w11 lo hi tk nd nw p q) cLo (max (1000 * (V - L * D0 - w00 - hi * (D1 - D0))) (1000 * (V - L * D1 - tk - w10))) := dMax ha (th hl1 (by omega))
  have hch : Dv (DG V L Mv D0 D1 w00 w01 w10 w11 lo hi tk nd nw p q) cHi (min (1000 * (V - L * D0 + w01 - lo * (D1 - D0))) (1000 * (V - L * D1 - tk + w11))) := dMin hb (th hh1 (by omega))
  have zero2 : Dv (DG V L Mv D0 D1 w00 w01 w10 w11 lo hi tk nd nw p q) (firC [lC 0, lC 0]) 0 := dFir2 (.lit 0) (.lit 0)
  have rd : ∀ i, i < 2 → Dv (DG V L Mv D0 D1 w00 w01 w10 w11 lo hi tk nd nw p q) (rdC i) 0 := fun i hi => by
    match i, hi with
    | 0, _ => exact dFir2 (dFir3 (.lit 0) (dNum0 hd0 (by omega) (by omega)) (dRng0 hl0 hh0 (by omega) (by omega) (by omega) (by omega))) (.lit 0)
    | 1, _ => exact dFir2 (dFir3 (.lit 0) (dNum0 hd1 (by omega) (by omega)) (dRng0 hl1 hh1 (by omega) (by omega) (by omega) (by omega))) (.lit 0)
  have hF : ∀ f ∈ fC, OkC (DG V L Mv D0 D1 w00 w01 w10 w11 lo hi tk nd nw p q) f := by
    intro f hf
    simp only [fC, List.mem_cons, List.not_mem_nil, or_false] at hf
    rcases hf with rfl | rfl | rfl | rfl | rfl | rfl | rfl
    · exact leY g11 g12 (by omega)
    · exact eqY (dFir3 (dRng0 g11 g12 (by omega) (by omega) (by omega) (by omega)) (.lit 0) (.lit 0)) (.lit 0) rfl
    · exact leY hl0 hh0 (by omega)
    · exact leY hl1 hh1 (by omega)
    · exact eqY (rd 0 (by decide)) (.lit 0) rfl
    · exact leY hd0 hd1 (by omega)
    · exact eqY (rd 1 (by decide)) (.lit 0) rfl
  have hD : ∀ c, decide (min (1000 * (V - L * D0 + w01 - lo * (D1 - D0))) (1000 * (V - L * D1 - tk + w11)) < max (1000 * (V - L * D0 - w00 - hi * (D1 - D0))) (1000 * (V - L * D1 - tk - w10))) = c → ∀ f ∈ fD c, OkC (DG V L Mv D0 D1 w00 w01 w10 w11 lo hi tk nd nw p q) f := by
    intro c hcc f hf
    simp only [fD, List.mem_cons, List.not_mem_nil, or_false] at hf
    rcases hf with rfl | rfl | rfl | rfl | rfl | rfl
    · exact eqY zero2 (.lit 0) rfl
    · exact eqY (dFir2 (.lit 0) zero2) (.lit 0) rfl
    · exact ltN (.lit 0) (dSub hd0 hd1 (by omega)) (by omega)
    · exact ⟨_, _, hch, hcl, hcc⟩
    · exact leY hg g13 (by omega)
    · exact leY g13 hk (by omega)
  cases hcc : decide (min (1000 * (V - L * D0 + w01 - lo * (D1 - D0))) (1000 * (V - L * D1 - tk + w11)) < max (1000 * (V - L * D0 - w00 - hi * (D1 - D0))) (1000 * (V - L * D1 - tk - w10))) with
  | true =>
    refine ⟨true, fun f hf => ?_⟩
    simp only [allC, List.mem_append] at hf
    rcases hf with hf | hf | hf | hf
    · exact hE f hf
    · exact hF f hf
    · exact hD true hcc f hf
    · simp only [fE, List.mem_cons, List.not_mem_nil, or_false] at hf
      subst hf
      have := of_decide_eq_true hcc
      exact ltY (.lit 0) g13 (by omega)
  | false =>
    refine ⟨false, fun f hf => ?_⟩
    simp only [allC, List.mem_append] at hf
    rcases hf with hf | hf | hf | hf
    · exact hE f hf
    · exact hF f hf
    · exact hD false hcc f hf
    · simp [fE] at hf
end
/-- a run that does not look into the slices -/
theorem gone_far {V L Mv D0 D1 w00 w01 w10 w11 lo hi tk : Int} {nd nw cd cw : Nat} {sa sb : Option Addr} {w : World} {l : List Fact} {ok} (hrun : fstO (evDS (pgC (isC V L Mv D0 D1 w00 w01 w10 w11 lo hi tk nd nw) (.slice sa nd cd) (.slice sb nw cw) l ok) spC 2000 60 (.fn 3) (argsC daysH wideH) .leaf 0) = some (.bool true)) :
    Calls Try.prog 3 #[.agg #[.int .i64 V, .int .i64 L, .int .i64 Mv, .slice sa nd cd, .slice sb nw cw], .agg #[.int .i64 lo, .int .i64 hi], .int .i64 tk] w fun e w' => e = .returned (.bool true) ∧ Below w.heap.size w w' :=
  run_true (P := pgC (isC V L Mv D0 D1 w00 w01 w10 w11 lo hi tk nd nw) (.slice sa nd cd) (.slice sb nw cw) l ok) rfl (by kernel_rfl) ok_spC hrun (fun M => LRel.cons (LRel.agg (LRel.cons (Dv.vrel (P := pgC (isC V L Mv D0 D1 w00 w01 w10 w11 lo hi tk nd nw) (.slice sa nd cd) (.slice sb nw cw) l ok) g0) (LRel.cons (Dv.vrel (P := pgC (isC V L Mv D0 D1 w00 w01 w10 w11 lo hi tk nd nw) (.slice sa nd cd) (.slice sb nw cw) l ok) g1) (LRel.cons (Dv.vrel (P := pgC (isC V L Mv D0 D1 w00 w01 w10 w11 lo hi tk nd nw) (.slice sa nd cd) (.slice sb nw cw) l ok) g2) (LRel.cons (.hsl rfl g3) (LRel.cons (.hsl rfl g4) (LRel.nil _)))))))
    (LRel.cons (LRel.agg (LRel.cons (Dv.vrel (P := pgC (isC V L Mv D0 D1 w00 w01 w10 w11 lo hi tk nd nw) (.slice sa nd cd) (.slice sb nw cw) l ok) g11) (LRel.cons (Dv.vrel (P := pgC (isC V L Mv D0 D1 w00 w01 w10 w11 lo hi tk nd nw) (.slice sa nd cd) (.slice sb nw cw) l ok) g12) (LRel.nil _)))) (LRel.cons (Dv.vrel (P := pgC (isC V L Mv D0 D1 w00 w01 w10 w11 lo hi tk nd nw) (.slice sa nd cd) (.slice sb nw cw) l ok) g13) (LRel.nil _)))) w
/-- a run over both windows -/
theorem gone_near {V L Mv D0 D1 w00 w01 w10 w11 lo hi tk : Int} {nd nw cd cw : Nat} {sa sb : Option Addr} {w : World} {gd od gw ow : Nat} (ha : sa = some ⟨gd, od, none⟩) (hb : sb = some ⟨gw, ow, none⟩) (hnd : 2 ≤ nd) (hnw : 2 ≤ nw) (hwd : WinB gd od [D0, D1] w) (hww : WinB gw ow [w00, w01, w10, w11] w) {l : List Fact} {ok}
    (hrun : fstO (evDS (pgC (isC V L Mv D0 D1 w00 w01 w10 w11 lo hi tk nd nw) (.slice sa nd cd) (.slice sb nw cw) l ok) spC 2000 60 (.fn 3) (argsC daysW wideW) hpC 2) = some (.bool true)) :
    Calls Try.prog 3 #[.agg #[.int .i64 V, .int .i64 L, .int .i64 Mv, .slice sa nd cd, .slice sb nw cw], .agg #[.int .i64 lo, .int .i64 hi], .int .i64 tk] w fun e w' => e = .returned (.bool true) ∧ Below w.heap.size w w' := by
  subst ha hb
  have nw' : ∀ id, wrt (hpC.get id) = false := fun id => by
    cases e : hpC.get id with
    | none => rfl
    | some o => rcases hpC_get id o e with ⟨_, rfl⟩ | ⟨_, rfl⟩ <;> rfl
  refine Calls.mono (run_ro (P := pgC (isC V L Mv D0 D1 w00 w01 w10 w11 lo hi tk nd nw) (.slice (some ⟨gd, od, none⟩) nd cd) (.slice (some ⟨gw, ow, none⟩) nw cw) l ok) (M := mp2 gd od gw ow) rfl (by kernel_rfl) ok_spC hrun (args' := #[.agg #[.int .i64 V, .int .i64 L, .int .i64 Mv, .slice (some ⟨gd, od, none⟩) nd cd, .slice (some ⟨gw, ow, none⟩) nw cw], .agg #[.int .i64 lo, .int .i64 hi], .int .i64 tk])
    (LRel.cons (LRel.agg (LRel.cons (Dv.vrel g0) (LRel.cons (Dv.vrel g1) (LRel.cons (Dv.vrel g2) (LRel.cons (.osm rfl g3 hnd) (LRel.cons (.osm rfl g4 hnw) (LRel.nil _)))))))
    (LRel.cons (LRel.agg (LRel.cons (Dv.vrel g11) (LRel.cons (Dv.vrel g12) (LRel.nil _)))) (LRel.cons (Dv.vrel g13) (LRel.nil _)))) ⟨fun id o e => ?_, fun i j b r r' hi => by rw [nw' i] at hi; cases hi⟩ nw' (fun id h1 => ?_)) ?_
  · rcases hpC_get id o e with ⟨rfl, rfl⟩ | ⟨rfl, rfl⟩
    · obtain ⟨ob, h1, h2⟩ := winB (P := pgC (isC V L Mv D0 D1 w00 w01 w10 w11 lo hi tk nd nw) (.slice (some ⟨gd, od, none⟩) nd cd) (.slice (some ⟨gw, ow, none⟩) nw cw) l ok) (M := mp2 gd od gw ow) (row := [hC 5, hC 6]) rfl (fun i v x hv hx => by
        match i with
        | 0 => simp at hv hx; subst hv hx; exact g5
        | 1 => simp at hv hx; subst hv hx; exact g6
        | i + 2 => simp at hv) hwd (fun _ => trivial)
      exact ⟨gd, od, ob, rfl, Nat.zero_le _, h1, h2⟩
    · obtain ⟨ob, h1, h2⟩ := winB (P := pgC (isC V L Mv D0 D1 w00 w01 w10 w11 lo hi tk nd nw) (.slice (some ⟨gd, od, none⟩) nd cd) (.slice (some ⟨gw, ow, none⟩) nw cw) l ok) (M := mp2 gd od gw ow) (row := [hC 7, hC 8, hC 9, hC 10]) rfl (fun i v x hv hx => by
        match i with
        | 0 => simp at hv hx; subst hv hx; exact g7
        | 1 => simp at hv hx; subst hv hx; exact g8
        | 2 => simp at hv hx; subst hv hx; exact g9
        | 3 => simp at hv hx; subst hv hx; exact g10
        | i + 4 => simp at hv) hww (fun _ => trivial)
      exact ⟨gw, ow, ob, rfl, Nat.zero_le _, h1, h2⟩
  · unfold mp2; rw [if_neg (by omega), if_neg (by omega)]
  · rintro e' w' ⟨M', v', rfl, hvr, hwb⟩
    cases hvr
    exact ⟨rfl, hwb⟩
theorem gone_any (V L Mv D0 D1 w00 w01 w10 w11 lo hi tk : Int) (nd nw cd cw : Nat) (sa sb : Option Addr) (gd od gw ow : Nat) (w : World) (ha : 0 < nd → sa = some ⟨gd, od, none⟩) (hb : 0 < nw → sb = some ⟨gw, ow, none⟩) (hwd : 2 ≤ nd → WinB gd od [D0, D1] w) (hww : 2 ≤ nw → WinB gw ow [w00, w01, w10, w11] w) :
    Calls Try.prog 3 #[.agg #[.int .i64 V, .int .i64 L, .int .i64 Mv, .slice sa nd cd, .slice sb nw cw], .agg #[.int .i64 lo, .int .i64 hi], .int .i64 tk] w fun e w' => e = .returned (.bool true) ∧ Below w.heap.size w w' := by
  have p0 : ∀ f ∈ eC.take 0, OkC (DG V L Mv D0 D1 w00 w01 w10 w11 lo hi tk nd nw (.slice sa nd cd) (.slice sb nw cw)) f := c_nil
  by_cases c0 : ¬ (0 ≤ V)
  · exact gone_far (gEarly0 _ _ _ (c_snoc p0 (leN (.lit 0) g0 c0)))
  replace c0 : 0 ≤ V := by omega
  have p1 : ∀ f ∈ eC.take 1, OkC (DG V L Mv D0 D1 w00 w01 w10 w11 lo hi tk nd nw (.slice sa nd cd) (.slice sb nw cw)) f := c_more p0 rfl (leY (.lit 0) g0 c0)
  by_cases c1 : ¬ (V ≤ 50000)
  · exact gone_far (gEarly1 _ _ _ (c_snoc p1 (leN g0 (.lit 50000) c1)))
  replace c1 : V ≤ 50000 := by omega
  have p2 : ∀ f ∈ eC.take 2, OkC (DG V L Mv D0 D1 w00 w01 w10 w11 lo hi tk nd nw (.slice sa nd cd) (.slice sb nw cw)) f := c_more p1 rfl (leY g0 (.lit 50000) c1)
  by_cases c2 : ¬ (0 ≤ lo)
  · exact gone_far (gEarly2 _ _ _ (c_snoc p2 (leN (.lit 0) g11 c2)))
  replace c2 : 0 ≤ lo := by omega
  have p3 : ∀ f ∈ eC.take 3, OkC (DG V L Mv D0 D1 w00 w01 w10 w11 lo hi tk nd nw (.slice sa nd cd) (.slice sb nw cw)) f := c_more p2 rfl (leY (.lit 0) g11 c2)
  by_cases c3 : ¬ (lo ≤ L)
  · exact gone_far (gEarly3 _ _ _ (c_snoc p3 (leN g11 g1 c3)))
  replace c3 : lo ≤ L := by omega
  have p4 : ∀ f ∈ eC.take 4, OkC (DG V L Mv D0 D1 w00 w01 w10 w11 lo hi tk nd nw (.slice sa nd cd) (.slice sb nw cw)) f := c_more p3 rfl (leY g11 g1 c3)
  by_cases c4 : ¬ (L ≤ hi)
  · exact gone_far (gEarly4 _ _ _ (c_snoc p4 (leN g1 g12 c4)))
  replace c4 : L ≤ hi := by omega
  have p5 : ∀ f ∈ eC.take 5, OkC (DG V L Mv D0 D1 w00 w01 w10 w11 lo hi tk nd nw (.slice sa nd cd) (.slice sb nw cw)) f := c_more p4 rfl (leY g1 g12 c4)
  by_cases c5 : ¬ (hi ≤ 1000)
  · exact gone_far (gEarly5 _ _ _ (c_snoc p5 (leN g12 (.lit 1000) c5)))
  replace c5 : hi ≤ 1000 := by omega
  have p6 : ∀ f ∈ eC.take 6, OkC (DG V L Mv D0 D1 w00 w01 w10 w11 lo hi tk nd nw (.slice sa nd cd) (.slice sb nw cw)) f := c_more p5 rfl (leY g12 (.lit 1000) c5)
  by_cases c6 : ¬ (Mv = 0)
  · exact gone_far (gEarly6 _ _ _ (c_snoc p6 (eqN g2 (.lit 0) c6)))
  replace c6 : Mv = 0 := by omega
  have p7 : ∀ f ∈ eC.take 7, OkC (DG V L Mv D0 D1 w00 w01 w10 w11 lo hi tk nd nw (.slice sa nd cd) (.slice sb nw cw)) f := c_more p6 rfl (eqY g2 (.lit 0) c6)
  by_cases c7 : ¬ ((nd : Int) = 2)
  · exact gone_far (gEarly7 _ _ _ (c_snoc p7 (eqN g3 (.lit 2) c7)))
  replace c7 : (nd : Int) = 2 := by omega
  have p8 : ∀ f ∈ eC.take 8, OkC (DG V L Mv D0 D1 w00 w01 w10 w11 lo hi tk nd nw (.slice sa nd cd) (.slice sb nw cw)) f := c_more p7 rfl (eqY g3 (.lit 2) c7)
  by_cases c8 : ¬ (¬ (nw : Int) < 2)
  · exact gone_far (gEarly8 _ _ _ (c_snoc p8 (ltY g4 (.lit 2) (by omega))))
  replace c8 : ¬ (nw : Int) < 2 := by omega
  have p9 : ∀ f ∈ eC.take 9, OkC (DG V L Mv D0 D1 w00 w01 w10 w11 lo hi tk nd nw (.slice sa nd cd) (.slice sb nw cw)) f := c_more p8 rfl (ltN g4 (.lit 2) c8)
  by_cases c9 : ¬ (0 ≤ tk)
  · exact gone_far (gEarly9 _ _ _ (c_snoc p9 (leN (.lit 0) g13 c9)))
  replace c9 : 0 ≤ tk := by omega
  have p10 : ∀ f ∈ eC.take 10, OkC (DG V L Mv D0 D1 w00 w01 w10 w11 lo hi tk nd nw (.slice sa nd cd) (.slice sb nw cw)) f := c_more p9 rfl (leY (.lit 0) g13 c9)
  by_cases c10 : ¬ (tk ≤ 20000)
  · exact gone_far (gEarly10 _ _ _ (c_snoc p10 (leN g13 (.lit 20000) c10)))
  replace c10 : tk ≤ 20000 := by omega
  have p11 : ∀ f ∈ eC.take 11, OkC (DG V L Mv D0 D1 w00 w01 w10 w11 lo hi tk nd nw (.slice sa nd cd) (.slice sb nw cw)) f := c_more p10 rfl (leY g13 (.lit 20000) c10)
  by_cases c11 : ¬ (0 ≤ D0)
  · exact gone_near (ha (by omega)) (hb (by omega)) (by omega) (by omega) (hwd (by omega)) (hww (by omega)) (gEarly11 _ _ _ (c_snoc p11 (leN (.lit 0) g5 c11)))
  replace c11 : 0 ≤ D0 := by omega
  have p12 : ∀ f ∈ eC.take 12, OkC (DG V L Mv D0 D1 w00 w01 w10 w11 lo hi tk nd nw (.slice sa nd cd) (.slice sb nw cw)) f := c_more p11 rfl (leY (.lit 0) g5 c11)
  by_cases c12 : ¬ (D0 ≤ 8)
  · exact gone_near (ha (by omega)) (hb (by omega)) (by omega) (by omega) (hwd (by omega)) (hww (by omega)) (gEarly12 _ _ _ (c_snoc p12 (leN g5 (.lit 8) c12)))
  replace c12 : D0 ≤ 8 := by omega
  have p13 : ∀ f ∈ eC.take 13, OkC (DG V L Mv D0 D1 w00 w01 w10 w11 lo hi tk nd nw (.slice sa nd cd) (.slice sb nw cw)) f := c_more p12 rfl (leY g5 (.lit 8) c12)
  by_cases c13 : ¬ (0 ≤ w00)
  · exact gone_near (ha (by omega)) (hb (by omega)) (by omega) (by omega) (hwd (by omega)) (hww (by omega)) (gEarly13 _ _ _ (c_snoc p13 (leN (.lit 0) g7 c13)))
  replace c13 : 0 ≤ w00 := by omega
  have p14 : ∀ f ∈ eC.take 14, OkC (DG V L Mv D0 D1 w00 w01 w10 w11 lo hi tk nd nw (.slice sa nd cd) (.slice sb nw cw)) f := c_more p13 rfl (leY (.lit 0) g7 c13)
  by_cases c14 : ¬ (w00 ≤ 100)
  · exact gone_near (ha (by omega)) (hb (by omega)) (by omega) (by omega) (hwd (by omega)) (hww (by omega)) (gEarly14 _ _ _ (c_snoc p14 (leN g7 (.lit 100) c14)))
  replace c14 : w00 ≤ 100 := by omega
  have p15 : ∀ f ∈ eC.take 15, OkC (DG V L Mv D0 D1 w00 w01 w10 w11 lo hi tk nd nw (.slice sa nd cd) (.slice sb nw cw)) f := c_more p14 rfl (leY g7 (.lit 100) c14)
  by_cases c15 : ¬ (0 ≤ w01)
  · exact gone_near (ha (by omega)) (hb (by omega)) (by omega) (by omega) (hwd (by omega)) (hww (by omega)) (gEarly15 _ _ _ (c_snoc p15 (leN (.lit 0) g8 c15)))
  replace c15 : 0 ≤ w01 := by omega
  have p16 : ∀ f ∈ eC.take 16, OkC (DG V L Mv D0 D1 w00 w01 w10 w11 lo hi tk nd nw (.slice sa nd cd) (.slice sb nw cw)) f := c_more p15 rfl (leY (.lit 0) g8 c15)
  by_cases c16 : ¬ (w01 ≤ 100)
  · exact gone_near (ha (by omega)) (hb (by omega)) (by omega) (by omega) (hwd (by omega)) (hww (by omega)) (gEarly16 _ _ _ (c_snoc p16 (leN g8 (.lit 100) c16)))
  replace c16 : w01 ≤ 100 := by omega
  have p17 : ∀ f ∈ eC.take 17, OkC (DG V L Mv D0 D1 w00 w01 w10 w11 lo hi tk nd nw (.slice sa nd cd) (.slice sb nw cw)) f := c_more p16 rfl (leY g8 (.lit 100) c16)
  by_cases c17 : ¬ (¬ V - L * D0 < 100)
  · exact gone_near (ha (by omega)) (hb (by omega)) (by omega) (by omega) (hwd (by omega)) (hww (by omega)) (gEarly17 _ _ _ (c_snoc p17 (ltY (dN0 (by omega) (by omega) c11 c12 c0 c1 c9 c10) (.lit 100) (by omega))))
  replace c17 : ¬ V - L * D0 < 100 := by omega
  have p18 : ∀ f ∈ eC.take 18, OkC (DG V L Mv D0 D1 w00 w01 w10 w11 lo hi tk nd nw (.slice sa nd cd) (.slice sb nw cw)) f := c_more p17 rfl (ltN (dN0 (by omega) (by omega) c11 c12 c0 c1 c9 c10) (.lit 100) c17)
  by_cases c18 : ¬ (0 ≤ D1)
  · exact gone_near (ha (by omega)) (hb (by omega)) (by omega) (by omega) (hwd (by omega)) (hww (by omega)) (gEarly18 _ _ _ (c_snoc p18 (leN (.lit 0) g6 c18)))
  replace c18 : 0 ≤ D1 := by omega
  have p19 : ∀ f ∈ eC.take 19, OkC (DG V L Mv D0 D1 w00 w01 w10 w11 lo hi tk nd nw (.slice sa nd cd) (.slice sb nw cw)) f := c_more p18 rfl (leY (.lit 0) g6 c18)
  by_cases c19 : ¬ (D1 ≤ 8)
  · exact gone_near (ha (by omega)) (hb (by omega)) (by omega) (by omega) (hwd (by omega)) (hww (by omega)) (gEarly19 _ _ _ (c_snoc p19 (leN g6 (.lit 8) c19)))
  replace c19 : D1 ≤ 8 := by omega
  have p20 : ∀ f ∈ eC.take 20, OkC (DG V L Mv D0 D1 w00 w01 w10 w11 lo hi tk nd nw (.slice sa nd cd) (.slice sb nw cw)) f := c_more p19 rfl (leY g6 (.lit 8) c19)
  by_cases c20 : ¬ (¬ D1 < D0)
  · exact gone_near (ha (by omega)) (hb (by omega)) (by omega) (by omega) (hwd (by omega)) (hww (by omega)) (gEarly20 _ _ _ (c_snoc p20 (ltY g6 g5 (by omega))))
  replace c20 : ¬ D1 < D0 := by omega
  have p21 : ∀ f ∈ eC.take 21, OkC (DG V L Mv D0 D1 w00 w01 w10 w11 lo hi tk nd nw (.slice sa nd cd) (.slice sb nw cw)) f := c_more p20 rfl (ltN g6 g5 c20)
  by_cases c21 : ¬ (0 ≤ w10)
  · exact gone_near (ha (by omega)) (hb (by omega)) (by omega) (by omega) (hwd (by omega)) (hww (by omega)) (gEarly21 _ _ _ (c_snoc p21 (leN (.lit 0) g9 c21)))
  replace c21 : 0 ≤ w10 := by omega
  have p22 : ∀ f ∈ eC.take 22, OkC (DG V L Mv D0 D1 w00 w01 w10 w11 lo hi tk nd nw (.slice sa nd cd) (.slice sb nw cw)) f := c_more p21 rfl (leY (.lit 0) g9 c21)
  by_cases c22 : ¬ (w10 ≤ 100)
  · exact gone_near (ha (by omega)) (hb (by omega)) (by omega) (by omega) (hwd (by omega)) (hww (by omega)) (gEarly22 _ _ _ (c_snoc p22 (leN g9 (.lit 100) c22)))
  replace c22 : w10 ≤ 100 := by omega
  have p23 : ∀ f ∈ eC.take 23, OkC (DG V L Mv D0 D1 w00 w01 w10 w11 lo hi tk nd nw (.slice sa nd cd) (.slice sb nw cw)) f := c_more p22 rfl (leY g9 (.lit 100) c22)
  by_cases c23 : ¬ (0 ≤ w11)
  · exact gone_near (ha (by omega)) (hb (by omega)) (by omega) (by omega) (hwd (by omega)) (hww (by omega)) (gEarly23 _ _ _ (c_snoc p23 (leN (.lit 0) g10 c23)))
  replace c23 : 0 ≤ w11 := by omega
  have p24 : ∀ f ∈ eC.take 24, OkC (DG V L Mv D0 D1 w00 w01 w10 w11 lo hi tk nd nw (.slice sa nd cd) (.slice sb nw cw)) f := c_more p23 rfl (leY (.lit 0) g10 c23)
  by_cases c24 : ¬ (w11 ≤ 100)
  · exact gone_near (ha (by omega)) (hb (by omega)) (by omega) (by omega) (hwd (by omega)) (hww (by omega)) (gEarly24 _ _ _ (c_snoc p24 (leN g10 (.lit 100) c24)))
  replace c24 : w11 ≤ 100 := by omega
  have p25 : ∀ f ∈ eC.take 25, OkC (DG V L Mv D0 D1 w00 w01 w10 w11 lo hi tk nd nw (.slice sa nd cd) (.slice sb nw cw)) f := c_more p24 rfl (leY g10 (.lit 100) c24)
  by_cases c25 : ¬ (¬ V - L * D1 - tk < 100)
  · exact gone_near (ha (by omega)) (hb (by omega)) (by omega) (by omega) (hwd (by omega)) (hww (by omega)) (gEarly25 _ _ _ (c_snoc p25 (ltY (dN1 (by omega) (by omega) c18 c19 c0 c1 c9 c10) (.lit 100) (by omega))))
  replace c25 : ¬ V - L * D1 - tk < 100 := by omega
  have p26 : ∀ f ∈ eC.take 26, OkC (DG V L Mv D0 D1 w00 w01 w10 w11 lo hi tk nd nw (.slice sa nd cd) (.slice sb nw cw)) f := c_more p25 rfl (ltN (dN1 (by omega) (by omega) c18 c19 c0 c1 c9 c10) (.lit 100) c25)
  have hG : Good V L Mv D0 D1 w00 w01 w10 w11 lo hi tk := ⟨c0, c1, c2, c3, c4, c5, c9, c10, c11, c12, c13, c14, c15, c16, by omega, c18, c19, by omega, c21, c22, c23, c24, by omega⟩
  obtain ⟨c, hok⟩ := okAll hG p26
  cases c with
  | true => exact gone_near (ha (by omega)) (hb (by omega)) (by omega) (by omega) (hwd (by omega)) (hww (by omega)) (gRun_true _ _ _ hok)
  | false => exact gone_near (ha (by omega)) (hb (by omega)) (by omega) (by omega) (hwd (by omega)) (hww (by omega)) (gRun_false _ _ _ hok)
end Sy
end Go.Proofs.Ytnonbkepnfpboaa
