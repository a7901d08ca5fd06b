/- Systems of chapter 6: divisions, numbers, facts. -/
import Derived.Test.YtdejmleboflopaaGreatPB
import Derived.WalkKit
import Derived.Handy
set_option linter.unusedVariables false
set_option linter.unusedSimpArgs false
namespace Go.Proofs.YtdejmleboflopaaGreat
open Go.RowKit
namespace Sy
open Go.RowKit

theorem flZ_any (n d : Int) (w : World) (hd : 0 < d) : Calls Tryz.prog 91 #[.int .i64 n, .int .i64 d] w fun e w' => e = .returned (.int .i64 (flZ n d)) ∧ w = w' := by
  have hb0 : d ≠ 0 := by omega
  have hb1 : (d == 0) = false := by simpa using hb0
  by_cases h : n.tmod d < 0
  · go_enter Tryz.func91, Tryz.ntmps91
    go_wp2
    go_ret
    refine ⟨?_, rfl⟩
    rw [flZ, if_pos h]
    rfl
  · go_enter Tryz.func91, Tryz.ntmps91
    go_wp2
    go_ret
    refine ⟨?_, rfl⟩
    rw [flZ, if_neg (by omega)]
    rfl
theorem ceZ_any (n d : Int) (w : World) (hd : 0 < d) : Calls Tryz.prog 92 #[.int .i64 n, .int .i64 d] w fun e w' => e = .returned (.int .i64 (ceZ n d)) ∧ w = w' := by
  obtain ⟨m, hm⟩ : ∃ m, IntKind.i64.wrap (-n) = m := ⟨_, rfl⟩
  go_enter Tryz.func92, Tryz.ntmps92
  go_wp2_with (go_at_call 91; refine Calls.mono (flZ_any _ _ _ hd) ?_; rintro e w2 ⟨rfl, rfl⟩)
  go_ret
  refine ⟨?_, rfl⟩
  rw [ceZ, hm]
  rfl
theorem still_callP {P : Program} {f : FuncId} {args : Array Value} {w : World} {v : Value} (h : Calls P f args w fun e w' => e = .returned v ∧ w = w') : Calls P f args w fun e w' => e = .returned v ∧ Below w.heap.size w w' :=
  Calls.mono h fun e w' h => ⟨h.1, by rw [← h.2]; exact Below.refl _ _⟩
theorem app2P {D : Dn} {t : Nat} (ht : 100 ≤ t) {a b : Value} {x y : Int} (ha : Dv D a x) (hb : Dv D b y) : Dv D (b1 t a b) (D.int t [x, y]) := .app ht rfl (fun i v z hv hz => by
  match i with
  | 0 => simp at hv hz; subst hv hz; exact ha
  | 1 => simp at hv hz; subst hv hz; exact hb
  | i + 2 => simp at hv)
theorem ok_spDivs {P : Pg} (hp : P.prog = Tryz.prog) {f code : Nat} (hc : 100 ≤ code) {ds : List Value} {g : Int → Int → Int} (hg : ∀ x y, P.den.int code [x, y] = g x y) (hds : ∀ d ∈ ds, ∃ z, Dv P.den d z ∧ 0 < z)
    (key : ∀ (n d : Int) (w : World), 0 < d → Calls Tryz.prog f #[.int .i64 n, .int .i64 d] w fun e w' => e = .returned (.int .i64 (g n d)) ∧ Below w.heap.size w w') : CallOk P (spDivs f code ds) := fun t args hp0 nid v hp' nid' h => by
  cases t with
  | yield l => cases h
  | fn g' =>
    obtain ⟨hg0, h1⟩ := ck_some h
    clear h
    simp only [Bool.and_eq_true] at hg0
    have hgg := Nat.eq_of_beq_eq_true hg0.1
    subst hgg
    obtain ⟨a, ha, h2⟩ := ob_some h1
    clear h1
    obtain ⟨b, hb, h3⟩ := ob_some h2
    clear h2
    obtain ⟨hk, h4⟩ := ck_some h3
    clear h3
    cases h4
    simp only [Bool.and_eq_true] at hk
    obtain ⟨d, hd, he⟩ := List.any_eq_true.1 hk.2
    have := eqT_eq _ _ _ he
    subst this
    obtain ⟨z, dz, hz⟩ := hds _ hd
    refine ⟨Nat.le_refl _, fun B M args' w hargs hh hB hf => ?_⟩
    obtain ⟨a0, q0, r0⟩ := hargs.get ha
    obtain ⟨a1, q1, r1⟩ := hargs.get hb
    have hlen2 : args'.toList.length = 2 := by rw [← hargs.1]; exact Nat.eq_of_beq_eq_true hg0.2
    have e2 : args' = #[a0, a1] := by
      apply Array.ext'
      match he : args'.toList, hlen2 with
      | [z0, z1], _ => rw [he] at q0 q1; simp at q0 q1; rw [q0, q1]
    subst e2
    obtain ⟨x, rfl, dx⟩ := vrel_num r0 hk.1
    obtain ⟨y, rfl, dy⟩ := vrel_num r1 dz.num
    have := dz.unique _ dy
    subst this
    show Calls P.prog _ _ _ _
    rw [hp]
    refine Calls.mono (key x z w hz) ?_
    rintro e w' ⟨rfl, hbl⟩
    obtain ⟨k1, k2⟩ := below_post nid hh hbl
    refine ⟨M, _, rfl, ?_, k1, k2⟩
    rw [← hg]
    exact .sym (app2P hc dx dz) (.inr hc)

/-! Facts. -/
abbrev OkF (D : Dn) (f : Fact) : Prop := ∃ x y, Dv D f.2.1 x ∧ Dv D f.2.2.1 y ∧ cmpN f.1 x y = f.2.2.2
theorem ok_app {D : Dn} {F G : List Fact} (h : ∀ f ∈ F, OkF D f) (k : ∀ f ∈ G, OkF D f) : ∀ f ∈ F ++ G, OkF D f := fun f hf => by
  rcases List.mem_append.1 hf with h1 | h1
  · exact h f h1
  · exact k f h1
theorem ok_one {D : Dn} {g : Fact} (h : OkF D g) : ∀ f ∈ [g], OkF D f := fun f hf => by simp at hf; subst hf; exact h
theorem ok_map {D : Dn} {N : Nat} {g : Nat → Fact} (h : ∀ i, i < N → OkF D (g i)) : ∀ f ∈ (List.range N).map g, OkF D f := fun f hf => by
  obtain ⟨i, hi, rfl⟩ := List.mem_map.1 hf
  exact h i (List.mem_range.1 hi)
theorem le_yes {D : Dn} {a b : Value} {x y : Int} (ha : Dv D a x) (hb : Dv D b y) (h : x ≤ y) : OkF D (2, a, b, true) := ⟨x, y, ha, hb, decide_eq_true h⟩
theorem le_no {D : Dn} {a b : Value} {x y : Int} (ha : Dv D a x) (hb : Dv D b y) (h : ¬ x ≤ y) : OkF D (2, a, b, false) := ⟨x, y, ha, hb, decide_eq_false h⟩
theorem lt_yes {D : Dn} {a b : Value} {x y : Int} (ha : Dv D a x) (hb : Dv D b y) (h : x < y) : OkF D (1, a, b, true) := ⟨x, y, ha, hb, decide_eq_true h⟩
theorem lt_no {D : Dn} {a b : Value} {x y : Int} (ha : Dv D a x) (hb : Dv D b y) (h : ¬ x < y) : OkF D (1, a, b, false) := ⟨x, y, ha, hb, decide_eq_false h⟩
theorem eq_yes {D : Dn} {a b : Value} {x y : Int} (ha : Dv D a x) (hb : Dv D b y) (h : x = y) : OkF D (0, a, b, true) := ⟨x, y, ha, hb, decide_eq_true h⟩
theorem eq_no {D : Dn} {a b : Value} {x y : Int} (ha : Dv D a x) (hb : Dv D b y) (h : ¬ x = y) : OkF D (0, a, b, false) := ⟨x, y, ha, hb, decide_eq_false h⟩
theorem lt_is {D : Dn} {a b : Value} {x y : Int} (ha : Dv D a x) (hb : Dv D b y) {c : Bool} (h : decide (x < y) = c) : OkF D (1, a, b, c) := ⟨x, y, ha, hb, h⟩

/-! The numbers: New; Volume, Loss, Least of each scale; the ages at first; the draw and what else is told. -/
def holeS (nw : Int) (sc bg : Nat → Int) (ot : Nat → Int) (n : Nat) : Value :=
  .int .i64 (if n = 0 then nw else if n < 17 then sc (n - 1) else if n < 25 then bg (n - 17) else ot n)
abbrev DSy (nw : Int) (sc bg ot : Nat → Int) : Dn := DP (holeS nw sc bg ot)
section
variable {nw : Int} {sc bg ot : Nat → Int}
theorem dNew : Dv (DSy nw sc bg ot) hNew nw := .hole rfl
theorem dSc {i j : Nat} (hi : i < 4) (hj : j < 4) : Dv (DSy nw sc bg ot) (hSc i j) (sc (4 * i + j)) := by
  refine .hole ?_
  show Value.int .i64 (if 1 + 4 * i + j = 0 then nw else if 1 + 4 * i + j < 17 then sc (1 + 4 * i + j - 1) else if 1 + 4 * i + j < 25 then bg (1 + 4 * i + j - 17) else ot (1 + 4 * i + j)) = _
  rw [if_neg (by omega), if_pos (by omega), show 1 + 4 * i + j - 1 = 4 * i + j by omega]
theorem dBg {i j : Nat} (hi : i < 4) (hj : j < 2) : Dv (DSy nw sc bg ot) (hBg i j) (bg (2 * i + j)) := by
  refine .hole ?_
  show Value.int .i64 (if 17 + 2 * i + j = 0 then nw else if 17 + 2 * i + j < 17 then sc (17 + 2 * i + j - 1) else if 17 + 2 * i + j < 25 then bg (17 + 2 * i + j - 17) else ot (17 + 2 * i + j)) = _
  rw [if_neg (by omega), if_neg (by omega), if_pos (by omega), show 17 + 2 * i + j - 17 = 2 * i + j by omega]
theorem dOt {n : Nat} (hn : 25 ≤ n) : Dv (DSy nw sc bg ot) (hP n) (ot n) := by
  refine .hole ?_
  show Value.int .i64 (if n = 0 then nw else if n < 17 then sc (n - 1) else if n < 25 then bg (n - 17) else ot n) = _
  rw [if_neg (by omega), if_neg (by omega), if_neg (by omega)]
/-- a right system with right ages -/
structure SysOk (nw : Int) (sc bg : Nat → Int) (N : Nat) : Prop where
  n1 : 1 ≤ N
  n4 : N ≤ 4
  w0 : 0 ≤ nw
  w1 : nw ≤ 100000
  v0 : ∀ i, i < N → 1 ≤ sc (4 * i + 0)
  v1 : ∀ i, i < N → sc (4 * i + 0) ≤ 20000
  l0 : ∀ i, i < N → 0 ≤ sc (4 * i + 1)
  l1 : ∀ i, i < N → sc (4 * i + 1) ≤ sc (4 * i + 0)
  h0 : ∀ i, i < N → 0 ≤ sc (4 * i + 2)
  h1 : ∀ i, i < N → sc (4 * i + 2) ≤ sc (4 * i + 0)
  lh : ∀ i, i < N → sc (4 * i + 1) ≤ sc (4 * i + 2)
  s0 : ∀ i, i < N → 0 ≤ sc (4 * i + 3)
  s1 : ∀ i, i < N → sc (4 * i + 3) ≤ 100000
  b0 : ∀ i, i < N → 0 ≤ bg (2 * i + 0)
  b1 : ∀ i, i < N → bg (2 * i + 0) ≤ 100000
  c0 : ∀ i, i < N → 0 ≤ bg (2 * i + 1)
  c1 : ∀ i, i < N → bg (2 * i + 1) ≤ 100000
  bc : ∀ i, i < N → bg (2 * i + 0) ≤ bg (2 * i + 1)
theorem okSys {N : Nat} (h : SysOk nw sc bg N) : ∀ f ∈ sysF N, OkF (DSy nw sc bg ot) f := by
  have n4 := h.n4
  refine ok_app (ok_app ?_ ?_) ?_
  · intro f hf
    simp only [List.mem_cons, List.not_mem_nil, or_false] at hf
    rcases hf with rfl | rfl
    · exact le_yes (.lit 0) dNew h.w0
    · exact le_yes dNew (.lit 100000) h.w1
  · intro f hf
    obtain ⟨i, hi, hf⟩ := List.mem_flatMap.1 hf
    have hi := List.mem_range.1 hi
    have i4 : i < 4 := by omega
    simp only [scaleF, List.mem_cons, List.not_mem_nil, or_false] at hf
    rcases hf with rfl | rfl | rfl | rfl | rfl | rfl | rfl | rfl | rfl | rfl
    · exact le_yes (.lit 1) (dSc i4 (by decide)) (h.v0 i hi)
    · exact le_yes (dSc i4 (by decide)) (.lit 20000) (h.v1 i hi)
    · exact le_yes (.lit 0) (dSc i4 (by decide)) (h.l0 i hi)
    · exact le_yes (dSc i4 (by decide)) (dSc i4 (by decide)) (h.l1 i hi)
    · exact le_yes (.lit 0) (dSc i4 (by decide)) (h.h0 i hi)
    · exact le_yes (dSc i4 (by decide)) (dSc i4 (by decide)) (h.h1 i hi)
    · exact le_yes (dSc i4 (by decide)) (dSc i4 (by decide)) (h.lh i hi)
    · exact lt_no (dSc i4 (by decide)) (dSc i4 (by decide)) (Int.not_lt.2 (h.lh i hi))
    · exact le_yes (.lit 0) (dSc i4 (by decide)) (h.s0 i hi)
    · exact le_yes (dSc i4 (by decide)) (.lit 100000) (h.s1 i hi)
  · intro f hf
    obtain ⟨i, hi, hf⟩ := List.mem_flatMap.1 hf
    have hi := List.mem_range.1 hi
    have i4 : i < 4 := by omega
    simp only [begF, List.mem_cons, List.not_mem_nil, or_false] at hf
    rcases hf with rfl | rfl | rfl | rfl | rfl | rfl
    · exact le_yes (.lit 0) (dBg i4 (by decide)) (h.b0 i hi)
    · exact le_yes (dBg i4 (by decide)) (.lit 100000) (h.b1 i hi)
    · exact le_yes (.lit 0) (dBg i4 (by decide)) (h.c0 i hi)
    · exact le_yes (dBg i4 (by decide)) (.lit 100000) (h.c1 i hi)
    · exact le_yes (dBg i4 (by decide)) (dBg i4 (by decide)) (h.bc i hi)
    · exact lt_no (dBg i4 (by decide)) (dBg i4 (by decide)) (Int.not_lt.2 (h.bc i hi))

/-! What terms stand for. -/
def flN (sc : Nat → Int) (x : Int) (j : Nat) : Nat → Int
  | 0 => binN 1 x (sc (4 * 0 + j))
  | i + 1 => binN 1 (flN sc x j i) (sc (4 * (i + 1) + j))
theorem dFl {x : Value} {d : Int} (hx : Dv (DSy nw sc bg ot) x d) {j : Nat} (hj : j < 4) : ∀ i, i < 4 → Dv (DSy nw sc bg ot) (flT x j i) (flN sc d j i)
  | 0, h => .bin (t := 1) (by decide) hx (dSc h hj)
  | i + 1, h => .bin (t := 1) (by decide) (dFl hx hj i (by omega)) (dSc h hj)
def nxN (nw : Int) (bg : Nat → Int) (N i j : Nat) : Int := if i + 1 < N then bg (2 * (i + 1) + j) else nw
theorem dNx {N i j : Nat} (hN : N ≤ 4) (hi : i < N) (hj : j < 2) : Dv (DSy nw sc bg ot) (nxT N i j) (nxN nw bg N i j) := by
  unfold nxT nxN
  split
  · exact dBg (by omega) hj
  · exact dNew
def smN (sc : Nat → Int) (i : Nat) (f own next : Int) : Int := binN 1 (binN 3 (binN 2 (sc (4 * i + 0)) f) own) (binN 3 f next)
theorem dSm {i : Nat} (hi : i < 4) {f own next : Value} {x y z : Int} (hf : Dv (DSy nw sc bg ot) f x) (ho : Dv (DSy nw sc bg ot) own y) (hn : Dv (DSy nw sc bg ot) next z) : Dv (DSy nw sc bg ot) (smT i f own next) (smN sc i x y z) :=
  .bin (t := 1) (by decide) (.bin (t := 3) (by decide) (.bin (t := 2) (by decide) (dSc hi (by decide)) hf) ho) (.bin (t := 3) (by decide) hf hn)
/-- the least age of a scale behind a year with this draw -/
def agN (nw : Int) (sc bg : Nat → Int) (N : Nat) (d : Int) (i : Nat) : Int :=
  binN 1 (flZ (binN 4 (smN sc i (flN sc d 1 i) (bg (2 * i + 0)) (nxN nw bg N i 0)) (smN sc i (flN sc d 2 i) (bg (2 * i + 0)) (nxN nw bg N i 0))) (sc (4 * i + 0))) 1000
theorem dAg {N : Nat} (hN : N ≤ 4) {x : Value} {d : Int} (hx : Dv (DSy nw sc bg ot) x d) {i : Nat} (hi : i < N) : Dv (DSy nw sc bg ot) (agT N x i) (agN nw sc bg N d i) :=
  .bin (t := 1) (by decide) (app2P (t := 110) (by decide) (.bin (t := 4) (by decide) (dSm (by omega) (dFl hx (by decide) i (by omega)) (dBg (by omega) (by decide)) (dNx hN hi (by decide))) (dSm (by omega) (dFl hx (by decide) i (by omega)) (dBg (by omega) (by decide)) (dNx hN hi (by decide)))) (dSc (by omega) (by decide))) (.lit 1000)
/-- is a flow too great, is a scale short? -/
def fullB (sc : Nat → Int) (d : Int) (i : Nat) : Bool := decide (sc (4 * i + 0) < flN sc d 2 i)
def shortB (nw : Int) (sc bg : Nat → Int) (N : Nat) (d : Int) (i : Nat) : Bool := decide (agN nw sc bg N d i < sc (4 * i + 3))
theorem okFull {x : Value} {d : Int} (hx : Dv (DSy nw sc bg ot) x d) {i : Nat} (hi : i < 4) {c : Bool} (h : fullB sc d i = c) : OkF (DSy nw sc bg ot) (fullF x i c) := lt_is (dSc hi (by decide)) (dFl hx (by decide) i hi) h
theorem okShort {N : Nat} (hN : N ≤ 4) {x : Value} {d : Int} (hx : Dv (DSy nw sc bg ot) x d) {i : Nat} (hi : i < N) {c : Bool} (h : shortB nw sc bg N d i = c) : OkF (DSy nw sc bg ot) (shortF N x i c) := lt_is (dAg hN hx hi) (dSc (by omega) (by decide)) h
/-- the first of so many -/
theorem first_of (p : Nat → Bool) : ∀ N, (∀ i, i < N → p i = false) ∨ ∃ i, i < N ∧ p i = true ∧ ∀ j, j < i → p j = false
  | 0 => .inl fun i hi => absurd hi (Nat.not_lt_zero _)
  | N + 1 => by
    rcases first_of p N with h | ⟨i, h1, h2, h3⟩
    · cases e : p N with
      | true => exact .inr ⟨N, Nat.lt_succ_self _, e, h⟩
      | false =>
        refine .inl fun i hi => ?_
        by_cases e' : i = N
        · subst e'; exact e
        · exact h i (by omega)
    · exact .inr ⟨i, by omega, h2, h3⟩
def fullAt (x : Value) (i : Nat) : List Fact := (List.range i).map (fun k => fullF x k false) ++ [fullF x i true]
def shortAt (N : Nat) (x : Value) (i : Nat) : List Fact := (List.range N).map (fun k => fullF x k false) ++ ((List.range i).map (fun k => shortF N x k false) ++ [shortF N x i true])
/-- a draw is right, or a flow is too great, or a scale is short -/
theorem ways (nw : Int) (sc bg : Nat → Int) (N : Nat) (d : Int) : ((∀ i, i < N → fullB sc d i = false) ∧ ∀ i, i < N → shortB nw sc bg N d i = false) ∨
    (∃ i, i < N ∧ fullB sc d i = true ∧ ∀ j, j < i → fullB sc d j = false) ∨ (∃ i, i < N ∧ (∀ j, j < N → fullB sc d j = false) ∧ shortB nw sc bg N d i = true ∧ ∀ j, j < i → shortB nw sc bg N d j = false) := by
  rcases first_of (fullB sc d) N with h | ⟨i, h1, h2, h3⟩
  · rcases first_of (shortB nw sc bg N d) N with k | ⟨i, k1, k2, k3⟩
    · exact .inl ⟨h, k⟩
    · exact .inr (.inr ⟨i, k1, h, k2, k3⟩)
  · exact .inr (.inl ⟨i, h1, h2, h3⟩)
theorem okGood {N : Nat} (hN : N ≤ 4) {x : Value} {d : Int} (hx : Dv (DSy nw sc bg ot) x d) (h : ∀ i, i < N → fullB sc d i = false) (k : ∀ i, i < N → shortB nw sc bg N d i = false) : ∀ f ∈ goodF N x, OkF (DSy nw sc bg ot) f :=
  ok_app (ok_map fun i hi => okFull hx (by omega) (h i hi)) (ok_map fun i hi => okShort hN hx hi (k i hi))
theorem okFullAt {N : Nat} (hN : N ≤ 4) {x : Value} {d : Int} (hx : Dv (DSy nw sc bg ot) x d) {i : Nat} (hi : i < N) (h : fullB sc d i = true) (k : ∀ j, j < i → fullB sc d j = false) : ∀ f ∈ fullAt x i, OkF (DSy nw sc bg ot) f :=
  ok_app (ok_map fun j hj => okFull hx (by omega) (k j hj)) (ok_one (okFull hx (by omega) h))
theorem okShortAt {N : Nat} (hN : N ≤ 4) {x : Value} {d : Int} (hx : Dv (DSy nw sc bg ot) x d) {i : Nat} (hi : i < N) (g : ∀ j, j < N → fullB sc d j = false) (h : shortB nw sc bg N d i = true) (k : ∀ j, j < i → shortB nw sc bg N d j = false) : ∀ f ∈ shortAt N x i, OkF (DSy nw sc bg ot) f :=
  ok_app (ok_map fun j hj => okFull hx (by omega) (g j hj)) (ok_app (ok_map fun j hj => okShort hN hx (by omega) (k j hj)) (ok_one (okShort hN hx hi h)))
end
noncomputable def pgS (hole : Nat → Value) (l : List Fact) (ok : ∀ f ∈ l, ∃ x y, Dv (DP hole) f.2.1 x ∧ Dv (DP hole) f.2.2.1 y ∧ cmpN f.1 x y = f.2.2.2) : Pg := { prog := Tryz.prog, den := DP hole, facts := l, ok := ok }
theorem ok_spP {nw : Int} {sc bg ot : Nat → Int} {hole : Nat → Value} {N : Nat} (h : SysOk nw sc bg N) (hh : ∀ n, n < 25 → hole n = holeS nw sc bg ot n) {l ok} : CallOk (pgS hole l ok) (spP N) := by
  have hv : ∀ d ∈ volsP N, ∃ z, Dv (DP hole) d z ∧ 0 < z := fun d hd => by
    obtain ⟨i, hi, rfl⟩ := List.mem_map.1 hd
    have hi := List.mem_range.1 hi
    have n4 := h.n4
    refine ⟨sc (4 * i + 0), .hole ?_, by have := h.v0 i hi; omega⟩
    show hole _ = _
    rw [hh _ (by omega)]
    have d : Dv (DSy nw sc bg ot) (hSc i 0) (sc (4 * i + 0)) := dSc (by omega) (by decide)
    cases d with
    | hole e => exact e
  exact ok_spOr (ok_spDivs (g := flZ) rfl (by decide) (fun _ _ => rfl) hv (fun n d w hd => still_callP (flZ_any n d w hd))) (ok_spDivs (g := ceZ) rfl (by decide) (fun _ _ => rfl) hv (fun n d w hd => still_callP (ceZ_any n d w hd)))
end Sy
end Go.Proofs.YtdejmleboflopaaGreat
