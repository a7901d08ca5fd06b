/- Years: what symbols and blocks stand for; arguments that were told by patterns. -/
import Derived.Test.YtdejmleboflopaaGreatSY23
import Derived.Test.YtdejmleboflopaaGreatPT
import Derived.Test.YtdejmleboflopaaGreatPK
import Derived.Test.YtdejmleboflopaaGreatPS
set_option linter.unusedVariables false
set_option linter.unusedSimpArgs false
namespace Go.Proofs.YtdejmleboflopaaGreat
open Go.RowKit
namespace Sy
open Go.RowKit

/-- cells from an offset on -/
def atC (ob : Obj) (r len : Nat) (g : Nat → Int) : Prop := ∃ c e fr, ob = .cells c e fr ∧ ∀ j, j < len → c[r + j]? = some (.int .i64 (g j))
theorem winP_at {b r len : Nat} {g : Nat → Int} {w : World} : WinP b r len g w ↔ ∃ ob, w.heap[b]? = some ob ∧ atC ob r len g :=
  ⟨fun ⟨c, e, fr, h1, h2⟩ => ⟨.cells c e fr, h1, c, e, fr, rfl, h2⟩, fun ⟨ob, h1, c, e, fr, h3, h2⟩ => ⟨c, e, fr, by rw [h1, h3], h2⟩⟩
theorem atC.congr {ob : Obj} {r len : Nat} {g g' : Nat → Int} (h : atC ob r len g) (e : ∀ j, j < len → g j = g' j) : atC ob r len g' := by
  obtain ⟨c, t, fr, h1, h2⟩ := h
  exact ⟨c, t, fr, h1, fun j hj => by rw [h2 j hj, e j hj]⟩
theorem winP_congr {b r len : Nat} {g g' : Nat → Int} {w : World} (h : WinP b r len g w) (e : ∀ j, j < len → g j = g' j) : WinP b r len g' w := by
  obtain ⟨c, t, fr, h1, h2⟩ := h
  exact ⟨c, t, fr, h1, fun j hj => by rw [h2 j hj, e j hj]⟩
theorem winP_less {b r len l : Nat} {g : Nat → Int} {w : World} (h : WinP b r len g w) (hl : l ≤ len) : WinP b r l g w := by
  obtain ⟨c, t, fr, h1, h2⟩ := h
  exact ⟨c, t, fr, h1, fun j hj => h2 j (by omega)⟩
/-- a window of numbers -/
theorem win_at {P : Pg} {row : List Value} {r : Nat} {ob : Obj} {g : Nat → Int} (h : ∀ M, ORel P M r (.win row) ob) (hd : ∀ (i : Nat) (v : Value), row[i]? = some v → Dv P.den v (g i)) : atC ob r row.length g := by
  obtain ⟨c', e, fr, rfl, hl, _⟩ := h (fun _ => none)
  refine ⟨c', e, fr, rfl, fun j hj => ?_⟩
  have e2 : row[j]? = some row[j] := List.getElem?_eq_getElem hj
  obtain ⟨x, hx, hr⟩ := hl.get e2
  have dd := hd j _ e2
  obtain ⟨y, rfl, dy⟩ := vrel_num hr dd.num
  rw [dd.unique _ dy]
  rw [List.getElem?_take, if_pos hj, List.getElem?_drop, Array.getElem?_toList] at hx
  exact hx
theorem at_win {P : Pg} {row : List Value} {r : Nat} {ob : Obj} {g : Nat → Int} (hpin : ∀ ob, P.den.pin ob) (h : atC ob r row.length g) (hd : ∀ (i : Nat) (v : Value), row[i]? = some v → Dv P.den v (g i)) (M : Mp) : ORel P M r (.win row) ob := by
  obtain ⟨c', e, fr, rfl, h2⟩ := h
  refine ⟨c', e, fr, rfl, ?_, hpin _⟩
  have hlen : ((c'.toList.drop r).take row.length).length = row.length := by
    rw [List.length_take, List.length_drop]
    by_cases hz : row.length = 0
    · omega
    · have := h2 (row.length - 1) (by omega)
      have := (Array.getElem?_eq_some_iff.1 this).1
      simp; omega
  refine ⟨hlen.symm, fun i v v' hv hv' => ?_⟩
  have hi : i < row.length := (List.getElem?_eq_some_iff.1 hv).1
  rw [List.getElem?_take, if_pos hi, List.getElem?_drop, Array.getElem?_toList, h2 i hi] at hv'
  cases hv'
  exact (hd i v hv).vrel
theorem opq_lo {P : Pg} {k r : Nat} {ob : Obj} (hk : k < 200) : (∀ M, ORel P M r (.opq k []) ob) ↔ r = 0 ∧ P.den.obj k [] ob := by
  constructor
  · intro h
    obtain ⟨h0, xs, h1, _, h3⟩ := h (fun _ => none)
    obtain rfl : xs = [] := List.length_eq_zero_iff.1 h1.symm
    unfold oxs at h3
    rw [if_pos hk] at h3
    exact ⟨h0 hk, h3⟩
  · rintro ⟨rfl, h⟩ M
    exact ⟨fun _ => rfl, [], rfl, fun i v x e => by simp at e, by unfold oxs; rw [if_pos hk]; exact h⟩
theorem opq_hi {P : Pg} {k r : Nat} {ob : Obj} (hk : 200 ≤ k) : (∀ M, ORel P M r (.opq k []) ob) ↔ P.den.obj k [(r : Int)] ob := by
  constructor
  · intro h
    obtain ⟨h0, xs, h1, _, h3⟩ := h (fun _ => none)
    obtain rfl : xs = [] := List.length_eq_zero_iff.1 h1.symm
    unfold oxs at h3
    rw [if_neg (by omega)] at h3
    exact h3
  · intro h M
    exact ⟨fun h => by omega, [], rfl, fun i v x e => by simp at e, by unfold oxs; rw [if_neg (by omega)]; exact h⟩

/-! The numbers. -/
def ahN (nw : Int) (sc bg : Nat → Int) (N : Nat) (d : Int) (i : Nat) : Int :=
  binN 1 (ceZ (binN 5 (smN sc i (flN sc d 1 i) (bg (2 * i + 1)) (nxN nw bg N i 1)) (smN sc i (flN sc d 2 i) (bg (2 * i + 1)) (nxN nw bg N i 1))) (sc (4 * i + 0))) 1000
theorem dAh {nw : Int} {sc bg ot : Nat → Int} {N : Nat} (hN : N ≤ 4) {x : Value} {d : Int} (hx : Dv (DSy nw sc bg ot) x d) {i : Nat} (hi : i < N) : Dv (DSy nw sc bg ot) (ahT N x i) (ahN nw sc bg N d i) :=
  .bin (t := 1) (by decide) (app2P (t := 111) (by decide) (.bin (t := 5) (by decide) (dSm (by omega) (dFl hx (by decide) i (by omega)) (dBg (by omega) (by decide)) (dNx hN hi (by decide))) (dSm (by omega) (dFl hx (by decide) i (by omega)) (dBg (by omega) (by decide)) (dNx hN hi (by decide)))) (dSc (by omega) (by decide))) (.lit 1000)
/-- flows with a draw; ages behind a year -/
def flowV (sc : Nat → Int) (d : Int) (k : Nat) : Int := flN sc d (1 + k % 2) (k / 2)
def nextV (nw : Int) (sc : Nat → Int) (N : Nat) (d : Int) (a : Nat → Int) (k : Nat) : Int := if k % 2 = 0 then agN nw sc a N d (k / 2) else ahN nw sc a N d (k / 2)
structure Yr where
  nw : Int
  sc : Nat → Int
  bg : Nat → Int
  dr : Nat → Int
  n : Nat
  m : Nat
  k : Nat
  os : Nat
  ob : Nat
  od : Nat
  va : Value
  vb : Value
  vd : Value
  ot : Nat → Int
/-- the ages behind so many years -/
def agesP (nw : Int) (sc : Nat → Int) (n : Nat) (bg dr : Nat → Int) : Nat → Nat → Int
  | 0 => bg
  | y + 1 => nextV nw sc n (dr y) (agesP nw sc n bg dr y)
def agV (Y : Yr) (y : Nat) : Nat → Int := agesP Y.nw Y.sc Y.n Y.bg Y.dr y
def valZ (Y : Yr) (i : Nat) : Int :=
  if i = 0 then Y.nw else if i < 17 then Y.sc (i - 1) else if i < 25 then Y.bg (i - 17) else if i = 41 then Y.n else if i = 43 then Y.m else if i = 45 then Y.k else if i < 50 then 0 else if i < 90 then Y.dr (i - 50) else if i < 100 then 0
  else if i < 160 then agV Y ((i - 100) / 8) ((i - 100) % 8) else Y.ot i
def holeZ (Y : Yr) (i : Nat) : Value := if i = 40 then Y.va else if i = 42 then Y.vb else if i = 44 then Y.vd else .int .i64 (valZ Y i)
def objZ (Y : Yr) (k : Nat) (xs : List Int) (ob : Obj) : Prop :=
  if k = 53 then atC ob 0 (4 * Y.n) Y.sc else if k = 54 then atC ob 0 (2 * Y.m) Y.bg else if k = 55 then atC ob 0 Y.k Y.dr
  else if 70 ≤ k ∧ k < 80 then atC ob 0 (2 * Y.n) (agV Y (k - 70)) else if 80 ≤ k ∧ k < 90 then atC ob 0 (2 * Y.n) (flowV Y.sc (Y.dr (k - 80)))
  else if k = 200 then xs = [(Y.os : Int)] ∧ atC ob Y.os (4 * Y.n) Y.sc else if k = 201 then xs = [(Y.ob : Int)] ∧ atC ob Y.ob (2 * Y.m) Y.bg else if k = 202 then xs = [(Y.od : Int)] ∧ atC ob Y.od Y.k Y.dr else False
def DZ (Y : Yr) : Dn := { hole := holeZ Y, int := intP, obj := objZ Y }
def hLd : Value := hP 45
def hAg (y i j : Nat) : Value := hP (100 + 8 * y + 2 * i + j)
def hO (i : Nat) : Value := hP (160 + i)
section
variable {Y : Yr}
theorem dZ {i : Nat} (h1 : i ≠ 40) (h2 : i ≠ 42) (h3 : i ≠ 44) : Dv (DZ Y) (hP i) (valZ Y i) := .hole (by
  show holeZ Y i = _
  unfold holeZ
  rw [if_neg h1, if_neg h2, if_neg h3])
theorem zNew : Dv (DZ Y) hNew Y.nw := dZ (i := 0) (by decide) (by decide) (by decide)
theorem zSc {i j : Nat} (hi : i < 4) (hj : j < 4) : Dv (DZ Y) (hSc i j) (Y.sc (4 * i + j)) := by
  have := dZ (Y := Y) (i := 1 + 4 * i + j) (by omega) (by omega) (by omega)
  unfold valZ at this
  rw [if_neg (by omega), if_pos (by omega), show 1 + 4 * i + j - 1 = 4 * i + j by omega] at this
  exact this
theorem zN : Dv (DZ Y) hLs Y.n := dZ (i := 41) (by decide) (by decide) (by decide)
theorem zM : Dv (DZ Y) hLb Y.m := dZ (i := 43) (by decide) (by decide) (by decide)
theorem zK : Dv (DZ Y) hLd Y.k := dZ (i := 45) (by decide) (by decide) (by decide)
theorem zD {y : Nat} (h : y < 40) : Dv (DZ Y) (hDw y) (Y.dr y) := by
  have := dZ (Y := Y) (i := 50 + y) (by omega) (by omega) (by omega)
  unfold valZ at this
  rw [if_neg (by omega), if_neg (by omega), if_neg (by omega), if_neg (by omega), if_neg (by omega), if_neg (by omega), if_neg (by omega), if_pos (by omega), show 50 + y - 50 = y by omega] at this
  exact this
theorem zA {y i j : Nat} (hy : y ≤ 6) (hi : i < 4) (hj : j < 2) : Dv (DZ Y) (hAg y i j) (agV Y y (2 * i + j)) := by
  have := dZ (Y := Y) (i := 100 + 8 * y + 2 * i + j) (by omega) (by omega) (by omega)
  unfold valZ at this
  rw [if_neg (by omega), if_neg (by omega), if_neg (by omega), if_neg (by omega), if_neg (by omega), if_neg (by omega), if_neg (by omega), if_neg (by omega), if_neg (by omega), if_pos (by omega), show (100 + 8 * y + 2 * i + j - 100) / 8 = y by omega, show (100 + 8 * y + 2 * i + j - 100) % 8 = 2 * i + j by omega] at this
  exact this
theorem zO (i : Nat) : Dv (DZ Y) (hO i) (Y.ot (160 + i)) := by
  have := dZ (Y := Y) (i := 160 + i) (by omega) (by omega) (by omega)
  unfold valZ at this
  rw [if_neg (by omega), if_neg (by omega), if_neg (by omega), if_neg (by omega), if_neg (by omega), if_neg (by omega), if_neg (by omega), if_neg (by omega), if_neg (by omega), if_neg (by omega)] at this
  exact this
end

/-! Arguments. -/
/-- a system's value; a slice of ranges or of numbers -/
def SysV (nw : Int) (sc : Nat → Int) (n : Nat) (w : World) (v : Value) : Prop := ∃ gs os cap, v = .agg #[.slice (some ⟨gs, os, none⟩) n cap, .int .i64 nw] ∧ WinP gs os (4 * n) sc w
def LstV (c : Nat) (g : Nat → Int) (n : Nat) (w : World) (v : Value) : Prop := ∃ b o cap, v = .slice (some ⟨b, o, none⟩) n cap ∧ WinP b o (c * n) g w
section
variable {P : Pg} {Y : Yr}
theorem sl_lst {w : World} {o : AObj} {t v : Value} {n : Nat} (h : SlR P w o t v) (ht : Dv P.den t n) {c : Nat} {g : Nat → Int} (ho : ∀ r ob, (∀ M, ORel P M r o ob) → atC ob r (c * n) g) : LstV c g n w v := by
  obtain ⟨b, r, m, cap, ob, rfl, hm, hw, h1⟩ := h
  have := ht.unique _ hm
  have : n = m := by omega
  subst this
  exact ⟨b, r, cap, rfl, winP_at.2 ⟨ob, hw, ho r ob h1⟩⟩
theorem a_sys {w : World} {o : AObj} {t x v : Value} {n : Nat} {nw : Int} (h : PtR P w (.a o t x) v) (ht : Dv P.den t n) (hx : Dv P.den x nw) {sc : Nat → Int} (ho : ∀ r ob, (∀ M, ORel P M r o ob) → atC ob r (4 * n) sc) : SysV nw sc n w v := by
  obtain ⟨s, u, rfl, h1, h2⟩ := h
  obtain ⟨b, r, cap, rfl, hw⟩ := sl_lst h1 ht ho
  obtain ⟨y, rfl, dy⟩ := vrel_num (h2 fun _ => none) hx.num
  rw [hx.unique _ dy]
  exact ⟨b, r, cap, rfl, hw⟩
theorem pts1 {w : World} {p : Pt} {a : Array Value} (h : PtsR P w [p] a.toList) : ∃ x, a = #[x] ∧ PtR P w p x := by
  match he : a.toList, h with
  | [x], h => exact ⟨x, Array.ext' he, h.1⟩
  | _ :: _ :: _, h => exact h.2.elim
theorem pts2 {w : World} {p q : Pt} {a : Array Value} (h : PtsR P w [p, q] a.toList) : ∃ x y, a = #[x, y] ∧ PtR P w p x ∧ PtR P w q y := by
  match he : a.toList, h with
  | [x, y], h => exact ⟨x, y, Array.ext' he, h.1, h.2.1⟩
  | [_], h => exact h.2.elim
  | _ :: _ :: _ :: _, h => exact h.2.2.elim
theorem pts3 {w : World} {p q r : Pt} {a : Array Value} (h : PtsR P w [p, q, r] a.toList) : ∃ x y z, a = #[x, y, z] ∧ PtR P w p x ∧ PtR P w q y ∧ PtR P w r z := by
  match he : a.toList, h with
  | [x, y, z], h => exact ⟨x, y, z, Array.ext' he, h.1, h.2.1, h.2.2.1⟩
  | [_], h => exact h.2.elim
  | [_, _], h => exact h.2.2.elim
  | _ :: _ :: _ :: _ :: _, h => exact h.2.2.2.elim
theorem pt_num {w : World} {t v : Value} {x : Int} (h : PtR P w (.v t) v) (ht : Dv P.den t x) : v = .int .i64 x := by
  obtain ⟨y, rfl, dy⟩ := vrel_num (h fun _ => none) ht.num
  rw [ht.unique _ dy]
/-- patterns of values -/
theorem pt_sys {w : World} {o : AObj} {t x : Value} {n gs os cap : Nat} {nw : Int} (ht : Dv P.den t n) (hx : Dv P.den x nw) {ob : Obj} (hw : w.heap[gs]? = some ob) (ho : ∀ M, ORel P M os o ob) : PtR P w (.a o t x) (.agg #[.slice (some ⟨gs, os, none⟩) n cap, .int .i64 nw]) :=
  ⟨_, _, rfl, ⟨gs, os, n, cap, ob, rfl, ht, hw, ho⟩, fun M => hx.vrel⟩
theorem pt_lst {w : World} {o : AObj} {t : Value} {n gs os cap : Nat} (ht : Dv P.den t n) {ob : Obj} (hw : w.heap[gs]? = some ob) (ho : ∀ M, ORel P M os o ob) : PtR P w (.s o t) (.slice (some ⟨gs, os, none⟩) n cap) :=
  ⟨gs, os, n, cap, ob, rfl, ht, hw, ho⟩
theorem pt_v {w : World} {t : Value} {x : Int} (ht : Dv P.den t x) : PtR P w (.v t) (.int .i64 x) := fun M => ht.vrel
/-- the result: a new slice -/
theorem lst_res {c n : Nat} {g : Nat → Int} {bl : List Nat} {w w' : World} {b cap : Nat} {ob : Obj} {t : Value} (ht : Dv P.den t n) (hb : w.heap.size ≤ b) (hw : w'.heap[b]? = some ob) {o : AObj} (ho : ∀ M, ORel P M 0 o ob) :
    ResOk P bl w w' (.n o fun id => .iface 91 (.tuple #[.int .i64 (.ofNat id), t])) (.returned (.slice (some ⟨b, 0, none⟩) n cap)) :=
  ⟨_, b, ob, rfl, .inr hb, hw, ho, fun M id h => .osl h ht⟩
end
end Sy
end Go.Proofs.YtdejmleboflopaaGreat
