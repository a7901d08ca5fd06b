import Derived.Test.YtpfhfphcmomfdaaRM
import Derived.Test.YtpfhfphcmomfdaaRW
import Derived.Test.YtpfhfphcmomfdaaTC
/- The law GaugeDeeper, reckoned with symbols. -/
set_option linter.unusedVariables false
set_option linter.unusedSimpArgs false
namespace Go.Proofs.Ytpfhfphcmomfdaa
open Go.RowKit
namespace Sy
open Go.RowKit

def hD1 (N : Nat) : Value := hN (N * 3 + 3)
def hB0 (N : Nat) : Value := hN (N * 3 + 4)
def hB1 (N : Nat) : Value := hN (N * 3 + 5)
def lvD1 (N : Nat) : Value := .iface 2 (.tuple #[hD1 N, hBung])
def wIn (N k : Nat) : Value := .iface 5 (.tuple #[.int .i64 10, .iface 2 (.tuple #[hSt k 1, hB0 N])])
def wOut (N k : Nat) : Value := .iface 4 (.tuple #[hBung, .iface 1 (.tuple #[hSt k 2, hB1 N])])
def rowWd (N : Nat) : List Value := (List.range N).flatMap fun k => [hSt k 0, wIn N k, wOut N k]
def errWd (N : Nat) : Value := .iface 121 (.tuple (hBung :: rowWd N).toArray)
def radiiWd (N : Nat) : List Value := (List.range (N - 1)).map (fun k => .iface 4 (.tuple #[wIn N k, wIn N (k + 1)])) ++ (List.range (N - 1)).map (fun k => .iface 5 (.tuple #[wOut N k, wOut N (k + 1)]))
def loWd (N : Nat) (lv : Value) : Nat → Value
  | 0 => .int .i64 0
  | k + 1 => .iface 1 (.tuple #[loWd N lv k, .iface 3 (.tuple #[.iface 2 (.tuple #[hSt (k + 1) 0, hSt k 0]), .iface 101 (.tuple #[.iface 4 (.tuple #[wIn N k, wIn N (k + 1)]), lv])])])
def hiWd (N : Nat) (lv : Value) : Nat → Value
  | 0 => .int .i64 0
  | k + 1 => .iface 1 (.tuple #[hiWd N lv k, .iface 3 (.tuple #[.iface 2 (.tuple #[hSt (k + 1) 0, hSt k 0]), .iface 102 (.tuple #[.iface 5 (.tuple #[wOut N k, wOut N (k + 1)]), lv])])])
def fLoWd (N : Nat) : Value := .iface 105 (.tuple #[loWd N (lvD1 N) (N - 1)])
def fHiWd (N : Nat) : Value := .iface 106 (.tuple #[hiWd N (lvD1 N) (N - 1)])
def dG (N : Nat) : List Fact := [(0, errV N, .int .i64 0, true), (2, .int .i64 0, hDip, true), (2, hDip, topV, true), (2, .int .i64 0, hD1 N, true), (2, hD1 N, topV, true), (1, hD1 N, hDip, false), (2, .int .i64 0, hB0 N, true), (2, hB0 N, .int .i64 100, true), (2, .int .i64 0, hB1 N, true), (2, hB1 N, .int .i64 100, true)]
def dRest (N : Nat) : List Fact := [(0, dipW hDip, .int .i64 0, true), (0, dipW (hD1 N), .int .i64 0, true), (1, fHi lvV N, fLo lvV N, false), (1, fLo (lvD1 N) N, fLo lvV N, false), (1, fHi (lvD1 N) N, fHi lvV N, false), (0, errWd N, .int .i64 0, true), (2, fLoWd N, fLo (lvD1 N) N, true), (2, fHi (lvD1 N) N, fHiWd N, true)]
def dNeg (N : Nat) : Nat → Fact
  | 0 => (0, errV N, .int .i64 0, false)
  | 1 => (2, .int .i64 0, hDip, false)
  | 2 => (2, hDip, topV, false)
  | 3 => (2, .int .i64 0, hD1 N, false)
  | 4 => (2, hD1 N, topV, false)
  | 5 => (1, hD1 N, hDip, true)
  | 6 => (2, .int .i64 0, hB0 N, false)
  | 7 => (2, hB0 N, .int .i64 100, false)
  | 8 => (2, .int .i64 0, hB1 N, false)
  | _ => (2, hB1 N, .int .i64 100, false)
def dF (N k : Nat) : List Fact := (dG N).take k ++ [dNeg N k]
def argsD (N : Nat) : List Value := [winV N, .agg #[hDip, hD1 N], .agg #[hB0 N, hB1 N]]
section
variable (s : ByteArray) (bung dip : Int) (xs : List Int) (O : Obj → Prop)
end
def argsDY : List Value := [c3, .agg #[hN 4, hN 5], .agg #[hN 6, hN 7]]
end Sy
end Go.Proofs.Ytpfhfphcmomfdaa

/- GaugeDeeper of any cask, dips and curves. -/
set_option linter.unusedVariables false
set_option linter.unusedSimpArgs false
namespace Go.Proofs.Ytpfhfphcmomfdaa
open Go.RowKit
namespace Sy
open Go.RowKit

theorem getD_app {xs ys : List Int} {k : Nat} (h : k < xs.length) : (xs ++ ys).getD k 0 = xs.getD k 0 := by
  rw [List.getD_eq_getElem?_getD, List.getD_eq_getElem?_getD, List.getElem?_append_left h]
theorem CaskOk.app {bung : Int} {xs ys : List Int} {N : Nat} (hl : xs.length = N * 3) (h : CaskOk bung xs N) : CaskOk bung (xs ++ ys) N :=
  ⟨h.two, h.twelve, h.lo, h.hi, fun i hi => by rw [getD_app (by omega), getD_app (by omega), getD_app (by omega)]; exact h.st i hi, fun i h0 hi => by rw [getD_app (by omega), getD_app (by omega)]; exact h.up i h0 hi⟩
/-- the widened stations -/
def ysOf (bung : Int) (xs : List Int) (N : Nat) (y0 y1 : Int) : List Int := (List.range (N * 3)).map fun k => if k % 3 = 0 then xs.getD k 0 else if k % 3 = 1 then max 10 (xs.getD k 0 - y0) else min bung (xs.getD k 0 + y1)
theorem ysOf_len (bung : Int) (xs : List Int) (N : Nat) (y0 y1 : Int) : (ysOf bung xs N y0 y1).length = N * 3 := by simp [ysOf]
theorem ysOf_get {bung : Int} {xs : List Int} {N k : Nat} {y0 y1 : Int} (h : k < N * 3) : (ysOf bung xs N y0 y1).getD k 0 = if k % 3 = 0 then xs.getD k 0 else if k % 3 = 1 then max 10 (xs.getD k 0 - y0) else min bung (xs.getD k 0 + y1) := by
  rw [List.getD_eq_getElem?_getD]; simp [ysOf, List.getElem?_range h]
theorem ysOf_0 {bung : Int} {xs : List Int} {N i : Nat} {y0 y1 : Int} (h : i < N) : (ysOf bung xs N y0 y1).getD (i * 3) 0 = xs.getD (i * 3) 0 := by rw [ysOf_get (by omega), if_pos (by omega)]
theorem ysOf_1 {bung : Int} {xs : List Int} {N i : Nat} {y0 y1 : Int} (h : i < N) : (ysOf bung xs N y0 y1).getD (i * 3 + 1) 0 = max 10 (xs.getD (i * 3 + 1) 0 - y0) := by rw [ysOf_get (by omega), if_neg (by omega), if_pos (by omega)]
theorem ysOf_2 {bung : Int} {xs : List Int} {N i : Nat} {y0 y1 : Int} (h : i < N) : (ysOf bung xs N y0 y1).getD (i * 3 + 2) 0 = min bung (xs.getD (i * 3 + 2) 0 + y1) := by rw [ysOf_get (by omega), if_neg (by omega), if_neg (by omega)]
theorem ysOf_ok {bung : Int} {xs : List Int} {N : Nat} {y0 y1 : Int} (hc : CaskOk bung xs N) (h0 : 0 ≤ y0) (h1 : 0 ≤ y1) : CaskOk bung (ysOf bung xs N y0 y1) N :=
  ⟨hc.two, hc.twelve, hc.lo, hc.hi, fun i hi => by rw [ysOf_0 hi, ysOf_1 hi, ysOf_2 hi]; have := hc.st i hi; have := hc.lo; omega, fun i h0 hi => by rw [ysOf_0 (by omega), ysOf_0 hi]; exact hc.up i h0 hi⟩
theorem ysOf_wider {bung : Int} {xs : List Int} {N : Nat} {y0 y1 : Int} (hc : CaskOk bung xs N) (h0 : 0 ≤ y0) (h1 : 0 ≤ y1) : Wider xs (ysOf bung xs N y0 y1) N := fun i hi => by
  rw [ysOf_0 hi, ysOf_1 hi, ysOf_2 hi]; have := hc.st i hi; omega
theorem name_ok {s : ByteArray} {bung : Int} {xs : List Int} {N : Nat} (hl : xs.length = N * 3) (hz : (caskS s bung xs).2 = 0) : nameB s = true := by
  cases h : nameB s with
  | true => rfl
  | false =>
    rw [cs_early (N := N) hl (cE4 h) (by decide)] at hz
    exact absurd hz (by decide)
theorem cask_zero {s : ByteArray} {bung : Int} {xs : List Int} {N : Nat} (hl : xs.length = N * 3) (hn : nameB s = true) (hc : CaskOk bung xs N) : (caskS s bung xs).2 = 0 := by
  rw [cs_ok (N := N) hl (cE0 hn hc.lo hc.hi hc.two hc.twelve) (fun j hj => ?_)]
  obtain ⟨a1, a2, a3, a4, a5, a6, a7⟩ := hc.st j hj
  refine sn_0 (st0 ⟨a1, a2, a3, a4, a5, a6⟩ a7) ?_
  by_cases h0 : j = 0
  · exact .inl h0
  · exact .inr (hc.up j (by omega) hj)
section
variable {s : ByteArray} {bung dip d1 y0 y1 : Int} {xs : List Int} {O : Obj → Prop} {N : Nat}
abbrev zsOf (xs : List Int) (d1 y0 y1 : Int) : List Int := xs ++ [d1, y0, y1]
theorem dHx (hl : xs.length = N * 3) (j : Nat) (z : Int) (hj : [d1, y0, y1][j]? = some z) : Dv (D0 s bung dip (zsOf xs d1 y0 y1) O) (hN (N * 3 + j + 3)) z := by
  refine .hole ?_
  show Value.int .i64 ((zsOf xs d1 y0 y1).getD (N * 3 + j) 0) = _
  rw [show N * 3 + j = xs.length + j by omega, List.getD_eq_getElem?_getD, List.getElem?_append_right (by omega), show xs.length + j - xs.length = j by omega, hj]
  rfl
theorem dD1 (hl : xs.length = N * 3) : Dv (D0 s bung dip (zsOf xs d1 y0 y1) O) (hD1 N) d1 := dHx hl 0 d1 rfl
theorem dB0 (hl : xs.length = N * 3) : Dv (D0 s bung dip (zsOf xs d1 y0 y1) O) (hB0 N) y0 := dHx hl 1 y0 rfl
theorem dB1 (hl : xs.length = N * 3) : Dv (D0 s bung dip (zsOf xs d1 y0 y1) O) (hB1 N) y1 := dHx hl 2 y1 rfl
theorem rowV_denX (hl : xs.length = N * 3) : ∀ (i : Nat) (v : Value) (x : Int), (rowV N)[i]? = some v → xs[i]? = some x → Dv (D0 s bung dip (zsOf xs d1 y0 y1) O) v x := fun i v x hv hx => by
  obtain ⟨e, hi⟩ := rowV_get hv
  subst e
  refine .hole ?_
  show Value.int .i64 ((zsOf xs d1 y0 y1).getD i 0) = _
  rw [getD_app (by omega), List.getD_eq_getElem?_getD, hx]
  rfl
theorem dErrX (hl : xs.length = N * 3) : Dv (D0 s bung dip (zsOf xs d1 y0 y1) O) (errV N) (caskS s bung xs).2 :=
  .app (t := 121) (xs := bung :: xs) (by decide) (by simp [rowV, hl]) (fun i v x hv hx => by
    cases i with
    | zero => simp at hv hx; subst hv hx; exact dBung
    | succ i => exact rowV_denX hl i v x (by simpa using hv) (by simpa using hx))
theorem dWIn (hl : xs.length = N * 3) (hc : CaskOk bung (zsOf xs d1 y0 y1) N) (h0 : 0 ≤ y0) (h1 : y0 ≤ 100) {k : Nat} (hk : k < N) : Dv (D0 s bung dip (zsOf xs d1 y0 y1) O) (wIn N k) ((ysOf bung (zsOf xs d1 y0 y1) N y0 y1).getD (k * 3 + 1) 0) := by
  have h8 := hc.hi
  have := hc.st k hk
  have h : Dv (D0 s bung dip (zsOf xs d1 y0 y1) O) (wIn N k) (binN 5 10 (binN 2 ((zsOf xs d1 y0 y1).getD (k * 3 + 1) 0) y0)) := .bin (t := 5) (by decide) (.lit 10) (.bin (t := 2) (by decide) (dSt k 1) (dB0 hl))
  rw [ysOf_1 hk]
  rwa [show binN 5 10 (binN 2 ((zsOf xs d1 y0 y1).getD (k * 3 + 1) 0) y0) = max 10 ((zsOf xs d1 y0 y1).getD (k * 3 + 1) 0 - y0) from by
    show max _ (IntKind.i64.wrap (_ - _)) = _
    rw [IntWalk.i64_in _ (by omega)]] at h
theorem dWOut (hl : xs.length = N * 3) (hc : CaskOk bung (zsOf xs d1 y0 y1) N) (h0 : 0 ≤ y1) (h1 : y1 ≤ 100) {k : Nat} (hk : k < N) : Dv (D0 s bung dip (zsOf xs d1 y0 y1) O) (wOut N k) ((ysOf bung (zsOf xs d1 y0 y1) N y0 y1).getD (k * 3 + 2) 0) := by
  have h8 := hc.hi
  have := hc.st k hk
  have h : Dv (D0 s bung dip (zsOf xs d1 y0 y1) O) (wOut N k) (binN 4 bung (binN 1 ((zsOf xs d1 y0 y1).getD (k * 3 + 2) 0) y1)) := .bin (t := 4) (by decide) dBung (.bin (t := 1) (by decide) (dSt k 2) (dB1 hl))
  rw [ysOf_2 hk]
  rwa [show binN 4 bung (binN 1 ((zsOf xs d1 y0 y1).getD (k * 3 + 2) 0) y1) = min bung ((zsOf xs d1 y0 y1).getD (k * 3 + 2) 0 + y1) from by
    show min _ (IntKind.i64.wrap (_ + _)) = _
    rw [IntWalk.i64_in _ (by omega)]] at h
theorem flat3 (a b c : Nat → Value) : ∀ l : List Nat, (l.flatMap fun k => [a k, b k, c k]).length = l.length * 3
  | [] => rfl
  | x :: l => by rw [List.flatMap_cons, List.length_append, flat3 a b c l]; simp only [List.length_cons, List.length_nil]; omega
theorem rowWd_len : (rowWd N).length = N * 3 := by
  unfold rowWd
  rw [flat3, List.length_range]
theorem rowWd_get {k : Nat} {v : Value} (h : (rowWd N)[k]? = some v) : k < N * 3 ∧ v = if k % 3 = 0 then hSt (k / 3) 0 else if k % 3 = 1 then wIn N (k / 3) else wOut N (k / 3) := by
  have hk : k < N * 3 := by
    have := (List.getElem?_eq_some_iff.1 h).1
    rw [rowWd_len] at this
    exact this
  refine ⟨hk, ?_⟩
  have gen : ∀ (M n : Nat), (((List.range' n M).flatMap fun k => [hSt k 0, wIn N k, wOut N k])[k]? = some v) → v = if k % 3 = 0 then hSt (n + k / 3) 0 else if k % 3 = 1 then wIn N (n + k / 3) else wOut N (n + k / 3) := by
    clear h hk
    intro M
    induction M generalizing k with
    | zero => intro n h; simp at h
    | succ m ih =>
      intro n h
      rw [List.range'_succ, List.flatMap_cons] at h
      match k, h with
      | 0, h => simp at h; simp [h]
      | 1, h => simp at h; simp [h]
      | 2, h => simp at h; simp [h]
      | k + 3, h =>
        have h' : ((List.range' (n + 1) m).flatMap fun k => [hSt k 0, wIn N k, wOut N k])[k]? = some v := by simpa using h
        have := ih (n + 1) h'
        rw [this, show (k + 3) % 3 = k % 3 by omega, show (k + 3) / 3 = k / 3 + 1 by omega, show n + 1 + k / 3 = n + (k / 3 + 1) by omega]
  have := gen N 0 (by rw [← List.range_eq_range']; exact h)
  rwa [Nat.zero_add] at this
theorem dErrWd (hl : xs.length = N * 3) (hc : CaskOk bung (zsOf xs d1 y0 y1) N) (h0 : 0 ≤ y0) (h1 : y0 ≤ 100) (h2 : 0 ≤ y1) (h3 : y1 ≤ 100) : Dv (D0 s bung dip (zsOf xs d1 y0 y1) O) (errWd N) (caskS s bung (ysOf bung (zsOf xs d1 y0 y1) N y0 y1)).2 :=
  .app (t := 121) (xs := bung :: ysOf bung (zsOf xs d1 y0 y1) N y0 y1) (by decide) (by simp [rowWd_len, ysOf_len]) (fun i v x hv hx => by
    cases i with
    | zero => simp at hv hx; subst hv hx; exact dBung
    | succ i =>
      obtain ⟨hi, e⟩ := rowWd_get (k := i) (by simpa using hv)
      have hx : (ysOf bung (zsOf xs d1 y0 y1) N y0 y1)[i]? = some x := by simpa using hx
      have hx : (ysOf bung (zsOf xs d1 y0 y1) N y0 y1).getD i 0 = x := by rw [List.getD_eq_getElem?_getD, hx]; rfl
      subst hx
      subst e
      have hk : i / 3 < N := by omega
      split
      · rw [show i = i / 3 * 3 + 0 by omega, show (i / 3 * 3 + 0) / 3 = i / 3 by omega]
        have := dSt (s := s) (bung := bung) (dip := dip) (xs := zsOf xs d1 y0 y1) (O := O) (i / 3) 0
        rw [Nat.add_zero] at this ⊢
        rwa [ysOf_0 hk]
      · split
        · have := dWIn (s := s) (dip := dip) (O := O) hl hc h0 h1 hk
          rwa [show i / 3 * 3 + 1 = i by omega] at this
        · have := dWOut (s := s) (dip := dip) (O := O) hl hc h2 h3 hk
          rwa [show i / 3 * 3 + 2 = i by omega] at this)
theorem dLoWd (hl : xs.length = N * 3) (hc : CaskOk bung (zsOf xs d1 y0 y1) N) (h0 : 0 ≤ y0) (h1 : y0 ≤ 100) {lv : Value} {L : Int} (h : Dv (D0 s bung dip (zsOf xs d1 y0 y1) O) lv L) : ∀ k, k < N → Dv (D0 s bung dip (zsOf xs d1 y0 y1) O) (loWd N lv k) (loZ L (ysOf bung (zsOf xs d1 y0 y1) N y0 y1) k)
  | 0, _ => .lit 0
  | k + 1, hk => by
    have a : Dv (D0 s bung dip (zsOf xs d1 y0 y1) O) (hSt (k + 1) 0) ((ysOf bung (zsOf xs d1 y0 y1) N y0 y1).getD ((k + 1) * 3 + 0) 0) := by
      show Dv _ _ ((ysOf bung (zsOf xs d1 y0 y1) N y0 y1).getD ((k + 1) * 3) 0)
      rw [ysOf_0 hk]; exact dSt (k + 1) 0
    have b : Dv (D0 s bung dip (zsOf xs d1 y0 y1) O) (hSt k 0) ((ysOf bung (zsOf xs d1 y0 y1) N y0 y1).getD (k * 3 + 0) 0) := by
      show Dv _ _ ((ysOf bung (zsOf xs d1 y0 y1) N y0 y1).getD (k * 3) 0)
      rw [ysOf_0 (show k < N by omega)]; exact dSt k 0
    exact .bin (t := 1) (by decide) (dLoWd hl hc h0 h1 h k (by omega)) (.bin (t := 3) (by decide) (.bin (t := 2) (by decide) a b) (app2 (by decide) (.bin (t := 4) (by decide) (dWIn hl hc h0 h1 (by omega)) (dWIn hl hc h0 h1 hk)) h))
theorem dHiWd (hl : xs.length = N * 3) (hc : CaskOk bung (zsOf xs d1 y0 y1) N) (h0 : 0 ≤ y1) (h1 : y1 ≤ 100) {lv : Value} {L : Int} (h : Dv (D0 s bung dip (zsOf xs d1 y0 y1) O) lv L) : ∀ k, k < N → Dv (D0 s bung dip (zsOf xs d1 y0 y1) O) (hiWd N lv k) (hiZ L (ysOf bung (zsOf xs d1 y0 y1) N y0 y1) k)
  | 0, _ => .lit 0
  | k + 1, hk => by
    have a : Dv (D0 s bung dip (zsOf xs d1 y0 y1) O) (hSt (k + 1) 0) ((ysOf bung (zsOf xs d1 y0 y1) N y0 y1).getD ((k + 1) * 3 + 0) 0) := by
      show Dv _ _ ((ysOf bung (zsOf xs d1 y0 y1) N y0 y1).getD ((k + 1) * 3) 0)
      rw [ysOf_0 hk]; exact dSt (k + 1) 0
    have b : Dv (D0 s bung dip (zsOf xs d1 y0 y1) O) (hSt k 0) ((ysOf bung (zsOf xs d1 y0 y1) N y0 y1).getD (k * 3 + 0) 0) := by
      show Dv _ _ ((ysOf bung (zsOf xs d1 y0 y1) N y0 y1).getD (k * 3) 0)
      rw [ysOf_0 (show k < N by omega)]; exact dSt k 0
    exact .bin (t := 1) (by decide) (dHiWd hl hc h0 h1 h k (by omega)) (.bin (t := 3) (by decide) (.bin (t := 2) (by decide) a b) (app2 (by decide) (.bin (t := 5) (by decide) (dWOut hl hc h0 h1 (by omega)) (dWOut hl hc h0 h1 hk)) h))
theorem radiiWd_ok (hl : xs.length = N * 3) (hc : CaskOk bung (zsOf xs d1 y0 y1) N) (h0 : 0 ≤ y0) (h1 : y0 ≤ 100) (h2 : 0 ≤ y1) (h3 : y1 ≤ 100) : ∀ r ∈ radiiWd N, ∃ ρ : Nat, Dv (D0 s bung dip (zsOf xs d1 y0 y1) O) r ρ ∧ 10 ≤ ρ ∧ ρ ≤ 800 := by
  intro r hr
  have h8 := hc.hi
  have hy := ysOf_ok hc h0 h2
  rcases List.mem_append.1 hr with h | h
  · obtain ⟨k, hk, rfl⟩ := List.mem_map.1 h
    have hk : k < N - 1 := by simpa using hk
    obtain ⟨_, _, a1, a2, _, _, _⟩ := hy.st k (by omega)
    obtain ⟨_, _, b1, b2, _, _, _⟩ := hy.st (k + 1) (by omega)
    refine ⟨(min ((ysOf bung (zsOf xs d1 y0 y1) N y0 y1).getD (k * 3 + 1) 0) ((ysOf bung (zsOf xs d1 y0 y1) N y0 y1).getD ((k + 1) * 3 + 1) 0)).toNat, ?_, by omega, by omega⟩
    rw [show (((min ((ysOf bung (zsOf xs d1 y0 y1) N y0 y1).getD (k * 3 + 1) 0) ((ysOf bung (zsOf xs d1 y0 y1) N y0 y1).getD ((k + 1) * 3 + 1) 0)).toNat : Nat) : Int) = binN 4 ((ysOf bung (zsOf xs d1 y0 y1) N y0 y1).getD (k * 3 + 1) 0) ((ysOf bung (zsOf xs d1 y0 y1) N y0 y1).getD ((k + 1) * 3 + 1) 0) from by show _ = min _ _; omega]
    exact .bin (t := 4) (by decide) (dWIn hl hc h0 h1 (by omega)) (dWIn hl hc h0 h1 (by omega))
  · obtain ⟨k, hk, rfl⟩ := List.mem_map.1 h
    have hk : k < N - 1 := by simpa using hk
    obtain ⟨_, _, _, _, a1, a2, _⟩ := hy.st k (by omega)
    obtain ⟨_, _, _, _, b1, b2, _⟩ := hy.st (k + 1) (by omega)
    refine ⟨(max ((ysOf bung (zsOf xs d1 y0 y1) N y0 y1).getD (k * 3 + 2) 0) ((ysOf bung (zsOf xs d1 y0 y1) N y0 y1).getD ((k + 1) * 3 + 2) 0)).toNat, ?_, by omega, by omega⟩
    rw [show (((max ((ysOf bung (zsOf xs d1 y0 y1) N y0 y1).getD (k * 3 + 2) 0) ((ysOf bung (zsOf xs d1 y0 y1) N y0 y1).getD ((k + 1) * 3 + 2) 0)).toNat : Nat) : Int) = binN 5 ((ysOf bung (zsOf xs d1 y0 y1) N y0 y1).getD (k * 3 + 2) 0) ((ysOf bung (zsOf xs d1 y0 y1) N y0 y1).getD ((k + 1) * 3 + 2) 0) from by show _ = max _ _; omega]
    exact .bin (t := 5) (by decide) (dWOut hl hc h2 h3 (by omega)) (dWOut hl hc h2 h3 (by omega))
theorem dLvD1 (hl : xs.length = N * 3) (hc : CaskOk bung (zsOf xs d1 y0 y1) N) (h0 : 0 ≤ d1) (h1 : d1 ≤ 2 * bung) : Dv (D0 s bung dip (zsOf xs d1 y0 y1) O) (lvD1 N) (d1 - bung) := by
  have h8 := hc.hi
  have h : Dv (D0 s bung dip (zsOf xs d1 y0 y1) O) (lvD1 N) (binN 2 d1 bung) := .bin (t := 2) (by decide) (dD1 hl) dBung
  rwa [show binN 2 d1 bung = d1 - bung from IntWalk.i64_in _ (by omega)] at h
theorem okDG (hl : xs.length = N * 3) (hz : (caskS s bung xs).2 = 0) (hc : CaskOk bung (zsOf xs d1 y0 y1) N) (a0 : 0 ≤ dip) (a1 : dip ≤ 2 * bung) (b0 : 0 ≤ d1) (b1 : d1 ≤ 2 * bung) (hd : dip ≤ d1) (h0 : 0 ≤ y0) (h1 : y0 ≤ 100) (h2 : 0 ≤ y1) (h3 : y1 ≤ 100) : ∀ f ∈ dG N ++ dRest N, OkF (D0 s bung dip (zsOf xs d1 y0 y1) O) f := by
  have hn := name_ok hl hz
  have hy := ysOf_ok hc h0 h2
  have hw := ysOf_wider hc h0 h2
  have hyl : (ysOf bung (zsOf xs d1 y0 y1) N y0 y1).length = N * 3 := ysOf_len ..
  have two := hc.two
  obtain ⟨t1, t2, t3, t4, t5⟩ := ends_deeper (L := dip - bung) (M := d1 - bung) hc hy hw (by omega)
  intro f hf
  simp only [dG, dRest, List.mem_append, List.mem_cons, List.not_mem_nil, or_false] at hf
  rcases hf with (rfl | rfl | rfl | rfl | rfl | rfl | rfl | rfl | rfl | rfl) | (rfl | rfl | rfl | rfl | rfl | rfl | rfl | rfl)
  · exact eq_yes (dErrX hl) (.lit 0) hz
  · exact le_yes (.lit 0) dDip a0
  · exact le_yes dDip (dTopV hc) a1
  · exact le_yes (.lit 0) (dD1 hl) b0
  · exact le_yes (dD1 hl) (dTopV hc) b1
  · exact lt_no (dD1 hl) dDip (by omega)
  · exact le_yes (.lit 0) (dB0 hl) h0
  · exact le_yes (dB0 hl) (.lit 100) h1
  · exact le_yes (.lit 0) (dB1 hl) h2
  · exact le_yes (dB1 hl) (.lit 100) h3
  · exact eq_yes (dDipW hc dDip a0 a1) (.lit 0) rfl
  · exact eq_yes (dDipW hc (dD1 hl) b0 b1) (.lit 0) rfl
  · exact lt_no (dFHi (dLvA hc a0 a1)) (dFLo (dLvA hc a0 a1)) (by omega)
  · exact lt_no (dFLo (dLvD1 hl hc b0 b1)) (dFLo (dLvA hc a0 a1)) (by omega)
  · exact lt_no (dFHi (dLvD1 hl hc b0 b1)) (dFHi (dLvA hc a0 a1)) (by omega)
  · exact eq_yes (dErrWd hl hc h0 h1 h2 h3) (.lit 0) (cask_zero hyl hn hy)
  · exact le_yes (app1 (t := 105) (by decide) (dLoWd hl hc h0 h1 (dLvD1 hl hc b0 b1) (N - 1) (by omega))) (dFLo (dLvD1 hl hc b0 b1)) t4
  · exact le_yes (dFHi (dLvD1 hl hc b0 b1)) (app1 (t := 106) (by decide) (dHiWd hl hc h2 h3 (dLvD1 hl hc b0 b1) (N - 1) (by omega))) t5
end
/-- a law of a cask and four numbers that a run has answered -/
theorem law_win2 {s : ByteArray} {bung dip d1 y0 y1 : Int} {xs : List Int} {N gs os cap f : Nat} {w : World} {ob : Obj} (hl : xs.length = N * 3) (hw : WinAt gs os xs w) (hob : w.heap[gs]? = some ob) {l : List Fact} {ok} {sp : CallF} (hsp : CallOk (pgE s bung dip (zsOf xs d1 y0 y1) (fun o => o = ob) l ok) sp)
    (hrun : fstW (evDS (pgE s bung dip (zsOf xs d1 y0 y1) (fun o => o = ob) l ok) sp 2000 60 (.fn f) (argsD N) (hpW N) 1) = some (.bool true, some (.win (rowV N)))) :
    Calls Try.prog f #[.agg #[.string s, .int .i64 bung, .slice (some ⟨gs, os, none⟩) N cap], .agg #[.int .i64 dip, .int .i64 d1], .agg #[.int .i64 y0, .int .i64 y1]] w fun e w' => e = .returned (.bool true) ∧ Below w.heap.size w w' := by
  refine Calls.mono (run_win (P := pgE s bung dip (zsOf xs d1 y0 y1) (fun o => o = ob) l ok) rfl (by kernel_rfl) hsp (by rw [rowV_len, hl]) (rowV_denX hl) hrun (args' := #[.agg #[.string s, .int .i64 bung, .slice (some ⟨gs, os, none⟩) N cap], .agg #[.int .i64 dip, .int .i64 d1], .agg #[.int .i64 y0, .int .i64 y1]])
    (LRel.cons (LRel.agg (LRel.cons (.hol (P := pgE s bung dip (zsOf xs d1 y0 y1) (fun o => o = ob) l ok) (n := 0) rfl rfl (fun _ => rfl)) (LRel.cons (Dv.vrel (P := pgE s bung dip (zsOf xs d1 y0 y1) (fun o => o = ob) l ok) dBung) (LRel.cons (.osl rfl (.lit (N : Int))) (LRel.nil _)))))
      (LRel.cons (LRel.agg (LRel.cons (Dv.vrel (P := pgE s bung dip (zsOf xs d1 y0 y1) (fun o => o = ob) l ok) dDip) (LRel.cons (Dv.vrel (P := pgE s bung dip (zsOf xs d1 y0 y1) (fun o => o = ob) l ok) (dD1 hl)) (LRel.nil _))))
      (LRel.cons (LRel.agg (LRel.cons (Dv.vrel (P := pgE s bung dip (zsOf xs d1 y0 y1) (fun o => o = ob) l ok) (dB0 hl)) (LRel.cons (Dv.vrel (P := pgE s bung dip (zsOf xs d1 y0 y1) (fun o => o = ob) l ok) (dB1 hl)) (LRel.nil _)))) (LRel.nil _)))) hw hob rfl) ?_
  rintro e' w' ⟨M', v', rfl, hvr, hwb⟩
  cases hvr
  exact ⟨rfl, hwb⟩
theorem argsDY_rel {P : Pg} {s : ByteArray} {bung dip d1 z0 z1 : Int} {sa : Option Addr} {N cap : Nat} (hd : P.den = DY s bung (.slice sa N cap) [dip, d1, z0, z1]) (M : Mp) : LRel P M argsDY [.agg #[.string s, .int .i64 bung, .slice sa N cap], .agg #[.int .i64 dip, .int .i64 d1], .agg #[.int .i64 z0, .int .i64 z1]] :=
  LRel.cons (c3_relY hd M) (LRel.cons (LRel.agg (LRel.cons (dY hd M 0) (LRel.cons (dY hd M 1) (LRel.nil _)))) (LRel.cons (LRel.agg (LRel.cons (dY hd M 2) (LRel.cons (dY hd M 3) (LRel.nil _)))) (LRel.nil _)))
end Sy
end Go.Proofs.Ytpfhfphcmomfdaa
