/- TopGaugeDips of any cask, dip and dips. -/
import Derived.Test.YtpfhfphcmomfdaaDR1
import Derived.Test.YtpfhfphcmomfdaaDR2
import Derived.Test.YtpfhfphcmomfdaaDR3
import Derived.Test.YtpfhfphcmomfdaaDR4
import Derived.Test.YtpfhfphcmomfdaaDR5
import Derived.Test.YtpfhfphcmomfdaaDR6
import Derived.Test.YtpfhfphcmomfdaaDR7
import Derived.Test.YtpfhfphcmomfdaaDR8
set_option linter.unusedVariables false
set_option linter.unusedSimpArgs false
namespace Go.Proofs.Ytpfhfphcmomfdaa
open Go.RowKit
namespace Sy
open Go.RowKit

set_option maxRecDepth 100000 in
theorem awakeD_run : fstO (evDS (pg0 Try.prog) spNone 2000 60 (.fn 4) [] .leaf 0) = some (.bool true) := by kernel_rfl
theorem awakeD (w : World) : Calls Try.prog 4 #[] w fun e w' => e = .returned (.bool true) ∧ Below w.heap.size w w' :=
  run_true rfl (by kernel_rfl) ok_spNone awakeD_run (fun M => LRel.nil M) w
abbrev LawD (s : ByteArray) (bung dip : Int) (sa : Option Addr) (N cap : Nat) (la : Option Addr) (t cl : Nat) (w : World) : Prop :=
  Calls Try.prog 3 #[.agg #[.string s, .int .i64 bung, .slice sa N cap], .int .i64 dip, .slice la t cl] w fun e w' => e = .returned (.bool true) ∧ Below w.heap.size w w'

/-! What facts say of numbers. -/
theorem of_le {D : Dn} {a b : Value} {x y : Int} (h : OkF D (2, a, b, true)) (ha : Dv D a x) (hb : Dv D b y) : x ≤ y := by
  obtain ⟨x', y', p, q, e⟩ := h
  have := ha.unique _ p
  have := hb.unique _ q
  subst_vars
  exact of_decide_eq_true e
theorem of_nlt {D : Dn} {a b : Value} {x y : Int} (h : OkF D (1, a, b, false)) (ha : Dv D a x) (hb : Dv D b y) : y ≤ x := by
  obtain ⟨x', y', p, q, e⟩ := h
  have := ha.unique _ p
  have := hb.unique _ q
  subst_vars
  have := of_decide_eq_false e
  omega
theorem of_eq {D : Dn} {a b : Value} {x y : Int} (h : OkF D (0, a, b, true)) (ha : Dv D a x) (hb : Dv D b y) : x = y := by
  obtain ⟨x', y', p, q, e⟩ := h
  have := ha.unique _ p
  have := hb.unique _ q
  subst_vars
  exact of_decide_eq_true e
theorem of_ne {D : Dn} {a b : Value} {x y : Int} (h : OkF D (0, a, b, false)) (ha : Dv D a x) (hb : Dv D b y) : x ≠ y := by
  obtain ⟨x', y', p, q, e⟩ := h
  have := ha.unique _ p
  have := hb.unique _ q
  subst_vars
  exact of_decide_eq_false e

/-! The numbers. -/
abbrev zsD (xs : List Int) (t : Int) (g : Nat → Int) : List Int := xs ++ (t :: (List.range 18).map g)
abbrev DQ (s : ByteArray) (bung dip : Int) (xs : List Int) (t : Int) (g : Nat → Int) : Dn := D0 s bung dip (zsD xs t g) (fun _ => True)
section
variable {s : ByteArray} {bung dip t : Int} {xs : List Int} {g : Nat → Int} {N : Nat}
theorem agD (hl : xs.length = N * 3) : Ag (zsD xs t g) xs N := Ag.app hl
theorem dLen (hl : xs.length = N * 3) : Dv (DQ s bung dip xs t g) (hLn N) t := by
  refine .hole ?_
  show Value.int .i64 ((zsD xs t g).getD (N * 3) 0) = _
  rw [List.getD_eq_getElem?_getD, List.getElem?_append_right (by omega), show N * 3 - xs.length = 0 by omega]
  rfl
theorem dH (hl : xs.length = N * 3) {i j : Nat} (h : 3 * i + j < 18) : Dv (DQ s bung dip xs t g) (hDp N i j) (g (3 * i + j)) := by
  unfold hDp
  rw [show N * 3 + 4 + (3 * i + j) = (N * 3 + 1 + (3 * i + j)) + 3 by omega]
  refine .hole ?_
  show Value.int .i64 ((zsD xs t g).getD (N * 3 + 1 + (3 * i + j)) 0) = _
  rw [List.getD_eq_getElem?_getD, List.getElem?_append_right (by omega), show N * 3 + 1 + (3 * i + j) - xs.length = (3 * i + j) + 1 by omega, List.getElem?_cons_succ, List.getElem?_map, List.getElem?_range h]
  rfl
/-- what the law asks of a dip -/
structure OkD (bung dip : Int) (xs : List Int) (N : Nat) (g : Nat → Int) (i : Nat) : Prop where
  d0 : 0 ≤ g (3 * i + 0)
  d1 : g (3 * i + 0) ≤ 1000
  up : ∀ j, i = j + 1 → g (3 * j + 0) ≤ g (3 * i + 0)
  p0 : 0 ≤ g (3 * i + 1)
  p1 : g (3 * i + 1) ≤ 2 * bung
  w0 : 0 ≤ g (3 * i + 2)
  w1 : g (3 * i + 2) ≤ 2 * bung
  lo : g (3 * i + 1) - g (3 * i + 2) ≤ dip
  hi : dip ≤ g (3 * i + 1) + g (3 * i + 2)
  sm : vHi bung xs N (min (2 * bung) (g (3 * i + 1) + g (3 * i + 2))) ≤ 100000
abbrev loN (bung : Int) (xs : List Int) (N : Nat) (g : Nat → Int) (i : Nat) : Int := vLo bung xs N (max 0 (g (3 * i + 1) - g (3 * i + 2)))
abbrev hiN (bung : Int) (xs : List Int) (N : Nat) (g : Nat → Int) (i : Nat) : Int := vHi bung xs N (min (2 * bung) (g (3 * i + 1) + g (3 * i + 2)))
theorem OkD.bd (hc : CaskOk bung xs N) (a0 : 0 ≤ dip) (a1 : dip ≤ 2 * bung) {i : Nat} (h : OkD bung dip xs N g i) : 0 ≤ loN bung xs N g i ∧ loN bung xs N g i ≤ vLo bung xs N dip ∧ vLo bung xs N dip ≤ vHi bung xs N dip ∧ vHi bung xs N dip ≤ hiN bung xs N g i ∧ hiN bung xs N g i ≤ 100000 := by
  have h1 := vLo_upD hc (a := max 0 (g (3 * i + 1) - g (3 * i + 2))) (b := dip) (by have := h.lo; omega)
  have h2 := vLo_upD hc (a := dip) (b := min (2 * bung) (g (3 * i + 1) + g (3 * i + 2))) (by have := h.hi; omega)
  have h3 := (ends_bd hc (max 0 (g (3 * i + 1) - g (3 * i + 2)) - bung)).1.1
  exact ⟨h3, h1.1, h2.2.2, h2.2.1, h.sm⟩
theorem dTop0 : Dv (DQ s bung dip xs t g) topV (binN 3 2 bung) := .bin (t := 3) (by decide) (.lit 2) dBung
theorem dTopQ (hl : xs.length = N * 3) (hc : CaskOk bung xs N) : Dv (DQ s bung dip xs t g) topV (2 * bung) := dTopV (CaskOk.ag (agD hl) hc)
theorem dLH (hl : xs.length = N * 3) (hc : CaskOk bung xs N) {i : Nat} (hi : i < 6) (h : OkD bung dip xs N g i) : Dv (DQ s bung dip xs t g) (loDp N i) (loN bung xs N g i) ∧ Dv (DQ s bung dip xs t g) (hiDp N i) (hiN bung xs N g i) :=
  dLoHi (agD hl) hc (dH hl (j := 1) (by omega)) (dH hl (j := 2) (by omega)) h.p0 h.p1 h.w0 h.w1
theorem dSubQ (hl : xs.length = N * 3) {i : Nat} (hi : i < 6) : Dv (DQ s bung dip xs t g) (subDp N i) (binN 2 (g (3 * i + 1)) (g (3 * i + 2))) := .bin (t := 2) (by decide) (dH hl (j := 1) (by omega)) (dH hl (j := 2) (by omega))
theorem dAddQ (hl : xs.length = N * 3) {i : Nat} (hi : i < 6) : Dv (DQ s bung dip xs t g) (addDp N i) (binN 1 (g (3 * i + 1)) (g (3 * i + 2))) := .bin (t := 1) (by decide) (dH hl (j := 1) (by omega)) (dH hl (j := 2) (by omega))
theorem dHi0 (hl : xs.length = N * 3) {i : Nat} (hi : i < 6) : ∃ x, Dv (DQ s bung dip xs t g) (hiDp N i) x :=
  ⟨_, dFHi (N := N) (lv := lvB N i) (.bin (t := 2) (by decide) (.bin (t := 4) (by decide) dTop0 (dAddQ hl hi)) dBung)⟩
theorem gQ_dv (hl : xs.length = N * 3) {i : Nat} (hi : i < 6) : ∀ f ∈ gQ N i, ∃ x y, Dv (DQ s bung dip xs t g) f.2.1 x ∧ Dv (DQ s bung dip xs t g) f.2.2.1 y := by
  intro f hf
  have h0 := dH (s := s) (bung := bung) (dip := dip) (t := t) (g := g) hl (i := i) (j := 0) (by omega)
  have h1 := dH (s := s) (bung := bung) (dip := dip) (t := t) (g := g) hl (i := i) (j := 1) (by omega)
  have h2 := dH (s := s) (bung := bung) (dip := dip) (t := t) (g := g) hl (i := i) (j := 2) (by omega)
  obtain ⟨xh, hh⟩ := dHi0 (s := s) (bung := bung) (dip := dip) (t := t) (g := g) hl hi
  rcases List.mem_append.1 hf with h | h
  · rcases List.mem_append.1 h with h | h
    · simp only [List.mem_cons, List.not_mem_nil, or_false] at h
      rcases h with rfl | rfl
      · exact ⟨_, _, .lit 0, h0⟩
      · exact ⟨_, _, h0, .lit 1000⟩
    · cases i with
      | zero => simp [dayDp] at h
      | succ i =>
        simp only [dayDp, List.mem_cons, List.not_mem_nil, or_false] at h
        subst h
        exact ⟨_, _, h0, dH hl (i := i) (j := 0) (by omega)⟩
  · simp only [List.mem_cons, List.not_mem_nil, or_false] at h
    rcases h with rfl | rfl | rfl | rfl | rfl | rfl | rfl
    · exact ⟨_, _, .lit 0, h1⟩
    · exact ⟨_, _, h1, dTop0⟩
    · exact ⟨_, _, .lit 0, h2⟩
    · exact ⟨_, _, h2, dTop0⟩
    · exact ⟨_, _, dSubQ hl hi, dDip⟩
    · exact ⟨_, _, dDip, dAddQ hl hi⟩
    · exact ⟨_, _, .lit 100000, hh⟩
theorem gQ_day (i : Nat) : ∀ f ∈ dayDp N (i + 1), f ∈ gQ N (i + 1) := fun f hf => List.mem_append.2 (.inl (List.mem_append.2 (.inr hf)))
/-- what it asks is so if no test fails -/
theorem okD_of (hl : xs.length = N * 3) (hc : CaskOk bung xs N) {i : Nat} (hi : i < 6) (h : ∀ f ∈ gQ N i, OkF (DQ s bung dip xs t g) f) : OkD bung dip xs N g i := by
  have h0 := dH (s := s) (bung := bung) (dip := dip) (t := t) (g := g) hl (i := i) (j := 0) (by omega)
  have h1 := dH (s := s) (bung := bung) (dip := dip) (t := t) (g := g) hl (i := i) (j := 1) (by omega)
  have h2 := dH (s := s) (bung := bung) (dip := dip) (t := t) (g := g) hl (i := i) (j := 2) (by omega)
  have h8 := hc.hi
  have h10 := hc.lo
  have tp := dTopQ (s := s) (dip := dip) (t := t) (g := g) hl hc
  have a0 := of_le (h (2, iD 0, hDp N i 0, true) (by simp [gQ])) (.lit 0) h0
  have a1 := of_le (h (2, hDp N i 0, iD 1000, true) (by simp [gQ])) h0 (.lit 1000)
  have p0 := of_le (h (2, iD 0, hDp N i 1, true) (by simp [gQ])) (.lit 0) h1
  have p1 := of_le (h (2, hDp N i 1, topV, true) (by simp [gQ])) h1 tp
  have w0 := of_le (h (2, iD 0, hDp N i 2, true) (by simp [gQ])) (.lit 0) h2
  have w1 := of_le (h (2, hDp N i 2, topV, true) (by simp [gQ])) h2 tp
  have lo := of_le (h (2, subDp N i, hDip, true) (by simp [gQ])) (dSubQ hl hi) dDip
  have hi' := of_le (h (2, hDip, addDp N i, true) (by simp [gQ])) dDip (dAddQ hl hi)
  rw [show binN 2 (g (3 * i + 1)) (g (3 * i + 2)) = g (3 * i + 1) - g (3 * i + 2) from IntWalk.i64_in _ (by omega)] at lo
  rw [show binN 1 (g (3 * i + 1)) (g (3 * i + 2)) = g (3 * i + 1) + g (3 * i + 2) from IntWalk.i64_in _ (by omega)] at hi'
  have sm := of_nlt (h (1, iD 100000, hiDp N i, false) (by simp [gQ])) (.lit 100000) (dLoHi (agD hl) hc h1 h2 p0 p1 w0 w1).2
  refine ⟨a0, a1, fun j e => ?_, p0, p1, w0, w1, lo, hi', sm⟩
  subst e
  exact of_nlt (h (1, hDp N (j + 1) 0, hDp N j 0, false) (gQ_day j _ (by simp [dayDp]))) h0 (dH hl (i := j) (j := 0) (by omega))
/-- then all tests on a dip are so -/
theorem ok_gQ (hl : xs.length = N * 3) (hc : CaskOk bung xs N) (a0 : 0 ≤ dip) (a1 : dip ≤ 2 * bung) {i : Nat} (hi : i < 6) (h : OkD bung dip xs N g i) : ∀ f ∈ gQ N i ++ dQ N i, OkF (DQ s bung dip xs t g) f := by
  have h0 := dH (s := s) (bung := bung) (dip := dip) (t := t) (g := g) hl (i := i) (j := 0) (by omega)
  have h1 := dH (s := s) (bung := bung) (dip := dip) (t := t) (g := g) hl (i := i) (j := 1) (by omega)
  have h2 := dH (s := s) (bung := bung) (dip := dip) (t := t) (g := g) hl (i := i) (j := 2) (by omega)
  have h8 := hc.hi
  have h10 := hc.lo
  have tp := dTopQ (s := s) (dip := dip) (t := t) (g := g) hl hc
  have ds := dSubQ (s := s) (bung := bung) (dip := dip) (t := t) (g := g) hl hi
  have da := dAddQ (s := s) (bung := bung) (dip := dip) (t := t) (g := g) hl hi
  obtain ⟨k0, k1, k2, k3, k4, k5, k6, k7, k8, k9⟩ := h
  have hD : OkD bung dip xs N g i := ⟨k0, k1, k2, k3, k4, k5, k6, k7, k8, k9⟩
  rw [show binN 2 (g (3 * i + 1)) (g (3 * i + 2)) = g (3 * i + 1) - g (3 * i + 2) from IntWalk.i64_in _ (by omega)] at ds
  rw [show binN 1 (g (3 * i + 1)) (g (3 * i + 2)) = g (3 * i + 1) + g (3 * i + 2) from IntWalk.i64_in _ (by omega)] at da
  obtain ⟨dl, dh⟩ := dLH (s := s) (t := t) hl hc hi hD
  obtain ⟨b0, b1, b2, b3, b4⟩ := hD.bd hc a0 a1
  refine ok_app (ok_app (ok_app ?_ ?_) ?_) ?_
  · intro f h
    simp only [List.mem_cons, List.not_mem_nil, or_false] at h
    rcases h with rfl | rfl
    · exact le_yes (.lit 0) h0 k0
    · exact le_yes h0 (.lit 1000) k1
  · intro f h
    cases i with
    | zero => simp [dayDp] at h
    | succ i =>
      simp only [dayDp, List.mem_cons, List.not_mem_nil, or_false] at h
      subst h
      exact lt_no h0 (dH hl (i := i) (j := 0) (by omega)) (by have := k2 i rfl; omega)
  · intro f h
    simp only [List.mem_cons, List.not_mem_nil, or_false] at h
    rcases h with rfl | rfl | rfl | rfl | rfl | rfl | rfl
    · exact le_yes (.lit 0) h1 k3
    · exact le_yes h1 tp k4
    · exact le_yes (.lit 0) h2 k5
    · exact le_yes h2 tp k6
    · exact le_yes ds dDip k7
    · exact le_yes dDip da k8
    · exact lt_no (.lit 100000) dh (by omega)
  · intro f h
    simp only [dQ, List.mem_cons, List.not_mem_nil, or_false] at h
    rcases h with rfl | rfl | rfl | rfl | rfl | rfl
    · exact le_yes h0 (.lit 100000) (by omega)
    · exact le_yes (.lit 0) dl b0
    · exact le_yes dl (.lit 100000) (by omega)
    · exact le_yes (.lit 0) dh (by omega)
    · exact le_yes dh (.lit 100000) b4
    · exact lt_no dh dl (by omega)
theorem ok_g0 (hl : xs.length = N * 3) (hc : CaskOk bung xs N) (hz : (caskS s bung xs).2 = 0) (a0 : 0 ≤ dip) (a1 : dip ≤ 2 * bung) (t0 : t ≠ 0) (t6 : t ≤ 6) : ∀ f ∈ g0Q N, OkF (DQ s bung dip xs t g) f := by
  have tp := dTopQ (s := s) (dip := dip) (t := t) (g := g) hl hc
  intro f h
  simp only [g0Q, List.mem_cons, List.not_mem_nil, or_false] at h
  rcases h with rfl | rfl | rfl | rfl | rfl | rfl
  · exact eq_yes (dErrG hl (agD hl)) (.lit 0) hz
  · exact le_yes (.lit 0) dDip a0
  · exact le_yes dDip tp a1
  · exact eq_yes (dDipW (CaskOk.ag (agD hl) hc) dDip a0 a1) (.lit 0) rfl
  · exact eq_no (dLen hl) (.lit 0) t0
  · exact lt_no (.lit 6) (dLen hl) (by omega)
theorem dOwn (hl : xs.length = N * 3) (hc : CaskOk bung xs N) (a0 : 0 ≤ dip) (a1 : dip ≤ 2 * bung) : Dv (DQ s bung dip xs t g) (fLo lvV N) (vLo bung xs N dip) ∧ Dv (DQ s bung dip xs t g) (fHi lvV N) (vHi bung xs N dip) :=
  dVG (agD hl) hc.two (dLvA (CaskOk.ag (agD hl) hc) a0 a1)
/-- all tests on so many dips -/
theorem ok_allQ (hl : xs.length = N * 3) (hc : CaskOk bung xs N) (hz : (caskS s bung xs).2 = 0) (a0 : 0 ≤ dip) (a1 : dip ≤ 2 * bung) (t0 : t ≠ 0) (t6 : t ≤ 6) (hb : vHi bung xs N dip ≤ 100000) : ∀ n : Nat, n ≤ 6 → (n : Int) ≤ t → (∀ j, j < n → OkD bung dip xs N g j) → ∀ f ∈ allQ N n, OkF (DQ s bung dip xs t g) f
  | 0, _, _, _ => ok_app (ok_g0 hl hc hz a0 a1 t0 t6) (ok_one (lt_no (.lit 100000) (dOwn hl hc a0 a1).2 (by omega)))
  | n + 1, h6, ht, h => ok_app (ok_allQ hl hc hz a0 a1 t0 t6 hb n (by omega) (by omega) (fun j hj => h j (by omega))) (fun f hf => by
      rcases List.mem_cons.1 hf with rfl | hf
      · exact lt_yes (.lit (n : Int)) (dLen hl) (by omega)
      · exact ok_gQ hl hc a0 a1 (by omega) (h n (by omega)) f hf)

/-! What the book asks. -/
theorem dTh {D : Dn} {a : Value} {x : Int} (h : Dv D a x) (h0 : 0 ≤ x) (h1 : x ≤ 1000000) : Dv D (thDp a) (1000 * x) := by
  have d : Dv D (thDp a) (binN 3 1000 (binN 1 x 0)) := .bin (t := 3) (by decide) (.lit 1000) (.bin (t := 1) (by decide) h (.lit 0))
  rwa [show binN 1 x 0 = x from by show IntKind.i64.wrap (x + 0) = x; rw [Int.add_zero]; exact IntWalk.i64_in _ (by omega), show binN 3 1000 x = 1000 * x from IntWalk.i64_in _ (by omega)] at d
theorem dMl {D : Dn} {a : Value} {x : Int} (h : Dv D a x) : Dv D (mlDp (iD 0) a) 0 := by
  have d : Dv D (mlDp (iD 0) a) (binN 3 0 x) := .bin (t := 3) (by decide) (.lit 0) h
  rwa [show binN 3 0 x = 0 from by show IntKind.i64.wrap (0 * x) = 0; rw [Int.zero_mul]; exact IntWalk.i64_in _ (by omega)] at d
theorem dSb0 {D : Dn} {a b : Value} {x : Int} (ha : Dv D a x) (hb : Dv D b 0) (h : -1000000000000 ≤ x ∧ x ≤ 1000000000000) : Dv D (sbDp a b) x := by
  have d : Dv D (sbDp a b) (binN 2 x 0) := .bin (t := 2) (by decide) ha hb
  rwa [show binN 2 x 0 = x from by show IntKind.i64.wrap (x - 0) = x; rw [Int.sub_zero]; exact IntWalk.i64_in _ (by omega)] at d
theorem dSb {D : Dn} {a b : Value} {x y : Int} (ha : Dv D a x) (hb : Dv D b y) (h : -1000000000000 ≤ x - y ∧ x - y ≤ 1000000000000) : Dv D (sbDp a b) (x - y) := by
  have d : Dv D (sbDp a b) (binN 2 x y) := .bin (t := 2) (by decide) ha hb
  rwa [show binN 2 x y = x - y from IntWalk.i64_in _ (by omega)] at d
theorem dAd0 {D : Dn} {a b : Value} {x : Int} (ha : Dv D a x) (hb : Dv D b 0) (h : -1000000000000 ≤ x ∧ x ≤ 1000000000000) : Dv D (.iface 1 (.tuple #[a, b])) x := by
  have d : Dv D (.iface 1 (.tuple #[a, b])) (binN 1 x 0) := .bin (t := 1) (by decide) ha hb
  rwa [show binN 1 x 0 = x from by show IntKind.i64.wrap (x + 0) = x; rw [Int.add_zero]; exact IntWalk.i64_in _ (by omega)] at d
theorem dFiN {D : Dn} {l : List Value} (h4 : ∀ xs, D.int 104 xs = firstL xs) (hl : ∀ v ∈ l, Dv D v 0) : Dv D (fiDp l) 0 := by
  have d : Dv D (fiDp l) (D.int 104 (l.map fun _ => 0)) := .app (t := 104) (xs := l.map fun _ => 0) (by decide) (by simp) (fun i v x hv hx => by
    rw [List.getElem?_map] at hx
    rw [List.getElem?_toArray] at hv
    rw [hv] at hx
    cases hx
    exact hl v (List.mem_of_getElem? hv))
  rw [h4] at d
  have e : ∀ m : List Value, firstL (m.map fun _ => (0 : Int)) = 0 := by
    intro m
    induction m with
    | nil => rfl
    | cons a m ih => rw [List.map_cons, firstL_cons0 rfl, ih]
  rwa [e] at d
theorem int104 : ∀ xs' : List Int, (DQ s bung dip xs t g).int 104 xs' = firstL xs' := fun xs' => by cases xs' <;> rfl
theorem dNu {a b : Value} {x m : Int} (ha : Dv (DQ s bung dip xs t g) a x) (hb : Dv (DQ s bung dip xs t g) b m) (h0 : 0 ≤ x) (h1 : x ≤ m) : Dv (DQ s bung dip xs t g) (nuDp a b) 0 := by
  have d : Dv (DQ s bung dip xs t g) (nuDp a b) (numE x 0 m) := app3 (t := 103) (by decide) ha (.lit 0) hb
  rwa [numE_yes h0 h1] at d
theorem ok_bookQ (hl : xs.length = N * 3) (hc : CaskOk bung xs N) (a0 : 0 ≤ dip) (a1 : dip ≤ 2 * bung) {i : Nat} (hi : i < 6) (h : OkD bung dip xs N g i) : ∀ f ∈ bookQ N i, OkF (DQ s bung dip xs t g) f := by
  have h0 := dH (s := s) (bung := bung) (dip := dip) (t := t) (g := g) hl (i := i) (j := 0) (by omega)
  obtain ⟨dl, dh⟩ := dLH (s := s) (t := t) hl hc hi h
  obtain ⟨b0, b1, b2, b3, b4⟩ := h.bd hc a0 a1
  have k0 := h.d0
  have k1 := h.d1
  refine ok_app ?_ ?_
  · intro f hf
    simp only [List.mem_cons, List.not_mem_nil, or_false] at hf
    rcases hf with rfl | rfl
    · exact le_yes dl dh (by omega)
    · refine eq_yes (y := 0) (dFiN int104 fun v hv => ?_) (.lit 0) rfl
      simp only [List.mem_cons, List.not_mem_nil, or_false] at hv
      rcases hv with rfl | rfl
      · refine dFiN int104 fun v hv => ?_
        simp only [List.mem_cons, List.not_mem_nil, or_false] at hv
        rcases hv with rfl | rfl | rfl
        · exact .lit 0
        · exact dNu h0 (.lit 100000) k0 (by omega)
        · refine dFiN int104 fun v hv => ?_
          simp only [List.mem_cons, List.not_mem_nil, or_false] at hv
          rcases hv with rfl | rfl | rfl
          · exact dNu dl (.lit 100000) b0 (by omega)
          · exact dNu dh (.lit 100000) (by omega) b4
          · exact .lit 0
      · exact .lit 0
  · cases i with
    | zero => intro f hf; simp at hf
    | succ i => exact ok_one (le_yes (dH hl (i := i) (j := 0) (by omega)) h0 (h.up i rfl))
theorem day_mono {n : Nat} (h : ∀ j, j < n → OkD bung dip xs N g j) : ∀ k i, i + k < n → g (3 * i + 0) ≤ g (3 * (i + k) + 0)
  | 0, i, _ => Int.le_refl _
  | k + 1, i, hk => Int.le_trans (day_mono h k i (by omega)) ((h (i + (k + 1)) hk).up (i + k) rfl)
theorem ok_pairQ (hl : xs.length = N * 3) (hc : CaskOk bung xs N) (a0 : 0 ≤ dip) (a1 : dip ≤ 2 * bung) {n : Nat} (hn : n ≤ 6) (h : ∀ j, j < n → OkD bung dip xs N g j) {i j : Nat} (hij : i < j) (hj : j < n) : ∀ f ∈ pairDp N i j, OkF (DQ s bung dip xs t g) f := by
  have i0 := dH (s := s) (bung := bung) (dip := dip) (t := t) (g := g) hl (i := i) (j := 0) (by omega)
  have j0 := dH (s := s) (bung := bung) (dip := dip) (t := t) (g := g) hl (i := j) (j := 0) (by omega)
  obtain ⟨dl, dh⟩ := dLH (s := s) (t := t) hl hc (by omega) (h i (by omega))
  obtain ⟨el, eh⟩ := dLH (s := s) (t := t) hl hc (by omega) (h j hj)
  obtain ⟨b0, b1, b2, b3, b4⟩ := (h i (by omega)).bd hc a0 a1
  obtain ⟨c0, c1, c2, c3, c4⟩ := (h j hj).bd hc a0 a1
  have k0 := (h i (by omega)).d0
  have k1 := (h i (by omega)).d1
  have l0 := (h j hj).d0
  have l1 := (h j hj).d1
  have mo := day_mono h (j - i) i (by omega)
  rw [show i + (j - i) = j by omega] at mo
  intro f hf
  simp only [pairDp, List.mem_cons, List.not_mem_nil, or_false] at hf
  rcases hf with rfl | rfl
  · exact lt_no (.lit 0) (dSb i0 j0 (by omega)) (by omega)
  · have dd := dSb j0 i0 (by omega)
    have q1 := dSb0 (dTh dh (by omega) (by omega)) (dMl dd) (by omega)
    have q2 := dSb0 (dTh dl (by omega) (by omega)) (dMl dd) (by omega)
    have m1 : Dv (DQ s bung dip xs t g) (.iface 4 (.tuple #[sbDp (thDp (hiDp N i)) (mlDp (iD 0) (sbDp (hDp N j 0) (hDp N i 0))), thDp (hiDp N j)])) (min (1000 * hiN bung xs N g i) (1000 * hiN bung xs N g j)) := .bin (t := 4) (by decide) q1 (dTh eh (by omega) (by omega))
    have m2 : Dv (DQ s bung dip xs t g) (.iface 5 (.tuple #[sbDp (thDp (loDp N i)) (mlDp (iD 0) (sbDp (hDp N j 0) (hDp N i 0))), thDp (loDp N j)])) (max (1000 * loN bung xs N g i) (1000 * loN bung xs N g j)) := .bin (t := 5) (by decide) q2 (dTh el (by omega) (by omega))
    exact lt_no m1 m2 (by omega)
theorem ok_pairsQ (hl : xs.length = N * 3) (hc : CaskOk bung xs N) (a0 : 0 ≤ dip) (a1 : dip ≤ 2 * bung) {n : Nat} (hn : n ≤ 6) (h : ∀ j, j < n → OkD bung dip xs N g j) : ∀ k, k ≤ n → ∀ f ∈ pairsDp N k, OkF (DQ s bung dip xs t g) f
  | 0, _ => fun f hf => by simp [pairsDp] at hf
  | k + 1, hk => ok_app (ok_pairsQ hl hc a0 a1 hn h k (by omega)) (fun f hf => by
      obtain ⟨i, hi, hf⟩ := List.mem_flatMap.1 hf
      exact ok_pairQ hl hc a0 a1 hn h (List.mem_range.1 hi) (by omega) f hf)
/-- how many of them lie not behind the day 500 -/
theorem count_days : ∀ {n : Nat} (h : ∀ j, j < n → OkD bung dip xs N g j), ∃ m, m ≤ n ∧ ∀ i, i < n → (i < m ↔ g (3 * i + 0) ≤ 500)
  | 0, _ => ⟨0, Nat.le_refl _, fun i hi => absurd hi (by omega)⟩
  | n + 1, h => by
    obtain ⟨m, hm, hi⟩ := count_days (n := n) (fun j hj => h j (by omega))
    by_cases hd : g (3 * n + 0) ≤ 500
    · refine ⟨n + 1, Nat.le_refl _, fun i hi' => ⟨fun _ => ?_, fun _ => hi'⟩⟩
      have := day_mono h (n - i) i (by omega)
      rw [show i + (n - i) = n by omega] at this
      omega
    · refine ⟨m, by omega, fun i hi' => ?_⟩
      by_cases e : i = n
      · subst e
        exact ⟨fun h1 => by omega, fun h1 => absurd h1 hd⟩
      · exact hi i (by omega)
theorem dAl (hl : xs.length = N * 3) {m i : Nat} (hi : i < 6) (k0 : 0 ≤ g (3 * i + 0)) (k1 : g (3 * i + 0) ≤ 1000) {a : Value} {x : Int} (ha : Dv (DQ s bung dip xs t g) a x) (x0 : 0 ≤ x) (x1 : x ≤ 1000000) : Dv (DQ s bung dip xs t g) (alDp N m i a) (1000 * x) := by
  have i0 := dH (s := s) (bung := bung) (dip := dip) (t := t) (g := g) hl (i := i) (j := 0) (by omega)
  unfold alDp
  split
  · exact dSb0 (dTh ha x0 x1) (dMl (dSb (.lit 500) i0 (by omega))) (by omega)
  · exact dAd0 (dTh ha x0 x1) (dMl (dSb i0 (.lit 500) (by omega))) (by omega)
theorem dHeLo (hl : xs.length = N * 3) {m : Nat} {A : Int} (f : Nat → Int) : ∀ n, n < 6 → (∀ i, i ≤ n → Dv (DQ s bung dip xs t g) (alDp N m i (loDp N i)) (1000 * f i) ∧ 0 ≤ f i ∧ f i ≤ A ∧ f i ≤ 1000000) → ∃ z, Dv (DQ s bung dip xs t g) (heLo N m (n + 1)) (1000 * z) ∧ 0 ≤ z ∧ z ≤ A ∧ z ≤ 1000000
  | 0, _, h => by
    obtain ⟨d, x0, x1, x2⟩ := h 0 (Nat.le_refl _)
    refine ⟨f 0, ?_, x0, x1, x2⟩
    have e : Dv (DQ s bung dip xs t g) (heLo N m (0 + 1)) (max (-9223372036854775808) (1000 * f 0)) := .bin (t := 5) (by decide) (.lit _) d
    rwa [show max (-9223372036854775808) (1000 * f 0) = 1000 * f 0 by omega] at e
  | n + 1, hn, h => by
    obtain ⟨d, x0, x1, x2⟩ := h (n + 1) (Nat.le_refl _)
    obtain ⟨z, dz, z0, z1, z2⟩ := dHeLo hl f n (by omega) (fun i hi => h i (by omega))
    refine ⟨max z (f (n + 1)), ?_, by omega, by omega, by omega⟩
    have e : Dv (DQ s bung dip xs t g) (heLo N m (n + 1 + 1)) (max (1000 * z) (1000 * f (n + 1))) := .bin (t := 5) (by decide) dz d
    rwa [show max (1000 * z) (1000 * f (n + 1)) = 1000 * max z (f (n + 1)) by omega] at e
theorem dHeHi (hl : xs.length = N * 3) {m : Nat} {A : Int} (f : Nat → Int) : ∀ n, n < 6 → (∀ i, i ≤ n → Dv (DQ s bung dip xs t g) (alDp N m i (hiDp N i)) (1000 * f i) ∧ 0 ≤ f i ∧ A ≤ f i ∧ f i ≤ 1000000) → ∃ z, Dv (DQ s bung dip xs t g) (heHi N m (n + 1)) (1000 * z) ∧ 0 ≤ z ∧ A ≤ z ∧ z ≤ 1000000
  | 0, _, h => by
    obtain ⟨d, x0, x1, x2⟩ := h 0 (Nat.le_refl _)
    refine ⟨f 0, ?_, x0, x1, x2⟩
    have e : Dv (DQ s bung dip xs t g) (heHi N m (0 + 1)) (min 9223372036854775807 (1000 * f 0)) := .bin (t := 4) (by decide) (.lit _) d
    rwa [show min 9223372036854775807 (1000 * f 0) = 1000 * f 0 by omega] at e
  | n + 1, hn, h => by
    obtain ⟨d, x0, x1, x2⟩ := h (n + 1) (Nat.le_refl _)
    obtain ⟨z, dz, z0, z1, z2⟩ := dHeHi hl f n (by omega) (fun i hi => h i (by omega))
    refine ⟨min z (f (n + 1)), ?_, by omega, by omega, by omega⟩
    have e : Dv (DQ s bung dip xs t g) (heHi N m (n + 1 + 1)) (min (1000 * z) (1000 * f (n + 1))) := .bin (t := 4) (by decide) dz d
    rwa [show min (1000 * z) (1000 * f (n + 1)) = 1000 * min z (f (n + 1)) by omega] at e
theorem ok_endQ (hl : xs.length = N * 3) (hc : CaskOk bung xs N) (a0 : 0 ≤ dip) (a1 : dip ≤ 2 * bung) {n m : Nat} (hn : n < 6) (ht : ((n + 1 : Nat) : Int) = t) (h : ∀ j, j < n + 1 → OkD bung dip xs N g j) (hm : ∀ i, i < n + 1 → (i < m ↔ g (3 * i + 0) ≤ 500)) : ∀ f ∈ endQ N (n + 1) m, OkF (DQ s bung dip xs t g) f := by
  refine ok_app ?_ (ok_app ?_ (ok_app (ok_pairsQ hl hc a0 a1 (by omega) h (n + 1) (Nat.le_refl _)) (ok_app ?_ ?_)))
  · intro f hf
    simp only [List.mem_cons, List.not_mem_nil, or_false] at hf
    rcases hf with rfl | rfl | rfl
    · exact lt_no (.lit ((n + 1 : Nat) : Int)) (dLen hl) (by omega)
    · exact eq_yes (y := 0) (dFiN int104 fun v hv => by simp only [List.mem_cons, List.not_mem_nil, or_false, or_self] at hv; subst hv; exact .lit 0) (.lit 0) rfl
    · exact eq_yes (y := 0) (dFiN int104 fun v hv => by simp only [List.mem_cons, List.not_mem_nil, or_false, or_self] at hv; subst hv; exact .lit 0) (.lit 0) rfl
  · intro f hf
    obtain ⟨i, hi, hf⟩ := List.mem_flatMap.1 hf
    have hi := List.mem_range.1 hi
    exact ok_bookQ hl hc a0 a1 (by omega) (h i hi) f hf
  · intro f hf
    obtain ⟨i, hi, hf⟩ := List.mem_map.1 hf
    have hi := List.mem_range.1 hi
    subst hf
    have i0 := dH (s := s) (bung := bung) (dip := dip) (t := t) (g := g) hl (i := i) (j := 0) (by omega)
    have k0 := (h i hi).d0
    have k1 := (h i hi).d1
    have dd := dSb i0 (.lit 500) (by omega)
    unfold atDp
    by_cases hlt : i < m
    · rw [show Nat.blt i m = true from by rw [Nat.blt_eq]; exact hlt]
      exact lt_no (.lit 0) dd (by have := (hm i hi).1 hlt; omega)
    · rw [show Nat.blt i m = false from Bool.eq_false_iff.2 (fun e => hlt (by rwa [Nat.blt_eq] at e))]
      exact lt_yes (.lit 0) dd (by have h5 : ¬ g (3 * i + 0) ≤ 500 := (fun e => hlt ((hm i hi).2 e)); omega)
  · have ow := dOwn (s := s) (t := t) (g := g) hl hc a0 a1
    have bd := (h 0 (by omega)).bd hc a0 a1
    obtain ⟨z, dz, z0, z1, z2⟩ := dHeLo (s := s) (bung := bung) (dip := dip) (t := t) (g := g) (m := m) (A := vLo bung xs N dip) hl (fun i => loN bung xs N g i) n hn (fun i hi => by
      have hI := h i (by omega)
      obtain ⟨b0, b1, b2, b3, b4⟩ := hI.bd hc a0 a1
      exact ⟨dAl hl (by omega) hI.d0 hI.d1 (dLH hl hc (by omega) hI).1 b0 (by omega), b0, b1, by omega⟩)
    obtain ⟨y, dy, y0, y1, y2⟩ := dHeHi (s := s) (bung := bung) (dip := dip) (t := t) (g := g) (m := m) (A := vHi bung xs N dip) hl (fun i => hiN bung xs N g i) n hn (fun i hi => by
      have hI := h i (by omega)
      obtain ⟨b0, b1, b2, b3, b4⟩ := hI.bd hc a0 a1
      exact ⟨dAl hl (by omega) hI.d0 hI.d1 (dLH hl hc (by omega) hI).2 (by omega) (by omega), by omega, b3, by omega⟩)
    have q1 : Dv (DQ s bung dip xs t g) (.iface 108 (.tuple #[heLo N m (n + 1)])) (floorM (1000 * z)) := app1 (t := 108) (by decide) dz
    have q2 : Dv (DQ s bung dip xs t g) (.iface 109 (.tuple #[heHi N m (n + 1)])) (ceilM (1000 * y)) := app1 (t := 109) (by decide) dy
    rw [floorM_mul (by omega)] at q1
    rw [ceilM_mul (by omega)] at q2
    intro f hf
    simp only [lastDp, List.mem_cons, List.not_mem_nil, or_false] at hf
    rcases hf with rfl | rfl
    · exact le_yes q1 ow.1 z1
    · exact le_yes ow.2 q2 y1

/-! What is known of calls. -/
theorem nameD1 (hn : nameB s = true) (w : World) : Calls Try.prog 46 #[.string s] w fun e w' => e = .returned (.bool true) ∧ Below w.heap.size w w' := by
  have := still_call (isName_any s w)
  rwa [hn] at this
theorem nameD2 (hn : nameB s = true) (w : World) : Calls Try.prog 25 #[.string s] w fun e w' => e = .returned (.bool true) ∧ Below w.heap.size w w' := by
  have := still_call (isNameR_any s w)
  rwa [hn] at this
theorem okQ0 {l ok} (hs : smallB s N bung = true) (hl : xs.length = N * 3) (hc : CaskOk bung xs N) (hz : (caskS s bung xs).2 = 0) (a0 : 0 ≤ dip) (a1 : dip ≤ 2 * bung) : CallOk (pgDp s bung dip (zsD xs t g) l ok) (spQ0 N) := by
  have hn := name_ok hl hz
  have hcz : CaskOk bung (zsD xs t g) N := CaskOk.ag (agD hl) hc
  have h8 := hc.hi
  have h10 := hc.lo
  exact ok_spOr (ok_spTrue awakeD) (ok_spOr (ok_spSmall rfl rfl hs) (ok_spOr (ok_spCaskR rfl rfl (isName0_rel rfl rfl)) (ok_spOr (ok_spNm rfl rfl rfl (nameD1 hn)) (ok_spOr (ok_spNm rfl rfl rfl (nameD2 hn)) (ok_spOr (ok_spRg rfl) (ok_spOr (ok_spDt rfl) (ok_spOr (ok_spNum (ok_numsM rfl rfl)) (ok_spOr (ok_spNum (ok_numsD rfl rfl)) (ok_spOr (ok_spList (ok_listG rfl rfl)) (ok_spOr (ok_spCask rfl rfl (isName0_rel rfl rfl)) (ok_spOr (ok_spAreas rfl rfl (radii_ok hcz)) (ok_spUp rfl rfl (dLvA hcz a0 a1) (by omega) (by omega)))))))))))))
theorem okFDl {l ok} (hN : N = 2 ∨ N = 3 ∨ N = 4) (hl : xs.length = N * 3) (hz : (caskS s bung xs).2 = 0) : ∀ n, n ≤ 6 → (∀ j, j < n → OkD bung dip xs N g j) → CallOk (pgDp s bung dip (zsD xs t g) l ok) (spFDl N n)
  | 0, _, _ => ok_spNone
  | n + 1, h6, h => ok_spOr (ok_spFD rfl rfl hN hl (agD hl) hz (dH hl (j := 0) (by omega)) (dH hl (j := 1) (by omega)) (dH hl (j := 2) (by omega)) (h n (by omega)).d0 (by have := (h n (by omega)).d1; omega) (h n (by omega)).p0 (h n (by omega)).p1 (h n (by omega)).w0 (h n (by omega)).w1 (decide_eq_false (by have := (h n (by omega)).sm; omega)))
      (okFDl hN hl hz n (by omega) (fun j hj => h j (by omega)))
end
section
variable (s : ByteArray) (bung dip : Int) (zs : List Int) {N i k n m : Nat}
theorem eQ_run (hN : N = 2 ∨ N = 3 ∨ N = 4) (hi : i < 6) (hk : k < if i = 0 then 8 else 9) (ok) : fstO (evDS (pgDp s bung dip zs (eQ N i k) ok) (spQ N i) 2000 60 (.fn 3) (argsDp N (i + 1)) (hpDp N (i + 1)) 2) = some (.bool true) := by
  rcases hN with rfl | rfl | rfl
  · obtain rfl | rfl | rfl | rfl | rfl | rfl : i = 0 ∨ i = 1 ∨ i = 2 ∨ i = 3 ∨ i = 4 ∨ i = 5 := by omega
    · replace hk : k < 8 := hk
      obtain rfl | rfl | rfl | rfl | rfl | rfl | rfl | rfl : k = 0 ∨ k = 1 ∨ k = 2 ∨ k = 3 ∨ k = 4 ∨ k = 5 ∨ k = 6 ∨ k = 7 := by omega
      · exact eQ2_0_0 s bung dip zs ok
      · exact eQ2_0_1 s bung dip zs ok
      · exact eQ2_0_2 s bung dip zs ok
      · exact eQ2_0_3 s bung dip zs ok
      · exact eQ2_0_4 s bung dip zs ok
      · exact eQ2_0_5 s bung dip zs ok
      · exact eQ2_0_6 s bung dip zs ok
      · exact eQ2_0_7 s bung dip zs ok
    · replace hk : k < 9 := hk
      obtain rfl | rfl | rfl | rfl | rfl | rfl | rfl | rfl | rfl : k = 0 ∨ k = 1 ∨ k = 2 ∨ k = 3 ∨ k = 4 ∨ k = 5 ∨ k = 6 ∨ k = 7 ∨ k = 8 := by omega
      · exact eQ2_1_0 s bung dip zs ok
      · exact eQ2_1_1 s bung dip zs ok
      · exact eQ2_1_2 s bung dip zs ok
      · exact eQ2_1_3 s bung dip zs ok
      · exact eQ2_1_4 s bung dip zs ok
      · exact eQ2_1_5 s bung dip zs ok
      · exact eQ2_1_6 s bung dip zs ok
      · exact eQ2_1_7 s bung dip zs ok
      · exact eQ2_1_8 s bung dip zs ok
    · replace hk : k < 9 := hk
      obtain rfl | rfl | rfl | rfl | rfl | rfl | rfl | rfl | rfl : k = 0 ∨ k = 1 ∨ k = 2 ∨ k = 3 ∨ k = 4 ∨ k = 5 ∨ k = 6 ∨ k = 7 ∨ k = 8 := by omega
      · exact eQ2_2_0 s bung dip zs ok
      · exact eQ2_2_1 s bung dip zs ok
      · exact eQ2_2_2 s bung dip zs ok
      · exact eQ2_2_3 s bung dip zs ok
      · exact eQ2_2_4 s bung dip zs ok
      · exact eQ2_2_5 s bung dip zs ok
      · exact eQ2_2_6 s bung dip zs ok
      · exact eQ2_2_7 s bung dip zs ok
      · exact eQ2_2_8 s bung dip zs ok
    · replace hk : k < 9 := hk
      obtain rfl | rfl | rfl | rfl | rfl | rfl | rfl | rfl | rfl : k = 0 ∨ k = 1 ∨ k = 2 ∨ k = 3 ∨ k = 4 ∨ k = 5 ∨ k = 6 ∨ k = 7 ∨ k = 8 := by omega
      · exact eQ2_3_0 s bung dip zs ok
      · exact eQ2_3_1 s bung dip zs ok
      · exact eQ2_3_2 s bung dip zs ok
      · exact eQ2_3_3 s bung dip zs ok
      · exact eQ2_3_4 s bung dip zs ok
      · exact eQ2_3_5 s bung dip zs ok
      · exact eQ2_3_6 s bung dip zs ok
      · exact eQ2_3_7 s bung dip zs ok
      · exact eQ2_3_8 s bung dip zs ok
    · replace hk : k < 9 := hk
      obtain rfl | rfl | rfl | rfl | rfl | rfl | rfl | rfl | rfl : k = 0 ∨ k = 1 ∨ k = 2 ∨ k = 3 ∨ k = 4 ∨ k = 5 ∨ k = 6 ∨ k = 7 ∨ k = 8 := by omega
      · exact eQ2_4_0 s bung dip zs ok
      · exact eQ2_4_1 s bung dip zs ok
      · exact eQ2_4_2 s bung dip zs ok
      · exact eQ2_4_3 s bung dip zs ok
      · exact eQ2_4_4 s bung dip zs ok
      · exact eQ2_4_5 s bung dip zs ok
      · exact eQ2_4_6 s bung dip zs ok
      · exact eQ2_4_7 s bung dip zs ok
      · exact eQ2_4_8 s bung dip zs ok
    · replace hk : k < 9 := hk
      obtain rfl | rfl | rfl | rfl | rfl | rfl | rfl | rfl | rfl : k = 0 ∨ k = 1 ∨ k = 2 ∨ k = 3 ∨ k = 4 ∨ k = 5 ∨ k = 6 ∨ k = 7 ∨ k = 8 := by omega
      · exact eQ2_5_0 s bung dip zs ok
      · exact eQ2_5_1 s bung dip zs ok
      · exact eQ2_5_2 s bung dip zs ok
      · exact eQ2_5_3 s bung dip zs ok
      · exact eQ2_5_4 s bung dip zs ok
      · exact eQ2_5_5 s bung dip zs ok
      · exact eQ2_5_6 s bung dip zs ok
      · exact eQ2_5_7 s bung dip zs ok
      · exact eQ2_5_8 s bung dip zs ok
  · obtain rfl | rfl | rfl | rfl | rfl | rfl : i = 0 ∨ i = 1 ∨ i = 2 ∨ i = 3 ∨ i = 4 ∨ i = 5 := by omega
    · replace hk : k < 8 := hk
      obtain rfl | rfl | rfl | rfl | rfl | rfl | rfl | rfl : k = 0 ∨ k = 1 ∨ k = 2 ∨ k = 3 ∨ k = 4 ∨ k = 5 ∨ k = 6 ∨ k = 7 := by omega
      · exact eQ3_0_0 s bung dip zs ok
      · exact eQ3_0_1 s bung dip zs ok
      · exact eQ3_0_2 s bung dip zs ok
      · exact eQ3_0_3 s bung dip zs ok
      · exact eQ3_0_4 s bung dip zs ok
      · exact eQ3_0_5 s bung dip zs ok
      · exact eQ3_0_6 s bung dip zs ok
      · exact eQ3_0_7 s bung dip zs ok
    · replace hk : k < 9 := hk
      obtain rfl | rfl | rfl | rfl | rfl | rfl | rfl | rfl | rfl : k = 0 ∨ k = 1 ∨ k = 2 ∨ k = 3 ∨ k = 4 ∨ k = 5 ∨ k = 6 ∨ k = 7 ∨ k = 8 := by omega
      · exact eQ3_1_0 s bung dip zs ok
      · exact eQ3_1_1 s bung dip zs ok
      · exact eQ3_1_2 s bung dip zs ok
      · exact eQ3_1_3 s bung dip zs ok
      · exact eQ3_1_4 s bung dip zs ok
      · exact eQ3_1_5 s bung dip zs ok
      · exact eQ3_1_6 s bung dip zs ok
      · exact eQ3_1_7 s bung dip zs ok
      · exact eQ3_1_8 s bung dip zs ok
    · replace hk : k < 9 := hk
      obtain rfl | rfl | rfl | rfl | rfl | rfl | rfl | rfl | rfl : k = 0 ∨ k = 1 ∨ k = 2 ∨ k = 3 ∨ k = 4 ∨ k = 5 ∨ k = 6 ∨ k = 7 ∨ k = 8 := by omega
      · exact eQ3_2_0 s bung dip zs ok
      · exact eQ3_2_1 s bung dip zs ok
      · exact eQ3_2_2 s bung dip zs ok
      · exact eQ3_2_3 s bung dip zs ok
      · exact eQ3_2_4 s bung dip zs ok
      · exact eQ3_2_5 s bung dip zs ok
      · exact eQ3_2_6 s bung dip zs ok
      · exact eQ3_2_7 s bung dip zs ok
      · exact eQ3_2_8 s bung dip zs ok
    · replace hk : k < 9 := hk
      obtain rfl | rfl | rfl | rfl | rfl | rfl | rfl | rfl | rfl : k = 0 ∨ k = 1 ∨ k = 2 ∨ k = 3 ∨ k = 4 ∨ k = 5 ∨ k = 6 ∨ k = 7 ∨ k = 8 := by omega
      · exact eQ3_3_0 s bung dip zs ok
      · exact eQ3_3_1 s bung dip zs ok
      · exact eQ3_3_2 s bung dip zs ok
      · exact eQ3_3_3 s bung dip zs ok
      · exact eQ3_3_4 s bung dip zs ok
      · exact eQ3_3_5 s bung dip zs ok
      · exact eQ3_3_6 s bung dip zs ok
      · exact eQ3_3_7 s bung dip zs ok
      · exact eQ3_3_8 s bung dip zs ok
    · replace hk : k < 9 := hk
      obtain rfl | rfl | rfl | rfl | rfl | rfl | rfl | rfl | rfl : k = 0 ∨ k = 1 ∨ k = 2 ∨ k = 3 ∨ k = 4 ∨ k = 5 ∨ k = 6 ∨ k = 7 ∨ k = 8 := by omega
      · exact eQ3_4_0 s bung dip zs ok
      · exact eQ3_4_1 s bung dip zs ok
      · exact eQ3_4_2 s bung dip zs ok
      · exact eQ3_4_3 s bung dip zs ok
      · exact eQ3_4_4 s bung dip zs ok
      · exact eQ3_4_5 s bung dip zs ok
      · exact eQ3_4_6 s bung dip zs ok
      · exact eQ3_4_7 s bung dip zs ok
      · exact eQ3_4_8 s bung dip zs ok
    · replace hk : k < 9 := hk
      obtain rfl | rfl | rfl | rfl | rfl | rfl | rfl | rfl | rfl : k = 0 ∨ k = 1 ∨ k = 2 ∨ k = 3 ∨ k = 4 ∨ k = 5 ∨ k = 6 ∨ k = 7 ∨ k = 8 := by omega
      · exact eQ3_5_0 s bung dip zs ok
      · exact eQ3_5_1 s bung dip zs ok
      · exact eQ3_5_2 s bung dip zs ok
      · exact eQ3_5_3 s bung dip zs ok
      · exact eQ3_5_4 s bung dip zs ok
      · exact eQ3_5_5 s bung dip zs ok
      · exact eQ3_5_6 s bung dip zs ok
      · exact eQ3_5_7 s bung dip zs ok
      · exact eQ3_5_8 s bung dip zs ok
  · obtain rfl | rfl | rfl | rfl | rfl | rfl : i = 0 ∨ i = 1 ∨ i = 2 ∨ i = 3 ∨ i = 4 ∨ i = 5 := by omega
    · replace hk : k < 8 := hk
      obtain rfl | rfl | rfl | rfl | rfl | rfl | rfl | rfl : k = 0 ∨ k = 1 ∨ k = 2 ∨ k = 3 ∨ k = 4 ∨ k = 5 ∨ k = 6 ∨ k = 7 := by omega
      · exact eQ4_0_0 s bung dip zs ok
      · exact eQ4_0_1 s bung dip zs ok
      · exact eQ4_0_2 s bung dip zs ok
      · exact eQ4_0_3 s bung dip zs ok
      · exact eQ4_0_4 s bung dip zs ok
      · exact eQ4_0_5 s bung dip zs ok
      · exact eQ4_0_6 s bung dip zs ok
      · exact eQ4_0_7 s bung dip zs ok
    · replace hk : k < 9 := hk
      obtain rfl | rfl | rfl | rfl | rfl | rfl | rfl | rfl | rfl : k = 0 ∨ k = 1 ∨ k = 2 ∨ k = 3 ∨ k = 4 ∨ k = 5 ∨ k = 6 ∨ k = 7 ∨ k = 8 := by omega
      · exact eQ4_1_0 s bung dip zs ok
      · exact eQ4_1_1 s bung dip zs ok
      · exact eQ4_1_2 s bung dip zs ok
      · exact eQ4_1_3 s bung dip zs ok
      · exact eQ4_1_4 s bung dip zs ok
      · exact eQ4_1_5 s bung dip zs ok
      · exact eQ4_1_6 s bung dip zs ok
      · exact eQ4_1_7 s bung dip zs ok
      · exact eQ4_1_8 s bung dip zs ok
    · replace hk : k < 9 := hk
      obtain rfl | rfl | rfl | rfl | rfl | rfl | rfl | rfl | rfl : k = 0 ∨ k = 1 ∨ k = 2 ∨ k = 3 ∨ k = 4 ∨ k = 5 ∨ k = 6 ∨ k = 7 ∨ k = 8 := by omega
      · exact eQ4_2_0 s bung dip zs ok
      · exact eQ4_2_1 s bung dip zs ok
      · exact eQ4_2_2 s bung dip zs ok
      · exact eQ4_2_3 s bung dip zs ok
      · exact eQ4_2_4 s bung dip zs ok
      · exact eQ4_2_5 s bung dip zs ok
      · exact eQ4_2_6 s bung dip zs ok
      · exact eQ4_2_7 s bung dip zs ok
      · exact eQ4_2_8 s bung dip zs ok
    · replace hk : k < 9 := hk
      obtain rfl | rfl | rfl | rfl | rfl | rfl | rfl | rfl | rfl : k = 0 ∨ k = 1 ∨ k = 2 ∨ k = 3 ∨ k = 4 ∨ k = 5 ∨ k = 6 ∨ k = 7 ∨ k = 8 := by omega
      · exact eQ4_3_0 s bung dip zs ok
      · exact eQ4_3_1 s bung dip zs ok
      · exact eQ4_3_2 s bung dip zs ok
      · exact eQ4_3_3 s bung dip zs ok
      · exact eQ4_3_4 s bung dip zs ok
      · exact eQ4_3_5 s bung dip zs ok
      · exact eQ4_3_6 s bung dip zs ok
      · exact eQ4_3_7 s bung dip zs ok
      · exact eQ4_3_8 s bung dip zs ok
    · replace hk : k < 9 := hk
      obtain rfl | rfl | rfl | rfl | rfl | rfl | rfl | rfl | rfl : k = 0 ∨ k = 1 ∨ k = 2 ∨ k = 3 ∨ k = 4 ∨ k = 5 ∨ k = 6 ∨ k = 7 ∨ k = 8 := by omega
      · exact eQ4_4_0 s bung dip zs ok
      · exact eQ4_4_1 s bung dip zs ok
      · exact eQ4_4_2 s bung dip zs ok
      · exact eQ4_4_3 s bung dip zs ok
      · exact eQ4_4_4 s bung dip zs ok
      · exact eQ4_4_5 s bung dip zs ok
      · exact eQ4_4_6 s bung dip zs ok
      · exact eQ4_4_7 s bung dip zs ok
      · exact eQ4_4_8 s bung dip zs ok
    · replace hk : k < 9 := hk
      obtain rfl | rfl | rfl | rfl | rfl | rfl | rfl | rfl | rfl : k = 0 ∨ k = 1 ∨ k = 2 ∨ k = 3 ∨ k = 4 ∨ k = 5 ∨ k = 6 ∨ k = 7 ∨ k = 8 := by omega
      · exact eQ4_5_0 s bung dip zs ok
      · exact eQ4_5_1 s bung dip zs ok
      · exact eQ4_5_2 s bung dip zs ok
      · exact eQ4_5_3 s bung dip zs ok
      · exact eQ4_5_4 s bung dip zs ok
      · exact eQ4_5_5 s bung dip zs ok
      · exact eQ4_5_6 s bung dip zs ok
      · exact eQ4_5_7 s bung dip zs ok
      · exact eQ4_5_8 s bung dip zs ok
theorem eQ_last (hN : N = 2 ∨ N = 3 ∨ N = 4) (hi : i < 6) (hk : k = if i = 0 then 8 else 9) (ok) : fstO (evDS (pgDp s bung dip zs (eQ N i k) ok) (spQB N i) 2000 60 (.fn 3) (argsDp N (i + 1)) (hpDp N (i + 1)) 2) = some (.bool true) := by
  subst hk
  rcases hN with rfl | rfl | rfl
  · obtain rfl | rfl | rfl | rfl | rfl | rfl : i = 0 ∨ i = 1 ∨ i = 2 ∨ i = 3 ∨ i = 4 ∨ i = 5 := by omega
    · exact eQ2_0_8 s bung dip zs ok
    · exact eQ2_1_9 s bung dip zs ok
    · exact eQ2_2_9 s bung dip zs ok
    · exact eQ2_3_9 s bung dip zs ok
    · exact eQ2_4_9 s bung dip zs ok
    · exact eQ2_5_9 s bung dip zs ok
  · obtain rfl | rfl | rfl | rfl | rfl | rfl : i = 0 ∨ i = 1 ∨ i = 2 ∨ i = 3 ∨ i = 4 ∨ i = 5 := by omega
    · exact eQ3_0_8 s bung dip zs ok
    · exact eQ3_1_9 s bung dip zs ok
    · exact eQ3_2_9 s bung dip zs ok
    · exact eQ3_3_9 s bung dip zs ok
    · exact eQ3_4_9 s bung dip zs ok
    · exact eQ3_5_9 s bung dip zs ok
  · obtain rfl | rfl | rfl | rfl | rfl | rfl : i = 0 ∨ i = 1 ∨ i = 2 ∨ i = 3 ∨ i = 4 ∨ i = 5 := by omega
    · exact eQ4_0_8 s bung dip zs ok
    · exact eQ4_1_9 s bung dip zs ok
    · exact eQ4_2_9 s bung dip zs ok
    · exact eQ4_3_9 s bung dip zs ok
    · exact eQ4_4_9 s bung dip zs ok
    · exact eQ4_5_9 s bung dip zs ok
theorem wQ_run (hN : N = 2 ∨ N = 3 ∨ N = 4) (hn : n < 6) (hm : m ≤ n + 1) (ok) : fstO (evDS (pgDp s bung dip zs (allQ N (n + 1) ++ endQ N (n + 1) m) ok) (spQ N (n + 1)) 2000 60 (.fn 3) (argsDp N (n + 1)) (hpDp N (n + 1)) 2) = some (.bool true) := by
  rcases hN with rfl | rfl | rfl
  · obtain rfl | rfl | rfl | rfl | rfl | rfl : n = 0 ∨ n = 1 ∨ n = 2 ∨ n = 3 ∨ n = 4 ∨ n = 5 := by omega
    · obtain rfl | rfl : m = 0 ∨ m = 1 := by omega
      · exact wQ2_1_0 s bung dip zs ok
      · exact wQ2_1_1 s bung dip zs ok
    · obtain rfl | rfl | rfl : m = 0 ∨ m = 1 ∨ m = 2 := by omega
      · exact wQ2_2_0 s bung dip zs ok
      · exact wQ2_2_1 s bung dip zs ok
      · exact wQ2_2_2 s bung dip zs ok
    · obtain rfl | rfl | rfl | rfl : m = 0 ∨ m = 1 ∨ m = 2 ∨ m = 3 := by omega
      · exact wQ2_3_0 s bung dip zs ok
      · exact wQ2_3_1 s bung dip zs ok
      · exact wQ2_3_2 s bung dip zs ok
      · exact wQ2_3_3 s bung dip zs ok
    · obtain rfl | rfl | rfl | rfl | rfl : m = 0 ∨ m = 1 ∨ m = 2 ∨ m = 3 ∨ m = 4 := by omega
      · exact wQ2_4_0 s bung dip zs ok
      · exact wQ2_4_1 s bung dip zs ok
      · exact wQ2_4_2 s bung dip zs ok
      · exact wQ2_4_3 s bung dip zs ok
      · exact wQ2_4_4 s bung dip zs ok
    · obtain rfl | rfl | rfl | rfl | rfl | rfl : m = 0 ∨ m = 1 ∨ m = 2 ∨ m = 3 ∨ m = 4 ∨ m = 5 := by omega
      · exact wQ2_5_0 s bung dip zs ok
      · exact wQ2_5_1 s bung dip zs ok
      · exact wQ2_5_2 s bung dip zs ok
      · exact wQ2_5_3 s bung dip zs ok
      · exact wQ2_5_4 s bung dip zs ok
      · exact wQ2_5_5 s bung dip zs ok
    · obtain rfl | rfl | rfl | rfl | rfl | rfl | rfl : m = 0 ∨ m = 1 ∨ m = 2 ∨ m = 3 ∨ m = 4 ∨ m = 5 ∨ m = 6 := by omega
      · exact wQ2_6_0 s bung dip zs ok
      · exact wQ2_6_1 s bung dip zs ok
      · exact wQ2_6_2 s bung dip zs ok
      · exact wQ2_6_3 s bung dip zs ok
      · exact wQ2_6_4 s bung dip zs ok
      · exact wQ2_6_5 s bung dip zs ok
      · exact wQ2_6_6 s bung dip zs ok
  · obtain rfl | rfl | rfl | rfl | rfl | rfl : n = 0 ∨ n = 1 ∨ n = 2 ∨ n = 3 ∨ n = 4 ∨ n = 5 := by omega
    · obtain rfl | rfl : m = 0 ∨ m = 1 := by omega
      · exact wQ3_1_0 s bung dip zs ok
      · exact wQ3_1_1 s bung dip zs ok
    · obtain rfl | rfl | rfl : m = 0 ∨ m = 1 ∨ m = 2 := by omega
      · exact wQ3_2_0 s bung dip zs ok
      · exact wQ3_2_1 s bung dip zs ok
      · exact wQ3_2_2 s bung dip zs ok
    · obtain rfl | rfl | rfl | rfl : m = 0 ∨ m = 1 ∨ m = 2 ∨ m = 3 := by omega
      · exact wQ3_3_0 s bung dip zs ok
      · exact wQ3_3_1 s bung dip zs ok
      · exact wQ3_3_2 s bung dip zs ok
      · exact wQ3_3_3 s bung dip zs ok
    · obtain rfl | rfl | rfl | rfl | rfl : m = 0 ∨ m = 1 ∨ m = 2 ∨ m = 3 ∨ m = 4 := by omega
      · exact wQ3_4_0 s bung dip zs ok
      · exact wQ3_4_1 s bung dip zs ok
      · exact wQ3_4_2 s bung dip zs ok
      · exact wQ3_4_3 s bung dip zs ok
      · exact wQ3_4_4 s bung dip zs ok
    · obtain rfl | rfl | rfl | rfl | rfl | rfl : m = 0 ∨ m = 1 ∨ m = 2 ∨ m = 3 ∨ m = 4 ∨ m = 5 := by omega
      · exact wQ3_5_0 s bung dip zs ok
      · exact wQ3_5_1 s bung dip zs ok
      · exact wQ3_5_2 s bung dip zs ok
      · exact wQ3_5_3 s bung dip zs ok
      · exact wQ3_5_4 s bung dip zs ok
      · exact wQ3_5_5 s bung dip zs ok
    · obtain rfl | rfl | rfl | rfl | rfl | rfl | rfl : m = 0 ∨ m = 1 ∨ m = 2 ∨ m = 3 ∨ m = 4 ∨ m = 5 ∨ m = 6 := by omega
      · exact wQ3_6_0 s bung dip zs ok
      · exact wQ3_6_1 s bung dip zs ok
      · exact wQ3_6_2 s bung dip zs ok
      · exact wQ3_6_3 s bung dip zs ok
      · exact wQ3_6_4 s bung dip zs ok
      · exact wQ3_6_5 s bung dip zs ok
      · exact wQ3_6_6 s bung dip zs ok
  · obtain rfl | rfl | rfl | rfl | rfl | rfl : n = 0 ∨ n = 1 ∨ n = 2 ∨ n = 3 ∨ n = 4 ∨ n = 5 := by omega
    · obtain rfl | rfl : m = 0 ∨ m = 1 := by omega
      · exact wQ4_1_0 s bung dip zs ok
      · exact wQ4_1_1 s bung dip zs ok
    · obtain rfl | rfl | rfl : m = 0 ∨ m = 1 ∨ m = 2 := by omega
      · exact wQ4_2_0 s bung dip zs ok
      · exact wQ4_2_1 s bung dip zs ok
      · exact wQ4_2_2 s bung dip zs ok
    · obtain rfl | rfl | rfl | rfl : m = 0 ∨ m = 1 ∨ m = 2 ∨ m = 3 := by omega
      · exact wQ4_3_0 s bung dip zs ok
      · exact wQ4_3_1 s bung dip zs ok
      · exact wQ4_3_2 s bung dip zs ok
      · exact wQ4_3_3 s bung dip zs ok
    · obtain rfl | rfl | rfl | rfl | rfl : m = 0 ∨ m = 1 ∨ m = 2 ∨ m = 3 ∨ m = 4 := by omega
      · exact wQ4_4_0 s bung dip zs ok
      · exact wQ4_4_1 s bung dip zs ok
      · exact wQ4_4_2 s bung dip zs ok
      · exact wQ4_4_3 s bung dip zs ok
      · exact wQ4_4_4 s bung dip zs ok
    · obtain rfl | rfl | rfl | rfl | rfl | rfl : m = 0 ∨ m = 1 ∨ m = 2 ∨ m = 3 ∨ m = 4 ∨ m = 5 := by omega
      · exact wQ4_5_0 s bung dip zs ok
      · exact wQ4_5_1 s bung dip zs ok
      · exact wQ4_5_2 s bung dip zs ok
      · exact wQ4_5_3 s bung dip zs ok
      · exact wQ4_5_4 s bung dip zs ok
      · exact wQ4_5_5 s bung dip zs ok
    · obtain rfl | rfl | rfl | rfl | rfl | rfl | rfl : m = 0 ∨ m = 1 ∨ m = 2 ∨ m = 3 ∨ m = 4 ∨ m = 5 ∨ m = 6 := by omega
      · exact wQ4_6_0 s bung dip zs ok
      · exact wQ4_6_1 s bung dip zs ok
      · exact wQ4_6_2 s bung dip zs ok
      · exact wQ4_6_3 s bung dip zs ok
      · exact wQ4_6_4 s bung dip zs ok
      · exact wQ4_6_5 s bung dip zs ok
      · exact wQ4_6_6 s bung dip zs ok
theorem wBig_run (hN : N = 2 ∨ N = 3 ∨ N = 4) (ok) : fstO (evDS (pgDp s bung dip zs (g0Q N ++ [negF (bigF N)]) ok) (spQ N 0) 2000 60 (.fn 3) (argsDp N 1) (hpDp N 1) 2) = some (.bool true) := by
  rcases hN with rfl | rfl | rfl
  · exact wBig2 s bung dip zs ok
  · exact wBig3 s bung dip zs ok
  · exact wBig4 s bung dip zs ok
theorem eL_run (v : Value) (hN : N = 2 ∨ N = 3 ∨ N = 4) (hk : k < 5) (ok) : fstO (evDS (pgL s bung dip zs v (eL N k) ok) (spL0 N) 2000 60 (.fn 3) (argsL N) (hpW N) 1) = some (.bool true) := by
  rcases hN with rfl | rfl | rfl
  · obtain rfl | rfl | rfl | rfl | rfl : k = 0 ∨ k = 1 ∨ k = 2 ∨ k = 3 ∨ k = 4 := by omega
    · exact eL2_0 s bung dip zs v ok
    · exact eL2_1 s bung dip zs v ok
    · exact eL2_2 s bung dip zs v ok
    · exact eL2_3 s bung dip zs v ok
    · exact eL2_4 s bung dip zs v ok
  · obtain rfl | rfl | rfl | rfl | rfl : k = 0 ∨ k = 1 ∨ k = 2 ∨ k = 3 ∨ k = 4 := by omega
    · exact eL3_0 s bung dip zs v ok
    · exact eL3_1 s bung dip zs v ok
    · exact eL3_2 s bung dip zs v ok
    · exact eL3_3 s bung dip zs v ok
    · exact eL3_4 s bung dip zs v ok
  · obtain rfl | rfl | rfl | rfl | rfl : k = 0 ∨ k = 1 ∨ k = 2 ∨ k = 3 ∨ k = 4 := by omega
    · exact eL4_0 s bung dip zs v ok
    · exact eL4_1 s bung dip zs v ok
    · exact eL4_2 s bung dip zs v ok
    · exact eL4_3 s bung dip zs v ok
    · exact eL4_4 s bung dip zs v ok
theorem eL_bad (v : Value) (hN : N = 1 ∨ N = 2 ∨ N = 3 ∨ N = 4 ∨ N = 13 ∨ N = 14) (ok) : fstO (evDS (pgL s bung dip zs v (eL N 0) ok) (spL0 N) 2000 60 (.fn 3) (argsL N) (hpW N) 1) = some (.bool true) := by
  rcases hN with rfl | rfl | rfl | rfl | rfl | rfl
  · exact eL1_0 s bung dip zs v ok
  · exact eL2_0 s bung dip zs v ok
  · exact eL3_0 s bung dip zs v ok
  · exact eL4_0 s bung dip zs v ok
  · exact eL13_0 s bung dip zs v ok
  · exact eL14_0 s bung dip zs v ok
end

/-! Runs over both windows, and over the cask's alone. -/
def mpD (g0 o0 g1 o1 : Nat) : Mp := fun id => if id = 0 then some (g0, o0) else if id = 1 then some (g1, o1) else none
theorem hpDp_get {N n : Nat} (id : Nat) (o : AObj) (h : (hpDp N n).get id = some o) : (id = 0 ∧ o = .win (rowV N)) ∨ (id = 1 ∧ o = .win (rowDp N n)) := by
  unfold hpDp at h
  rw [T.get_node] at h
  by_cases h0 : id = 0
  · simp [h0] at h; exact .inl ⟨h0, h.symm⟩
  · simp only [h0, if_false] at h
    split at h
    · rw [T.get_node] at h
      by_cases h1 : id / 2 = 0
      · simp [h1] at h; exact .inr ⟨by omega, h.symm⟩
      · simp [h1, T.get_leaf] at h
    · simp [T.get_leaf] at h
theorem winD {P : Pg} {M : Mp} {gs os : Nat} {xs : List Int} {row : List Value} {w : World} (hl : row.length = xs.length) (hd : ∀ (i : Nat) (v : Value) (x : Int), row[i]? = some v → xs[i]? = some x → Dv P.den v x) (hw : WinAt gs os xs w) (hpin : ∀ ob, P.den.pin ob) : ∃ ob, w.heap[gs]? = some ob ∧ ORel P M os (.win row) ob := by
  obtain ⟨ob, hob⟩ : ∃ ob, w.heap[gs]? = some ob := by obtain ⟨c, e, f, h, _⟩ := hw; exact ⟨_, h⟩
  exact ⟨ob, hob, winO hl hd hw hob (hpin _)⟩
theorem dp_near {s : ByteArray} {bung dip : Int} {xs : List Int} {g : Nat → Int} {N gs os cap gl ol t cl n : Nat} {w : World} (hl : xs.length = N * 3) (hw : WinAt gs os xs w) (hlw : WinAt gl ol ((List.range (3 * n)).map g) w) (hn : n ≤ t) (h6 : n ≤ 6) {l : List Fact} {ok} {sp : CallF} (hsp : CallOk (pgDp s bung dip (zsD xs t g) l ok) sp)
    (hrun : fstO (evDS (pgDp s bung dip (zsD xs t g) l ok) sp 2000 60 (.fn 3) (argsDp N n) (hpDp N n) 2) = some (.bool true)) : LawD s bung dip (some ⟨gs, os, none⟩) N cap (some ⟨gl, ol, none⟩) t cl w := by
  have nw : ∀ id, wrt ((hpDp N n).get id) = false := fun id => by
    cases e : (hpDp N n).get id with
    | none => rfl
    | some o => rcases hpDp_get id o e with ⟨_, rfl⟩ | ⟨_, rfl⟩ <;> rfl
  refine Calls.mono (run_ro (P := pgDp s bung dip (zsD xs t g) l ok) (M := mpD gs os gl ol) rfl (by kernel_rfl) hsp hrun (args' := #[.agg #[.string s, .int .i64 bung, .slice (some ⟨gs, os, none⟩) N cap], .int .i64 dip, .slice (some ⟨gl, ol, none⟩) t cl])
    (LRel.cons (LRel.agg (LRel.cons (.hol (P := pgDp s bung dip (zsD xs t g) l ok) (n := 0) rfl rfl (fun _ => rfl)) (LRel.cons (Dv.vrel (P := pgDp s bung dip (zsD xs t g) l ok) dBung) (LRel.cons (.osl rfl (.lit (N : Int))) (LRel.nil _)))))
      (LRel.cons (Dv.vrel (P := pgDp s bung dip (zsD xs t g) l ok) dDip) (LRel.cons (.osm rfl (dLen hl) hn) (LRel.nil _)))) ⟨fun id o e => ?_, fun i j b r r' hi => by rw [nw i] at hi; cases hi⟩ nw (fun id h1 => ?_)) ?_
  · rcases hpDp_get id o e with ⟨rfl, rfl⟩ | ⟨rfl, rfl⟩
    · obtain ⟨ob, h1, h2⟩ := winD (P := pgDp s bung dip (zsD xs t g) l ok) (M := mpD gs os gl ol) (row := rowV N) (by rw [rowV_len, hl]) (rowV_denG hl (agD hl)) hw (fun _ => trivial)
      exact ⟨gs, os, ob, rfl, Nat.zero_le _, h1, h2⟩
    · obtain ⟨ob, h1, h2⟩ := winD (P := pgDp s bung dip (zsD xs t g) l ok) (M := mpD gs os gl ol) (row := rowDp N n) (by simp [rowDp]) (fun i v x hv hx => by
        unfold rowDp at hv
        rw [List.getElem?_map] at hv hx
        by_cases hi : i < 3 * n
        · rw [List.getElem?_range hi] at hv hx
          cases hv
          cases hx
          have := dH (s := s) (bung := bung) (dip := dip) (t := t) (g := g) hl (i := 0) (j := i) (by omega)
          unfold hDp at this
          rwa [show 3 * 0 + i = i by omega] at this
        · rw [List.getElem?_eq_none (by simp; omega)] at hv; cases hv) hlw (fun _ => trivial)
      exact ⟨gl, ol, ob, rfl, Nat.zero_le _, h1, h2⟩
  · unfold mpD; rw [if_neg (by omega), if_neg (by omega)]
  · rintro e' w' ⟨M', v', rfl, hvr, hwb⟩
    cases hvr
    exact ⟨rfl, hwb⟩
section
variable {s : ByteArray} {bung dip : Int} {xs : List Int} {N t cl gs os cap : Nat} {la : Option Addr} {w : World}
abbrev zsL (xs : List Int) (t : Nat) : List Int := xs ++ [(t : Int)]
theorem rowV_denL {v : Value} (hl : xs.length = N * 3) (h14 : N ≤ 14) : ∀ (i : Nat) (u : Value) (x : Int), (rowV N)[i]? = some u → xs[i]? = some x → Dv (DL s bung dip (zsL xs t) v) u x := fun i u x hv hx => by
  obtain ⟨e, hi⟩ := rowV_get hv
  subst e
  refine .hole ?_
  show (if i = 500 then v else Value.int .i64 ((zsL xs t).getD i 0)) = _
  rw [if_neg (by omega), List.getD_eq_getElem?_getD, List.getElem?_append_left (by omega), hx]
  rfl
theorem dErrL {v : Value} (hl : xs.length = N * 3) (h14 : N ≤ 14) : Dv (DL s bung dip (zsL xs t) v) (errV N) (caskS s bung xs).2 :=
  .app (t := 121) (xs := bung :: xs) (by decide) (by simp [rowV, hl]) (fun i u x hv hx => by
    cases i with
    | zero => simp at hv hx; subst hv hx; exact .hole rfl
    | succ i => exact rowV_denL hl h14 i u x (by simpa using hv) (by simpa using hx))
theorem dLenL {v : Value} (hl : xs.length = N * 3) (h14 : N ≤ 14) : Dv (DL s bung dip (zsL xs t) v) (hLn N) (t : Int) := by
  refine .hole ?_
  show (if N * 3 = 500 then v else Value.int .i64 ((zsL xs t).getD (N * 3) 0)) = _
  rw [if_neg (by omega), List.getD_eq_getElem?_getD, List.getElem?_append_right (by omega), show N * 3 - xs.length = 0 by omega]
  rfl
theorem dp_far (hl : xs.length = N * 3) (h14 : N ≤ 14) (hs : smallB s N bung = true) (hw : WinAt gs os xs w) {l : List Fact} {ok} (hrun : fstO (evDS (pgL s bung dip (zsL xs t) (.slice la t cl) l ok) (spL0 N) 2000 60 (.fn 3) (argsL N) (hpW N) 1) = some (.bool true)) : LawD s bung dip (some ⟨gs, os, none⟩) N cap la t cl w := by
  have get0 : ∀ id o, (hpW N).get id = some o → id = 0 ∧ o = .win (rowV N) := by
    intro id o e
    unfold hpW at e
    rw [T.get_node] at e
    by_cases hi : id = 0
    · subst hi; simp at e; exact ⟨rfl, e.symm⟩
    · simp [hi, T.get_leaf] at e
  have nw : ∀ id, wrt ((hpW N).get id) = false := fun id => by
    cases e : (hpW N).get id with
    | none => rfl
    | some o => obtain ⟨_, rfl⟩ := get0 id o e; rfl
  obtain ⟨ob, hob, ho⟩ := winD (P := pgL s bung dip (zsL xs t) (.slice la t cl) l ok) (M := mp1 gs os) (row := rowV N) (by rw [rowV_len, hl]) (rowV_denL hl h14) hw (fun _ => trivial)
  have hsp : CallOk (pgL s bung dip (zsL xs t) (.slice la t cl) l ok) (spL0 N) := ok_spOr (ok_spTrue awakeD) (ok_spOr (ok_spSmallH rfl rfl rfl rfl hs) (ok_spCaskR rfl rfl (isName0_rel rfl rfl)))
  have db : Dv (DL s bung dip (zsL xs t) (.slice la t cl)) hBung bung := .hole rfl
  have dd : Dv (DL s bung dip (zsL xs t) (.slice la t cl)) hDip dip := .hole rfl
  refine Calls.mono (run_ro (P := pgL s bung dip (zsL xs t) (.slice la t cl) l ok) (M := mp1 gs os) rfl (by kernel_rfl) hsp hrun (args' := #[.agg #[.string s, .int .i64 bung, .slice (some ⟨gs, os, none⟩) N cap], .int .i64 dip, .slice la t cl])
    (LRel.cons (LRel.agg (LRel.cons (.hol (P := pgL s bung dip (zsL xs t) (.slice la t cl) l ok) (n := 0) rfl rfl (fun _ => rfl)) (LRel.cons (Dv.vrel (P := pgL s bung dip (zsL xs t) (.slice la t cl) l ok) db) (LRel.cons (.osl rfl (.lit (N : Int))) (LRel.nil _)))))
      (LRel.cons (Dv.vrel (P := pgL s bung dip (zsL xs t) (.slice la t cl) l ok) dd) (LRel.cons (.hsl (k := 503) rfl (dLenL hl h14)) (LRel.nil _))))
    ⟨fun id o e => by obtain ⟨rfl, rfl⟩ := get0 id o e; exact ⟨gs, os, ob, rfl, Nat.zero_le _, hob, ho⟩, fun i j b r r' hi => by rw [nw i] at hi; cases hi⟩ nw (fun id h1 => if_neg (by omega))) ?_
  rintro e' w' ⟨M', v', rfl, hvr, hwb⟩
  cases hvr
  exact ⟨rfl, hwb⟩
end
section
variable {s : ByteArray} {bung dip : Int} {xs : List Int} {g : Nat → Int} {N gs os cap gl ol t cl : Nat} {w : World}
theorem gQ_len {i k : Nat} {f : Fact} (h : (gQ N i)[k]? = some f) : k < (if i = 0 then 8 else 9) ∨ k = if i = 0 then 8 else 9 := by
  have hk := (List.getElem?_eq_some_iff.1 h).1
  cases i with
  | zero => simp [gQ, dayDp] at hk; simp; omega
  | succ i => simp [gQ, dayDp] at hk; simp; omega
theorem cut_win {n m : Nat} (h : WinAt gl ol ((List.range (3 * n)).map g) w) (hm : m ≤ n) : WinAt gl ol ((List.range (3 * m)).map g) w := by
  obtain ⟨c, e, fr, h1, h2⟩ := h
  refine ⟨c, e, fr, h1, ?_⟩
  simp only [List.length_map, List.length_range] at h2 ⊢
  have : (c.toList.drop ol).take (3 * m) = ((c.toList.drop ol).take (3 * n)).take (3 * m) := by rw [List.take_take, Nat.min_eq_left (by omega)]
  rw [this, h2, ← List.map_take, ← List.map_take, List.take_range, Nat.min_eq_left (by omega)]
theorem dips_from (hN : N = 2 ∨ N = 3 ∨ N = 4) (hs : smallB s N bung = true) (hl : xs.length = N * 3) (hz : (caskS s bung xs).2 = 0) (a0 : 0 ≤ dip) (a1 : dip ≤ 2 * bung) (t0 : 0 < t) (t6 : t ≤ 6) (hb : vHi bung xs N dip ≤ 100000) (hw : WinAt gs os xs w) (hlw : WinAt gl ol ((List.range (3 * t)).map g) w) :
    ∀ k i, i + k = t → (∀ j, j < i → OkD bung dip xs N g j) → LawD s bung dip (some ⟨gs, os, none⟩) N cap (some ⟨gl, ol, none⟩) t cl w := by
  have hc := caskS_ok hl hz
  intro k
  induction k with
  | zero =>
    intro i hi h
    obtain ⟨n, rfl⟩ : ∃ n, t = n + 1 := ⟨t - 1, by omega⟩
    obtain rfl : i = n + 1 := by omega
    obtain ⟨m, hm, hmi⟩ := count_days h
    have p := ok_allQ (s := s) (t := ((n + 1 : Nat) : Int)) hl hc hz a0 a1 (by omega) (by omega) hb (n + 1) t6 (Int.le_refl _) h
    have q := ok_endQ (s := s) (t := ((n + 1 : Nat) : Int)) hl hc a0 a1 (by omega) rfl h hmi
    exact dp_near hl hw hlw (Nat.le_refl _) t6 (ok_spOr (okFDl hN hl hz (n + 1) t6 h) (okQ0 hs hl hc hz a0 a1)) (wQ_run s bung dip (zsD xs ((n + 1 : Nat) : Int) g) hN (by omega) hm (ok_app p q))
  | succ k ih =>
    intro i hi h
    have h6 : i < 6 := by omega
    have p := ok_app (ok_allQ (s := s) (t := (t : Int)) hl hc hz a0 a1 (by omega) (by omega) hb i (by omega) (by omega) h) (ok_one (lt_yes (.lit (i : Int)) (dLen hl) (show (i : Int) < (t : Int) by omega)))
    rcases comb (Q := LawD s bung dip (some ⟨gs, os, none⟩) N cap (some ⟨gl, ol, none⟩) t cl w) p (gQ_dv hl h6) (fun k f hf hok => by
      have hg : (gQ N i).getD k (0, iD 0, iD 0, true) = f := by rw [List.getD_eq_getElem?_getD, hf]; rfl
      have hok : ∀ f ∈ eQ N i k, OkF (DQ s bung dip xs (t : Int) g) f := by
        unfold eQ
        rw [hg]
        exact hok
      have hlw' := cut_win hlw (m := i + 1) (by omega)
      rcases gQ_len hf with hk | hk
      · exact dp_near hl hw hlw' (by omega) (by omega) (ok_spOr (okFDl hN hl hz i (by omega) h) (okQ0 hs hl hc hz a0 a1)) (eQ_run s bung dip (zsD xs (t : Int) g) hN h6 hk hok)
      · refine dp_near hl hw hlw' (by omega) (by omega) (ok_spOr ?_ (ok_spOr (okFDl hN hl hz i (by omega) h) (okQ0 hs hl hc hz a0 a1))) (eQ_last s bung dip (zsD xs (t : Int) g) hN h6 hk hok)
        have all : ∀ q ∈ (gQ N i).take k ++ [negF f], OkF (DQ s bung dip xs (t : Int) g) q := fun f' hf' => hok f' (by unfold eQ; rw [hg]; exact List.mem_append.2 (.inr hf'))
        have e1 : (gQ N i)[k]? = some (1, iD 100000, hiDp N i, false) := by
          subst hk
          cases i with
          | zero => rfl
          | succ i => rfl
        rw [hf] at e1
        have e1 := Option.some.inj e1
        subst e1
        have tk : (gQ N i).take k = [(2, iD 0, hDp N i 0, true), (2, hDp N i 0, iD 1000, true)] ++ dayDp N i ++ [(2, iD 0, hDp N i 1, true), (2, hDp N i 1, topV, true), (2, iD 0, hDp N i 2, true), (2, hDp N i 2, topV, true), (2, subDp N i, hDip, true), (2, hDip, addDp N i, true)] := by
          subst hk
          cases i with
          | zero => rfl
          | succ i => rfl
        rw [tk] at all
        have g0 := dH (s := s) (bung := bung) (dip := dip) (t := (t : Int)) (g := g) hl (i := i) (j := 0) (by omega)
        have g1 := dH (s := s) (bung := bung) (dip := dip) (t := (t : Int)) (g := g) hl (i := i) (j := 1) (by omega)
        have g2 := dH (s := s) (bung := bung) (dip := dip) (t := (t : Int)) (g := g) hl (i := i) (j := 2) (by omega)
        have tp := dTopQ (s := s) (dip := dip) (t := (t : Int)) (g := g) hl hc
        have d0 := of_le (all (2, iD 0, hDp N i 0, true) (by simp)) (.lit 0) g0
        have d1 := of_le (all (2, hDp N i 0, iD 1000, true) (by simp)) g0 (.lit 1000)
        have p0 := of_le (all (2, iD 0, hDp N i 1, true) (by simp)) (.lit 0) g1
        have p1 := of_le (all (2, hDp N i 1, topV, true) (by simp)) g1 tp
        have w0 := of_le (all (2, iD 0, hDp N i 2, true) (by simp)) (.lit 0) g2
        have w1 := of_le (all (2, hDp N i 2, topV, true) (by simp)) g2 tp
        refine ok_spFD rfl rfl hN hl (agD hl) hz g0 g1 g2 d0 (by omega) p0 p1 w0 w1 ?_
        obtain ⟨x', y', q1, q2, q3⟩ := all (negF (1, iD 100000, hiDp N i, false)) (List.mem_append.2 (.inr (List.mem_singleton.2 rfl)))
        have e2 := q1.unique _ (.lit 100000)
        have e3 := q2.unique _ (dLoHi (agD hl) hc g1 g2 p0 p1 w0 w1).2
        subst e2 e3
        exact q3) with hq | hall
    · exact hq
    · exact ih (i + 1) (by omega) (fun j hj => by
        by_cases e : j = i
        · subst e; exact okD_of hl hc h6 hall
        · exact h j (by omega))
theorem dips_win (hN : N = 1 ∨ N = 2 ∨ N = 3 ∨ N = 4 ∨ N = 13 ∨ N = 14) (hs : smallB s N bung = true) (hl : xs.length = N * 3) (hw : WinAt gs os xs w) {la : Option Addr} (hla : 0 < t → la = some ⟨gl, ol, none⟩) (hlw : 0 < t → WinAt gl ol ((List.range (3 * t)).map g) w) : LawD s bung dip (some ⟨gs, os, none⟩) N cap la t cl w := by
  have h14 : N ≤ 14 := by omega
  by_cases hz : (caskS s bung xs).2 = 0
  · have hc := caskS_ok hl hz
    have hN2 : N = 2 ∨ N = 3 ∨ N = 4 := by have := hc.two; have := hc.twelve; omega
    have dd : Dv (DL s bung dip (zsL xs t) (.slice la t cl)) hDip dip := .hole rfl
    have db : Dv (DL s bung dip (zsL xs t) (.slice la t cl)) hBung bung := .hole rfl
    have tp : Dv (DL s bung dip (zsL xs t) (.slice la t cl)) topV (2 * bung) := by
      have h8 := hc.hi
      have h10 := hc.lo
      have h : Dv (DL s bung dip (zsL xs t) (.slice la t cl)) topV (binN 3 2 bung) := .bin (t := 3) (by decide) (.lit 2) db
      rwa [show binN 3 2 bung = 2 * bung from IntWalk.i64_in _ (by omega)] at h
    rcases comb (D := DL s bung dip (zsL xs t) (.slice la t cl)) (Q := LawD s bung dip (some ⟨gs, os, none⟩) N cap la t cl w) (F := []) (G := gL N) (by simp) (fun f hf => by
      simp only [gL, List.mem_cons, List.not_mem_nil, or_false] at hf
      rcases hf with rfl | rfl | rfl | rfl | rfl
      · exact ⟨_, _, dErrL hl h14, .lit 0⟩
      · exact ⟨_, _, .lit 0, dd⟩
      · exact ⟨_, _, dd, tp⟩
      · exact ⟨_, _, dLenL hl h14, .lit 0⟩
      · exact ⟨_, _, .lit 6, dLenL hl h14⟩) (fun k f hf hok => by
      have hk := (List.getElem?_eq_some_iff.1 hf).1
      have hg : (gL N).getD k (0, iD 0, iD 0, true) = f := by rw [List.getD_eq_getElem?_getD, hf]; rfl
      have hok : ∀ f ∈ eL N k, OkF (DL s bung dip (zsL xs t) (.slice la t cl)) f := by
        unfold eL
        rw [hg]
        exact hok
      exact dp_far hl h14 hs hw (eL_run s bung dip (zsL xs t) (.slice la t cl) hN2 (by simpa [gL] using hk) hok)) with hq | hall
    · exact hq
    · have a0 := of_le (hall (2, iD 0, hDip, true) (by simp [gL])) (.lit 0) dd
      have a1 := of_le (hall (2, hDip, topV, true) (by simp [gL])) dd tp
      have t0 := of_ne (hall (0, hLn N, iD 0, false) (by simp [gL])) (dLenL hl h14) (.lit 0)
      have t6 := of_nlt (hall (1, iD 6, hLn N, false) (by simp [gL])) (.lit 6) (dLenL hl h14)
      have t0 : 0 < t := by omega
      have t6 : t ≤ 6 := by omega
      rw [hla t0]
      by_cases hb : vHi bung xs N dip ≤ 100000
      · exact dips_from hN2 hs hl hz a0 a1 t0 t6 hb hw (hlw t0) t 0 (by omega) (fun j hj => absurd hj (by omega))
      · exact dp_near hl hw (cut_win (hlw t0) (m := 1) (by omega)) (by omega) (by decide) (ok_spOr (okFDl hN2 hl hz 0 (by decide) (fun j hj => absurd hj (by omega))) (okQ0 hs hl hc hz a0 a1))
          (wBig_run s bung dip (zsD xs (t : Int) g) hN2 (ok_app (ok_g0 hl hc hz a0 a1 (by omega) (by omega)) (ok_one (lt_yes (.lit 100000) (dOwn hl hc a0 a1).2 (by omega)))))
  · exact dp_far hl h14 hs hw (eL_bad s bung dip (zsL xs t) (.slice la t cl) hN (ok_app ok_nil (ok_one (eq_no (dErrL hl h14) (.lit 0) hz))))
end
theorem tdips_any (s : ByteArray) (bung dip : Int) (sa la : Option Addr) (N cap b off t cl b' off' : Nat) (f g : Nat → Nat → Int) (w : World) (hs : 0 < N → sa = some ⟨b, off, none⟩) (hx : ∀ i j, i < N → j < 3 → w.cell? ⟨b, off + i * 3 + j, none⟩ = some (.int .i64 (f i j)))
    (hla : 0 < t → la = some ⟨b', off', none⟩) (hy : ∀ i j, i < t → j < 3 → w.cell? ⟨b', off' + i * 3 + j, none⟩ = some (.int .i64 (g i j))) : LawD s bung dip sa N cap la t cl w := by
  have rel : ∀ (l : List Fact) (ok) (M : Mp), LRel (pgM s bung dip (t : Int) (.slice sa N cap) (.slice la t cl) l ok) M argsM [.agg #[.string s, .int .i64 bung, .slice sa N cap], .int .i64 dip, .slice la t cl] := fun l ok M => by
    have d4 : Dv (DM s bung dip (t : Int) (.slice sa N cap) (.slice la t cl)) (hN 4) dip := .hole rfl
    exact LRel.cons (c3_relH (P := pgM s bung dip (t : Int) (.slice sa N cap) (.slice la t cl) l ok) (s := s) (bung := bung) (hole := holeM s bung dip (t : Int) (.slice sa N cap) (.slice la t cl)) (sa := sa) (N := N) (cap := cap) (O := fun _ => True) rfl rfl rfl rfl M) (LRel.cons (Dv.vrel (P := pgM s bung dip (t : Int) (.slice sa N cap) (.slice la t cl) l ok) d4) (LRel.cons (.hsl (k := 5) rfl (.hole rfl)) (LRel.nil _)))
  cases hsm : smallB s N bung with
  | false => exact run_true (P := pgM s bung dip (t : Int) (.slice sa N cap) (.slice la t cl) [] ok_none) rfl (by kernel_rfl) (ok_spOr (ok_spTrue awakeD) (ok_spSmallYH (s := s) (bung := bung) (hole := holeM s bung dip (t : Int) (.slice sa N cap) (.slice la t cl)) (sa := sa) (N := N) (cap := cap) (O := fun _ => True) rfl rfl rfl rfl rfl hsm)) (mBig s bung dip (.slice sa N cap) (.slice la t cl) (t : Int) ok_none) (rel _ _) w
  | true =>
    have hN := small_N hsm
    by_cases h0 : N = 0
    · subst h0
      have ok : ∀ f ∈ [((0 : Nat), errV 0, iD 0, false)], OkF (DM s bung dip (t : Int) (.slice sa 0 cap) (.slice la t cl)) f := ok_one (by
        have db : Dv (DM s bung dip (t : Int) (.slice sa 0 cap) (.slice la t cl)) hBung bung := .hole rfl
        have de : Dv (DM s bung dip (t : Int) (.slice sa 0 cap) (.slice la t cl)) (errV 0) (caskS s bung []).2 := app1 (t := 121) (by decide) db
        exact eq_no de (.lit 0) (caskS0_ne s bung))
      exact run_true (P := pgM s bung dip (t : Int) (.slice sa 0 cap) (.slice la t cl) _ ok) rfl (by kernel_rfl) (ok_spOr (ok_spOr (ok_spTrue awakeD) (ok_spSmallYH (s := s) (bung := bung) (hole := holeM s bung dip (t : Int) (.slice sa 0 cap) (.slice la t cl)) (sa := sa) (N := 0) (cap := cap) (O := fun _ => True) rfl rfl rfl rfl rfl hsm)) (ok_spCaskYH (s := s) (bung := bung) (hole := holeM s bung dip (t : Int) (.slice sa 0 cap) (.slice la t cl)) (sa := sa) (cap := cap) (O := fun _ => True) rfl rfl rfl rfl rfl)) (mNone s bung dip (.slice sa 0 cap) (.slice la t cl) (t : Int) ok) (rel _ _) w
    · rw [hs (by omega)]
      refine dips_win (g := fun k => g (k / 3) (k % 3)) (gl := b') (ol := off') (by omega) hsm (xs := (List.range (N * 3)).map fun k => f (k / 3) (k % 3)) (by simp) (winAt_of (by omega) fun k hk => ?_) hla (fun ht => winAt_of (by omega) fun k hk => ?_)
      · have := hx (k / 3) (k % 3) (by omega) (by omega)
        rwa [show off + k / 3 * 3 + k % 3 = off + k by omega] at this
      · have := hy (k / 3) (k % 3) (by omega) (by omega)
        rwa [show off' + k / 3 * 3 + k % 3 = off' + k by omega] at this
end Sy
end Go.Proofs.Ytpfhfphcmomfdaa
