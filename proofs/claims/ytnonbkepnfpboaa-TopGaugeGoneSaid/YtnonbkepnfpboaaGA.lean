/- A cellar (numbers, a slice of days, a slice of pairs), for the laws of top04 and GaugeTrue: what symbols mean, and what is known of calls. -/
import Derived.Test.YtnonbkepnfpboaaSZ
import Derived.Test.YtnonbkepnfpboaaJ8
set_option linter.unusedVariables false
set_option linter.unusedSimpArgs false
namespace Go.Proofs.Ytnonbkepnfpboaa
open Go.RowKit
namespace Sy
open Go.RowKit

set_option maxRecDepth 100000 in
theorem awakeC_run : fstO (evDS (pg0 Try.prog) spNone 2000 60 (.fn 4) [] .leaf 0) = some (.bool true) := by kernel_rfl
theorem awakeC (w : World) : Calls Try.prog 4 #[] w fun e w' => e = .returned (.bool true) ∧ Below w.heap.size w w' :=
  run_true rfl (by kernel_rfl) ok_spNone awakeC_run (fun M => LRel.nil M) w
/-- n / 1000, rounded down and up -/
def floorK (n : Int) : Int := if n.tmod 1000 < 0 then wrap64 (wrap64 (n.tdiv 1000) - 1) else wrap64 (n.tdiv 1000)
def ceilK (n : Int) : Int := wrap64 (-(floorK (IntKind.i64.wrap (-n))))
theorem floorK_any (n : Int) (w : World) : Calls Try.prog 61 #[.int .i64 n, .int .i64 1000] w fun e w' => e = .returned (.int .i64 (floorK n)) ∧ w = w' := by
  by_cases h : n.tmod 1000 < 0
  · go_enter Try.func61, Try.ntmps61
    go_wp2
    go_ret
    refine ⟨?_, rfl⟩
    rw [floorK, if_pos h]
    rfl
  · go_enter Try.func61, Try.ntmps61
    go_wp2
    go_ret
    refine ⟨?_, rfl⟩
    rw [floorK, if_neg (by omega)]
    rfl
theorem ceilK_any (n : Int) (w : World) : Calls Try.prog 62 #[.int .i64 n, .int .i64 1000] w fun e w' => e = .returned (.int .i64 (ceilK n)) ∧ w = w' := by
  obtain ⟨m, hm⟩ : ∃ m, IntKind.i64.wrap (-n) = m := ⟨_, rfl⟩
  go_enter Try.func62, Try.ntmps62
  go_wp2_with (go_at_call 61; refine Calls.mono (floorK_any _ _) ?_; rintro e w2 ⟨rfl, rfl⟩)
  go_ret
  refine ⟨?_, rfl⟩
  rw [ceilK, hm]
  rfl
def intC (t : Nat) (xs : List Int) : Int :=
  match t, xs with
  | 103, [n, lo, hi] => numE n lo hi
  | 104, xs => firstL xs
  | 108, [n] => floorK n
  | 109, [n] => ceilK n
  | _, _ => 0
def holeC (is : List Int) (a b : Value) (n : Nat) : Value :=
  match n with
  | 20 => a
  | 21 => b
  | n => .int .i64 (is.getD n 0)
abbrev DC (is : List Int) (a b : Value) : Dn := { hole := holeC is a b, int := intC, obj := fun _ _ _ => False }
theorem okRangeC : ∀ t ∈ [((27 : Nat), (2 : Nat))], ∀ (xs ys : List Int) (x y : Operand) (w : World), xs.length = t.2 → ys.length = t.2 → ((do eqGuard .eql t.1 x y (.agg (xs.map fun z => Value.int .i64 z).toArray) (.agg (ys.map fun z => Value.int .i64 z).toArray); binOp .eql t.1 (.agg (xs.map fun z => Value.int .i64 z).toArray) (.agg (ys.map fun z => Value.int .i64 z).toArray)) : Sem Value).run Try.prog w = .ok (.bool (decide (xs = ys))) w ∧
    ((do eqGuard .neq t.1 x y (.agg (xs.map fun z => Value.int .i64 z).toArray) (.agg (ys.map fun z => Value.int .i64 z).toArray); binOp .neq t.1 (.agg (xs.map fun z => Value.int .i64 z).toArray) (.agg (ys.map fun z => Value.int .i64 z).toArray)) : Sem Value).run Try.prog w = .ok (.bool (!decide (xs = ys))) w := by
  intro t ht xs ys x y w hx hy
  simp only [List.mem_singleton] at ht
  subst ht
  match xs, ys, hx, hy with
  | [a, b], [c, d], _, _ =>
    refine ⟨?_, ?_⟩
    · go_simp
      by_cases h1 : a = c <;> by_cases h2 : b = d <;> simp [h1, h2]
    · go_simp
      by_cases h1 : a = c <;> by_cases h2 : b = d <;> simp [h1, h2]
noncomputable def pgC (is : List Int) (a b : Value) (l : List Fact) (ok : ∀ f ∈ l, ∃ x y, Dv (DC is a b) f.2.1 x ∧ Dv (DC is a b) f.2.2.1 y ∧ cmpN f.1 x y = f.2.2.2) : Pg :=
  { prog := Try.prog, den := DC is a b, facts := l, ok := ok, eqs := [(27, 2)], okEq := okRangeC }
def numsC : List NumSp := [(22, 103, 3, []), (61, 108, 1, [1000]), (62, 109, 1, [1000])]
theorem ok_numsC {P : Pg} (hp : P.prog = Try.prog) {is : List Int} {a b : Value} (hd : P.den = DC is a b) : ∀ x ∈ numsC, NumOk P x := by
  intro x hx
  simp only [numsC, List.mem_cons, List.not_mem_nil, or_false] at hx
  rcases hx with rfl | rfl | rfl
  · refine ⟨by decide, fun xs w hl => ?_⟩
    match xs, hl with
    | [n, lo, hi], _ => rw [hp, hd]; exact numS n lo hi w
  · refine ⟨by decide, fun xs w hl => ?_⟩
    match xs, hl with
    | [n], _ => rw [hp, hd]; exact still_call (floorK_any n w)
  · refine ⟨by decide, fun xs w hl => ?_⟩
    match xs, hl with
    | [n], _ => rw [hp, hd]; exact still_call (ceilK_any n w)
theorem ok_listC {P : Pg} (hp : P.prog = Try.prog) {is : List Int} {a b : Value} (hd : P.den = DC is a b) : ListOk P 14 104 := by
  refine ⟨by decide, fun xs g w h2 h5 hc => ?_⟩
  rw [hp, hd]
  have e : (DC is a b).int 104 xs = firstL xs := by
    match xs, h2 with
    | _ :: _ :: _, _ => rfl
  rw [e]
  refine still_call (first_list xs g 0 w (by omega) fun j hj => ?_)
  rw [Nat.zero_add, hc j xs[j] (List.getElem?_eq_getElem hj), List.getD_eq_getElem?_getD, List.getElem?_eq_getElem hj]
  rfl
noncomputable def spC : CallF := spOr (spTrue 4) (spOr (spNum numsC) (spList 14 104))
theorem ok_spC {is : List Int} {a b : Value} {l ok} : CallOk (pgC is a b l ok) spC := ok_spOr (ok_spTrue awakeC) (ok_spOr (ok_spNum (ok_numsC rfl rfl)) (ok_spList (ok_listC rfl rfl)))
/-! The terms of TopGaugeGone. -/
def hC (n : Nat) : Value := .iface 0 (.int .i64 (.ofNat n))
def lC (n : Int) : Value := .int .i64 n
def daysW : Value := .iface 95 (.tuple #[.int .i64 0, .int .i64 2, hC 3])
def wideW : Value := .iface 95 (.tuple #[.int .i64 1, .int .i64 2, hC 4])
def daysH : Value := .iface 94 (.tuple #[.int .i64 20, hC 3])
def wideH : Value := .iface 94 (.tuple #[.int .i64 21, hC 4])
def argsC (d w : Value) : List Value := [.agg #[hC 0, hC 1, hC 2, d, w], .agg #[hC 11, hC 12], hC 13]
def hpC : T AObj := .node (.node .leaf (some (.win [hC 7, hC 8, hC 9, hC 10])) .leaf) (some (.win [hC 5, hC 6])) .leaf
def bC (t : Nat) (a b : Value) : Value := .iface t (.tuple #[a, b])
/-- what was held, twice -/
def nC (i : Nat) : Value := bC 2 (bC 2 (hC 0) (bC 3 (hC 1) (hC (5 + i)))) (bC 3 (lC i) (hC 13))
def loC (i : Nat) : Value := bC 2 (nC i) (hC (7 + 2 * i))
def hiC (i : Nat) : Value := bC 1 (nC i) (hC (8 + 2 * i))
def eC : List Fact := [(2, lC 0, hC 0, true), (2, hC 0, lC 50000, true), (2, lC 0, hC 11, true), (2, hC 11, hC 1, true), (2, hC 1, hC 12, true), (2, hC 12, lC 1000, true), (0, hC 2, lC 0, true), (0, hC 3, lC 2, true), (1, hC 4, lC 2, false), (2, lC 0, hC 13, true), (2, hC 13, lC 20000, true),
  (2, lC 0, hC 5, true), (2, hC 5, lC 8, true), (2, lC 0, hC 7, true), (2, hC 7, lC 100, true), (2, lC 0, hC 8, true), (2, hC 8, lC 100, true), (1, nC 0, lC 100, false),
  (2, lC 0, hC 6, true), (2, hC 6, lC 8, true), (1, hC 6, hC 5, false), (2, lC 0, hC 9, true), (2, hC 9, lC 100, true), (2, lC 0, hC 10, true), (2, hC 10, lC 100, true), (1, nC 1, lC 100, false)]
def numC (x : Value) (m : Int) : Value := .iface 103 (.tuple #[x, lC 0, lC m])
def firC (l : List Value) : Value := .iface 104 (.tuple l.toArray)
def rngC (a b : Value) : Value := firC [numC a 100000, numC b 100000, lC 0]
def dayC (i : Nat) : Value := bC 3 (lC 1000) (hC (5 + i))
def rdC (i : Nat) : Value := firC [firC [lC 0, numC (dayC i) 100000, rngC (loC i) (hiC i)], lC 0]
def fC : List Fact := [(2, hC 11, hC 12, true), (0, firC [rngC (hC 11) (hC 12), lC 0, lC 0], lC 0, true), (2, loC 0, hiC 0, true), (2, loC 1, hiC 1, true), (0, rdC 0, lC 0, true), (2, dayC 0, dayC 1, true), (0, rdC 1, lC 0, true)]
def thC (x : Value) : Value := bC 3 (lC 1000) (bC 1 x (lC 0))
def ddC : Value := bC 2 (dayC 1) (dayC 0)
def aLo : Value := bC 2 (thC (loC 0)) (bC 3 (hC 12) ddC)
def aHi : Value := bC 2 (thC (hiC 0)) (bC 3 (hC 11) ddC)
def gLo : Value := bC 2 (.iface 108 (.tuple #[aLo])) (hiC 1)
def gHi : Value := bC 2 (.iface 109 (.tuple #[aHi])) (loC 1)
def cLo : Value := bC 5 aLo (thC (loC 1))
def cHi : Value := bC 4 aHi (thC (hiC 1))
def fD (c : Bool) : List Fact := [(0, firC [lC 0, lC 0], lC 0, true), (0, firC [lC 0, firC [lC 0, lC 0]], lC 0, true), (1, lC 0, bC 2 (dayC 0) (dayC 1), false), (1, cHi, cLo, c), (2, gLo, hC 13, true), (2, hC 13, gHi, true)]
def fE (c : Bool) : List Fact := match c with
  | true => [(1, lC 0, hC 13, true)]
  | false => []
def allC (c : Bool) : List Fact := eC ++ (fC ++ (fD c ++ fE c))
def nG : Nat → Fact
  | 0 => (2, lC 0, hC 0, false)
  | 1 => (2, hC 0, lC 50000, false)
  | 2 => (2, lC 0, hC 11, false)
  | 3 => (2, hC 11, hC 1, false)
  | 4 => (2, hC 1, hC 12, false)
  | 5 => (2, hC 12, lC 1000, false)
  | 6 => (0, hC 2, lC 0, false)
  | 7 => (0, hC 3, lC 2, false)
  | 8 => (1, hC 4, lC 2, true)
  | 9 => (2, lC 0, hC 13, false)
  | 10 => (2, hC 13, lC 20000, false)
  | 11 => (2, lC 0, hC 5, false)
  | 12 => (2, hC 5, lC 8, false)
  | 13 => (2, lC 0, hC 7, false)
  | 14 => (2, hC 7, lC 100, false)
  | 15 => (2, lC 0, hC 8, false)
  | 16 => (2, hC 8, lC 100, false)
  | 17 => (1, nC 0, lC 100, true)
  | 18 => (2, lC 0, hC 6, false)
  | 19 => (2, hC 6, lC 8, false)
  | 20 => (1, hC 6, hC 5, true)
  | 21 => (2, lC 0, hC 9, false)
  | 22 => (2, hC 9, lC 100, false)
  | 23 => (2, lC 0, hC 10, false)
  | 24 => (2, hC 10, lC 100, false)
  | _ => (1, nC 1, lC 100, true)
def eF (k : Nat) : List Fact := eC.take k ++ [nG k]
section
variable (is : List Int) (a b : Value)
theorem gRun_true (ok) : fstO (evDS (pgC is a b (allC true) ok) spC 2000 60 (.fn 3) (argsC daysW wideW) hpC 2) = some (.bool true) := by kernel_rfl
theorem gRun_false (ok) : fstO (evDS (pgC is a b (allC false) ok) spC 2000 60 (.fn 3) (argsC daysW wideW) hpC 2) = some (.bool true) := by kernel_rfl
theorem gEarly0 (ok) : fstO (evDS (pgC is a b (eF 0) ok) spC 2000 60 (.fn 3) (argsC daysH wideH) .leaf 0) = some (.bool true) := by kernel_rfl
theorem gEarly1 (ok) : fstO (evDS (pgC is a b (eF 1) ok) spC 2000 60 (.fn 3) (argsC daysH wideH) .leaf 0) = some (.bool true) := by kernel_rfl
theorem gEarly2 (ok) : fstO (evDS (pgC is a b (eF 2) ok) spC 2000 60 (.fn 3) (argsC daysH wideH) .leaf 0) = some (.bool true) := by kernel_rfl
theorem gEarly3 (ok) : fstO (evDS (pgC is a b (eF 3) ok) spC 2000 60 (.fn 3) (argsC daysH wideH) .leaf 0) = some (.bool true) := by kernel_rfl
theorem gEarly4 (ok) : fstO (evDS (pgC is a b (eF 4) ok) spC 2000 60 (.fn 3) (argsC daysH wideH) .leaf 0) = some (.bool true) := by kernel_rfl
theorem gEarly5 (ok) : fstO (evDS (pgC is a b (eF 5) ok) spC 2000 60 (.fn 3) (argsC daysH wideH) .leaf 0) = some (.bool true) := by kernel_rfl
theorem gEarly6 (ok) : fstO (evDS (pgC is a b (eF 6) ok) spC 2000 60 (.fn 3) (argsC daysH wideH) .leaf 0) = some (.bool true) := by kernel_rfl
theorem gEarly7 (ok) : fstO (evDS (pgC is a b (eF 7) ok) spC 2000 60 (.fn 3) (argsC daysH wideH) .leaf 0) = some (.bool true) := by kernel_rfl
theorem gEarly8 (ok) : fstO (evDS (pgC is a b (eF 8) ok) spC 2000 60 (.fn 3) (argsC daysH wideH) .leaf 0) = some (.bool true) := by kernel_rfl
theorem gEarly9 (ok) : fstO (evDS (pgC is a b (eF 9) ok) spC 2000 60 (.fn 3) (argsC daysH wideH) .leaf 0) = some (.bool true) := by kernel_rfl
theorem gEarly10 (ok) : fstO (evDS (pgC is a b (eF 10) ok) spC 2000 60 (.fn 3) (argsC daysH wideH) .leaf 0) = some (.bool true) := by kernel_rfl
theorem gEarly11 (ok) : fstO (evDS (pgC is a b (eF 11) ok) spC 2000 60 (.fn 3) (argsC daysW wideW) hpC 2) = some (.bool true) := by kernel_rfl
theorem gEarly12 (ok) : fstO (evDS (pgC is a b (eF 12) ok) spC 2000 60 (.fn 3) (argsC daysW wideW) hpC 2) = some (.bool true) := by kernel_rfl
theorem gEarly13 (ok) : fstO (evDS (pgC is a b (eF 13) ok) spC 2000 60 (.fn 3) (argsC daysW wideW) hpC 2) = some (.bool true) := by kernel_rfl
theorem gEarly14 (ok) : fstO (evDS (pgC is a b (eF 14) ok) spC 2000 60 (.fn 3) (argsC daysW wideW) hpC 2) = some (.bool true) := by kernel_rfl
theorem gEarly15 (ok) : fstO (evDS (pgC is a b (eF 15) ok) spC 2000 60 (.fn 3) (argsC daysW wideW) hpC 2) = some (.bool true) := by kernel_rfl
theorem gEarly16 (ok) : fstO (evDS (pgC is a b (eF 16) ok) spC 2000 60 (.fn 3) (argsC daysW wideW) hpC 2) = some (.bool true) := by kernel_rfl
theorem gEarly17 (ok) : fstO (evDS (pgC is a b (eF 17) ok) spC 2000 60 (.fn 3) (argsC daysW wideW) hpC 2) = some (.bool true) := by kernel_rfl
theorem gEarly18 (ok) : fstO (evDS (pgC is a b (eF 18) ok) spC 2000 60 (.fn 3) (argsC daysW wideW) hpC 2) = some (.bool true) := by kernel_rfl
theorem gEarly19 (ok) : fstO (evDS (pgC is a b (eF 19) ok) spC 2000 60 (.fn 3) (argsC daysW wideW) hpC 2) = some (.bool true) := by kernel_rfl
theorem gEarly20 (ok) : fstO (evDS (pgC is a b (eF 20) ok) spC 2000 60 (.fn 3) (argsC daysW wideW) hpC 2) = some (.bool true) := by kernel_rfl
theorem gEarly21 (ok) : fstO (evDS (pgC is a b (eF 21) ok) spC 2000 60 (.fn 3) (argsC daysW wideW) hpC 2) = some (.bool true) := by kernel_rfl
theorem gEarly22 (ok) : fstO (evDS (pgC is a b (eF 22) ok) spC 2000 60 (.fn 3) (argsC daysW wideW) hpC 2) = some (.bool true) := by kernel_rfl
theorem gEarly23 (ok) : fstO (evDS (pgC is a b (eF 23) ok) spC 2000 60 (.fn 3) (argsC daysW wideW) hpC 2) = some (.bool true) := by kernel_rfl
theorem gEarly24 (ok) : fstO (evDS (pgC is a b (eF 24) ok) spC 2000 60 (.fn 3) (argsC daysW wideW) hpC 2) = some (.bool true) := by kernel_rfl
theorem gEarly25 (ok) : fstO (evDS (pgC is a b (eF 25) ok) spC 2000 60 (.fn 3) (argsC daysW wideW) hpC 2) = some (.bool true) := by kernel_rfl
end
end Sy
end Go.Proofs.Ytnonbkepnfpboaa
