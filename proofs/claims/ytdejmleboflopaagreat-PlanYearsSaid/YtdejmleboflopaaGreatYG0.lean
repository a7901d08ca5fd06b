/- The law PlanYears: its calls. -/
import Derived.Test.YtdejmleboflopaaGreatYF
set_option linter.unusedVariables false
set_option linter.unusedSimpArgs false
namespace Go.Proofs.YtdejmleboflopaaGreat
open Go.RowKit
namespace Sy
open Go.RowKit

theorem okShortEq : ∀ t ∈ [((36 : Nat), (2 : Nat))], ∀ (xs ys : List Int) (x y : Operand) (w : World), xs.length = t.2 → ys.length = t.2 → ((do eqGuard .eql t.1 x y (.agg (xs.map fun z => Value.int .i64 z).toArray) (.agg (ys.map fun z => Value.int .i64 z).toArray); binOp .eql t.1 (.agg (xs.map fun z => Value.int .i64 z).toArray) (.agg (ys.map fun z => Value.int .i64 z).toArray)) : Sem Value).run Tryz.prog w = .ok (.bool (decide (xs = ys))) w ∧
    ((do eqGuard .neq t.1 x y (.agg (xs.map fun z => Value.int .i64 z).toArray) (.agg (ys.map fun z => Value.int .i64 z).toArray); binOp .neq t.1 (.agg (xs.map fun z => Value.int .i64 z).toArray) (.agg (ys.map fun z => Value.int .i64 z).toArray)) : Sem Value).run Tryz.prog w = .ok (.bool (!decide (xs = ys))) w := by
  intro t ht xs ys x y w hx hy
  simp only [List.mem_singleton] at ht
  subst ht
  match xs, ys, hx, hy with
  | [a, b], [c, d], _, _ =>
    refine ⟨?_, ?_⟩
    · go_simp
      by_cases h1 : a = c <;> by_cases h2 : b = d <;> simp [h1, h2]
    · go_simp
      by_cases h1 : a = c <;> by_cases h2 : b = d <;> simp [h1, h2]
noncomputable def pgL (Y : Yr) (l : List Fact) (ok : ∀ f ∈ l, ∃ x y, Dv (DZ Y) f.2.1 x ∧ Dv (DZ Y) f.2.2.1 y ∧ cmpN f.1 x y = f.2.2.2) : Pg := { prog := Tryz.prog, den := DZ Y, facts := l, ok := ok, eqs := [(36, 2)], okEq := okShortEq }
def zz : Value := .agg #[iP 0, iP 0]
def fyi : Value := .tuple #[.agg #[hFy, hFi], hFe]
def eCS (s : Pt) : Ent := ⟨8, [s], .n (.opq 53 []) (fun id => .agg #[osl hLs id, hNew])⟩
def eCD (d : Pt) : Ent := ⟨10, [d], .n (.opq 55 []) (osl hLd)⟩
def eAA (r : Rs) : Ent := ⟨7, [sA, bA, dA], r⟩
def eFS (x : Value) : Ent := ⟨11, [sA, bA, dA], .v x⟩
def eGN (x : Value) : Ent := ⟨12, [sA, bA], .v x⟩
def eSE (s : Pt) (x : Value) : Ent := ⟨13, [s], .v x⟩
def eAE (s b : Pt) (x : Value) : Ent := ⟨14, [s, b], .v x⟩
def eRG (x : Value) : Ent := ⟨15, [sO, bO], .v x⟩
def eDE (d : Pt) (x : Value) : Ent := ⟨16, [d], .v x⟩
def eRA (d : Pt) (r : Rs) : Ent := ⟨17, [sO, bO, d], r⟩
def eRS (d : Pt) (x : Value) : Ent := ⟨18, [sO, bO, d], .v x⟩
def endR (K : Nat) : Rs := .n (endO K) (fun id => .tuple #[osl (endT K) id, iP 0])
def eRn (K : Nat) : Ent := ⟨19, [.s (endO K) (endT K), .s (endO K) (endT K)], .v (.bool true)⟩
def qPre : List Fact := [(2, hLs, iP 6, true), (1, iP 6, hLb, false)]
def qSm : List Fact := qPre ++ [(1, iP 6, hLd, false), (1, iP 32, hLd, false)]
def qBg : List Fact := qPre ++ [(1, iP 6, hLd, true), (2, hLd, iP 30, false), (1, iP 32, hLd, false)]
noncomputable def spW_ (l : List Ent) : CallF := spOr (spTrue 5) (spY l)
def cps (s b d : Pt) : List Ent := [eCS s, eCb b, eCD d]
def gnF : List Fact := [(1, hGn, iP 0, false), (2, iP 0, hGn, true)]
noncomputable def shl (l : List Fact) (ok : ∀ f ∈ l, ∃ x y, Dv (DZ Y0) f.2.1 x ∧ Dv (DZ Y0) f.2.2.1 y ∧ cmpN f.1 x y = f.2.2.2) (sp : CallF) (ps : List Pt) : Option (Value × Option AObj) := fst2 0 (evDS (pgL Y0 l ok) sp 2000 60 (.fn 3) (ptVals 0 ps) (memT (ptObjs ps)) 3)
end Sy
end Go.Proofs.YtdejmleboflopaaGreat
