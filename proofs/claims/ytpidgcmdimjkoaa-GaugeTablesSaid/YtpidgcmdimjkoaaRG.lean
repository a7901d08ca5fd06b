/- The law GaugeVolumes, reckoned with symbols. -/
import Derived.Test.YtpidgcmdimjkoaaRF
set_option linter.unusedVariables false
set_option linter.unusedSimpArgs false
namespace Go.Proofs.Ytpidgcmdimjkoaa
open Go.RowKit
namespace Sy
open Go.RowKit

theorem okRange : ∀ t ∈ [((32 : Nat), (2 : Nat))], ∀ (xs ys : List Int) (x y : Operand) (w : World), xs.length = t.2 → ys.length = t.2 → ((do eqGuard .eql t.1 x y (.agg (xs.map fun z => Value.int .i64 z).toArray) (.agg (ys.map fun z => Value.int .i64 z).toArray); binOp .eql t.1 (.agg (xs.map fun z => Value.int .i64 z).toArray) (.agg (ys.map fun z => Value.int .i64 z).toArray)) : Sem Value).run Try.prog w = .ok (.bool (decide (xs = ys))) w ∧
    ((do eqGuard .neq t.1 x y (.agg (xs.map fun z => Value.int .i64 z).toArray) (.agg (ys.map fun z => Value.int .i64 z).toArray); binOp .neq t.1 (.agg (xs.map fun z => Value.int .i64 z).toArray) (.agg (ys.map fun z => Value.int .i64 z).toArray)) : Sem Value).run Try.prog w = .ok (.bool (!decide (xs = ys))) w := by
  intro t ht xs ys x y w hx hy
  simp only [List.mem_singleton] at ht
  subst ht
  match xs, ys, hx, hy with
  | [a, b], [c, d], _, _ =>
    refine ⟨?_, ?_⟩
    · go_simp
      by_cases h1 : a = c <;> by_cases h2 : b = d <;> simp [h1, h2]
    · go_simp
      by_cases h1 : a = c <;> by_cases h2 : b = d <;> simp [h1, h2]
noncomputable def pgE (s : ByteArray) (bung dip : Int) (xs : List Int) (O : Obj → Prop) (l : List Fact) (ok : ∀ f ∈ l, ∃ x y, Dv (denG s (holeV s bung dip xs) O) f.2.1 x ∧ Dv (denG s (holeV s bung dip xs) O) f.2.2.1 y ∧ cmpN f.1 x y = f.2.2.2) : Pg :=
  { prog := Try.prog, den := denG s (holeV s bung dip xs) O, facts := l, ok := ok, eqs := [(32, 2)], okEq := okRange }
/-- for a cask that is wrong; for one that is right, and a dip that is not; for both right -/
noncomputable def spB (N : Nat) : CallF := spOr (spTrue 7) (spOr (spSmall 8 N true) (spOr (spCaskR 27 isName0) (spOr (spNum numsG) (spOr (spList 29 104) (spCask 52 isName0)))))
noncomputable def spD (N : Nat) : CallF := spOr (spB N) (spAreas 41 (radiiV N))
noncomputable def spL (N : Nat) : CallF := spOr (spD N) (spOr (spUp 42 lvV) (spAreaR 54 (radiiV N) lvV))
def vGood (N : Nat) : List Fact := [(0, errV N, .int .i64 0, true), (0, dipV, .int .i64 0, true), (2, .int .i64 0, hDip, true), (2, hDip, topV, true)]
def badV (N : Nat) : Value := .iface 104 (.tuple #[errV N, .iface 103 (.tuple #[hDip, .int .i64 0, .int .i64 0])])
def vBad (N : Nat) : List Fact := [(0, errV N, .int .i64 0, false), (0, badV N, .int .i64 0, false), (0, badV N, errV N, true)]
def vLow (N : Nat) : List Fact := [(0, errV N, .int .i64 0, true), (0, dipV, .int .i64 0, false), (2, .int .i64 0, hDip, false), (0, dipV, .int .i64 2, true)]
def vHigh (N : Nat) : List Fact := [(0, errV N, .int .i64 0, true), (0, dipV, .int .i64 0, false), (2, .int .i64 0, hDip, true), (2, hDip, topV, false), (0, dipV, .int .i64 2, true)]
section
variable (s : ByteArray) (bung dip : Int) (xs : List Int) (O : Obj → Prop)
end
end Sy
end Go.Proofs.Ytpidgcmdimjkoaa
