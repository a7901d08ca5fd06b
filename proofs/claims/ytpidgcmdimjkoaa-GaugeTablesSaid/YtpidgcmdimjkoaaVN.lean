/- The law GaugeTables: what symbols mean, terms, what is known of calls. -/
import Derived.Test.YtpidgcmdimjkoaaAG
set_option linter.unusedVariables false
set_option linter.unusedSimpArgs false
namespace Go.Proofs.Ytpidgcmdimjkoaa
open Go.RowKit
namespace Sy
open Go.RowKit

set_option maxRecDepth 100000 in
theorem okEqT : ∀ t ∈ [((32 : Nat), (2 : Nat)), (86, 3)], ∀ (xs ys : List Int) (x y : Operand) (w : World), xs.length = t.2 → ys.length = t.2 → ((do eqGuard .eql t.1 x y (.agg (xs.map fun z => Value.int .i64 z).toArray) (.agg (ys.map fun z => Value.int .i64 z).toArray); binOp .eql t.1 (.agg (xs.map fun z => Value.int .i64 z).toArray) (.agg (ys.map fun z => Value.int .i64 z).toArray)) : Sem Value).run Try.prog w = .ok (.bool (decide (xs = ys))) w ∧
    ((do eqGuard .neq t.1 x y (.agg (xs.map fun z => Value.int .i64 z).toArray) (.agg (ys.map fun z => Value.int .i64 z).toArray); binOp .neq t.1 (.agg (xs.map fun z => Value.int .i64 z).toArray) (.agg (ys.map fun z => Value.int .i64 z).toArray)) : Sem Value).run Try.prog w = .ok (.bool (!decide (xs = ys))) w := by
  intro t ht xs ys x y w hx hy
  simp only [List.mem_cons, List.not_mem_nil, or_false] at ht
  rcases ht with rfl | rfl
  · exact okRange _ (by simp) xs ys x y w hx hy
  · match xs, ys, hx, hy with
    | [a, b, e], [c, d, f], _, _ =>
      refine ⟨?_, ?_⟩
      · go_simp
        by_cases h1 : a = c <;> by_cases h2 : b = d <;> by_cases h3 : e = f <;> simp [h1, h2, h3]
      · go_simp
        by_cases h1 : a = c <;> by_cases h2 : b = d <;> by_cases h3 : e = f <;> simp [h1, h2, h3]
set_option maxRecDepth 100000 in
theorem okEqhT (s : ByteArray) (hole : Nat → Value) (hs : hole 0 = .string s) : ∀ t ∈ [((52 : Nat), (0 : Nat), (3 : Nat))], ∀ (xs ys : List Int) (x y : Operand) (w : World), xs.length = t.2.2 → ys.length = t.2.2 → ((do eqGuard .eql t.1 x y (.agg (hole t.2.1 :: xs.map fun z => Value.int .i64 z).toArray) (.agg (hole t.2.1 :: ys.map fun z => Value.int .i64 z).toArray); binOp .eql t.1 (.agg (hole t.2.1 :: xs.map fun z => Value.int .i64 z).toArray) (.agg (hole t.2.1 :: ys.map fun z => Value.int .i64 z).toArray)) : Sem Value).run Try.prog w = .ok (.bool (decide (xs = ys))) w ∧
    ((do eqGuard .neq t.1 x y (.agg (hole t.2.1 :: xs.map fun z => Value.int .i64 z).toArray) (.agg (hole t.2.1 :: ys.map fun z => Value.int .i64 z).toArray); binOp .neq t.1 (.agg (hole t.2.1 :: xs.map fun z => Value.int .i64 z).toArray) (.agg (hole t.2.1 :: ys.map fun z => Value.int .i64 z).toArray)) : Sem Value).run Try.prog w = .ok (.bool (!decide (xs = ys))) w := by
  intro t ht xs ys x y w hx hy
  simp only [List.mem_singleton] at ht
  subst ht
  simp only [hs]
  match xs, ys, hx, hy with
  | [a, b, e], [c, d, f], _, _ =>
    refine ⟨?_, ?_⟩
    · go_simp
      by_cases h1 : a = c <;> by_cases h2 : b = d <;> by_cases h3 : e = f <;> simp [h1, h2, h3]
    · go_simp
      by_cases h1 : a = c <;> by_cases h2 : b = d <;> by_cases h3 : e = f <;> simp [h1, h2, h3]
noncomputable def pgT (s : ByteArray) (bung dip : Int) (xs : List Int) (O : Obj → Prop) (l : List Fact) (ok : ∀ f ∈ l, ∃ x y, Dv (denG s (holeV s bung dip xs) O) f.2.1 x ∧ Dv (denG s (holeV s bung dip xs) O) f.2.2.1 y ∧ cmpN f.1 x y = f.2.2.2) : Pg :=
  { prog := Try.prog, den := denG s (holeV s bung dip xs) O, facts := l, ok := ok, eqs := [(32, 2), (86, 3)], okEq := okEqT, eqh := [(52, 0, 3)], okEqh := okEqhT s (holeV s bung dip xs) rfl }
def hX (N j : Nat) : Value := hN (N * 3 + 3 + j)
def tN (a : Value) (lo : Int) (hi : Value) : Value := .iface 103 (.tuple #[a, .int .i64 lo, hi])
def tFi (l : List Value) : Value := .iface 104 (.tuple l.toArray)
def tI (n : Int) : Value := .int .i64 n
def dK : Nat → Value
  | 0 => tI 0
  | k + 1 => .iface 1 (.tuple #[dK k, hDip])
def lvD (d : Value) : Value := .iface 2 (.tuple #[d, hBung])
def tLo (N : Nat) : Value := .iface 5 (.tuple #[tI 0, .iface 2 (.tuple #[hX N 1, hX N 2])])
def tHi (N : Nat) : Value := .iface 4 (.tuple #[topV, .iface 1 (.tuple #[hX N 1, hX N 2])])
def stE (e : Value) : Value := tFi [e, tN hDip 10 (tI 800)]
def fdE (N : Nat) (e : Value) (top : Value) : Value := tFi [e, tN (hX N 0) 0 (tI 100000), tN (hX N 1) 0 top, tN (hX N 2) 0 top]
def rowF : Nat → Nat → List Fact
  | 0, k => [(2, dK k, topV, false)]
  | n + 1, k => (2, dK k, topV, true) :: rowF n (k + 1)
def stG : List Fact := [(0, stE (tI 0), tI 0, true), (2, tI 10, hDip, true), (2, hDip, tI 800, true)]
def stL : List Fact := [(0, stE (tI 0), tI 0, false), (0, stE (tI 0), tI 2, true), (2, tI 10, hDip, false)]
def stH : List Fact := [(0, stE (tI 0), tI 0, false), (0, stE (tI 0), tI 2, true), (2, tI 10, hDip, true), (2, hDip, tI 800, false)]
def fdA (N : Nat) : List Fact := [(2, tI 0, hX N 0, true), (2, hX N 0, tI 100000, true), (2, tI 0, hX N 1, true), (2, hX N 1, topV, true), (2, tI 0, hX N 2, true), (2, hX N 2, topV, true)]
def fdG (N : Nat) (c : Bool) : List Fact := (0, fdE N (tI 0) topV, tI 0, true) :: (fdA N ++ [(1, tI 100000, fHi (lvD (tHi N)) N, c)])
def fdB (N : Nat) : List Fact := [(0, fdE N (tI 0) topV, tI 0, false), (0, fdE N (tI 0) topV, tI 2, true)]
/-- how FromDip goes: 0, 1 well, 2 not -/
def fdF (N : Nat) : Nat → List Fact
  | 0 => fdG N false
  | 1 => fdG N true
  | _ => fdB N
/-- how TableOf goes: so many rows, or (100, 101) a step that is too small, too great -/
def stF : Nat → List Fact
  | 100 => stL
  | 101 => stH
  | n => stG ++ rowF n 0
def tAll (N n j : Nat) : List Fact := (0, errV N, tI 0, true) :: (stF n ++ fdF N j)
def tBad (N : Nat) : List Fact := [(0, errV N, tI 0, false), (0, stE (errV N), tI 0, false), (0, stE (errV N), errV N, true), (0, fdE N (errV N) (tI 0), tI 0, false), (0, fdE N (errV N) (tI 0), errV N, true)]
def lvls (l : List Value) : Nat → List Value
  | 0 => l
  | n + 1 => lvD (dK n) :: lvls l n
noncomputable def spLv (N : Nat) (l : List Value) : CallF := List.rec (fun _ _ _ _ => none) (fun lv _ ih => spOr (spUp 42 lv) (spOr (spAreaR 54 (radiiV N) lv) ih)) l
noncomputable def spGTA (N : Nat) : CallF := spOr (spDB N) (spOr (spNum numsG) (spOr (spList 29 104) (spCask 52 isName0)))
noncomputable def spGTB (N : Nat) : CallF := spOr (spDB N) (spOr (spNum numsG) (spOr (spList 29 104) (spOr (spCask 52 isName0) (spAreas 41 (radiiV N)))))
noncomputable def spGTT (N n : Nat) : CallF := spOr (spGTB N) (spLv N (lvls [lvD (tLo N), lvD (tHi N)] n))
/-- the reference's FromDip, where a number is not right -/
noncomputable def spFDR (N : Nat) : CallF := fun t args hp nid =>
  match t with
  | .fn g => ck (Nat.beq g 20 && Nat.beq args.length 2) (ob args[0]? fun c => ob args[1]? fun x => withAgg c fun cs => withAgg x fun ys => ob cs[0]? fun nm => ob cs[1]? fun bung => ob cs[2]? fun st => withOsl st fun b lt => withNat lt fun n => ob ys[0]? fun a => ob ys[1]? fun p => ob ys[2]? fun q =>
      ck (Nat.beq cs.toList.length 3 && (Nat.beq ys.toList.length 3 && (isName0 nm && (eqT 90 bung hBung && (eqT 90 a (hX N 0) && (eqT 90 p (hX N 1) && eqT 90 q (hX N 2))))))) (some (.tuple #[.agg #[.string ⟨#[]⟩, tI 0, tI 0, tI 0], tI 2], hp, nid)))
  | .yield _ => none
noncomputable def spGT2 (N n : Nat) : CallF := spOr (spFDR N) (spOr (spGTB N) (spLv N (lvls [] n)))
def argsT (N : Nat) : List Value := [winV N, hDip, .agg #[hX N 0, hX N 1, hX N 2]]
end Sy
end Go.Proofs.Ytpidgcmdimjkoaa
