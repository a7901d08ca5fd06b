/- The law TopGaugeDips: what symbols mean, terms, what is known of calls. -/
import Derived.Test.YtpfhfphcmomfdaaAG
set_option linter.unusedVariables false
set_option linter.unusedSimpArgs false
namespace Go.Proofs.Ytpfhfphcmomfdaa
open Go.RowKit
namespace Sy
open Go.RowKit

def iD (n : Int) : Value := .int .i64 n
def hLn (N : Nat) : Value := hN (N * 3 + 3)
def hDp (N i j : Nat) : Value := hN (N * 3 + 4 + (3 * i + j))
def rowDp (N n : Nat) : List Value := (List.range (3 * n)).map fun k => hN (N * 3 + 4 + k)
def argsDp (N n : Nat) : List Value := [winV N, hDip, .iface 95 (.tuple #[iD 1, iD n, hLn N])]
def hpDp (N n : Nat) : T AObj := .node (.node .leaf (some (.win (rowDp N n))) .leaf) (some (.win (rowV N))) .leaf
def lvDp (d : Value) : Value := .iface 2 (.tuple #[d, hBung])
def subDp (N i : Nat) : Value := .iface 2 (.tuple #[hDp N i 1, hDp N i 2])
def addDp (N i : Nat) : Value := .iface 1 (.tuple #[hDp N i 1, hDp N i 2])
def lvA (N i : Nat) : Value := lvDp (.iface 5 (.tuple #[iD 0, subDp N i]))
def lvB (N i : Nat) : Value := lvDp (.iface 4 (.tuple #[topV, addDp N i]))
def nuDp (a : Value) (hi : Value) : Value := .iface 103 (.tuple #[a, iD 0, hi])
def fiDp (l : List Value) : Value := .iface 104 (.tuple l.toArray)
def fdDp (N i : Nat) : Value := fiDp [iD 0, nuDp (hDp N i 0) (iD 100000), nuDp (hDp N i 1) topV, nuDp (hDp N i 2) topV]
def numsD : List NumSp := [(36, 103, 3, []), (56, 105, 1, [100000]), (57, 106, 1, [100000])]
def numsM : List NumSp := [(56, 108, 1, [1000]), (57, 109, 1, [1000])]
/-- a call on the name, that is a right one -/
noncomputable def spNm (f : Nat) : CallF := fun t args hp nid =>
  match t with
  | .fn g => ck (Nat.beq g f && Nat.beq args.length 1) (ob args[0]? fun a => ck (isName0 a) (some (.bool true, hp, nid)))
  | .yield _ => none
/-- no loss: a right range -/
noncomputable def spRg (f : Nat) : CallF := fun t args hp nid =>
  match t with
  | .fn g => ck (Nat.beq g f && Nat.beq args.length 2) (ob args[0]? fun r => ob args[1]? fun m => withAgg r fun cs => ob cs[0]? fun a => ob cs[1]? fun b => ck (Nat.beq cs.toList.length 2 && (eqT 90 a (iD 0) && (eqT 90 b (iD 0) && eqT 90 m (iD 100000)))) (some (iD 0, hp, nid)))
  | .yield _ => none
/-- the day 500: a right one -/
noncomputable def spDt (f : Nat) : CallF := fun t args hp nid =>
  match t with
  | .fn g => ck (Nat.beq g f && Nat.beq args.length 1) (ob args[0]? fun a => ck (eqT 90 a (iD 500)) (some (iD 0, hp, nid)))
  | .yield _ => none
noncomputable def spLvD : List Value → CallF := fun l => List.rec (fun _ _ _ _ => none) (fun lv _ ih => spOr (spUp 38 lv) ih) l
def lvsDp (N : Nat) : Nat → List Value
  | 0 => [lvV]
  | n + 1 => lvA N n :: lvB N n :: lvsDp N n
noncomputable def spDD (N n : Nat) : CallF := spOr (spTrue 4) (spOr (spSmall 5 N true) (spOr (spCaskR 18 isName0) (spOr (spNm 46) (spOr (spNm 25) (spOr (spRg 58) (spOr (spDt 23) (spOr (spNum numsM) (spOr (spNum numsD) (spOr (spList 20 104) (spOr (spCask 39 isName0) (spOr (spAreas 37 (radiiV N)) (spLvD (lvsDp N n)))))))))))))
def preDp (N : Nat) : List Fact := [(0, errV N, iD 0, true), (2, iD 0, hDip, true), (2, hDip, topV, true), (0, dipW hDip, iD 0, true), (0, hLn N, iD 0, false), (1, iD 6, hLn N, false), (1, iD 100000, fHi lvV N, false)]
def dayDp (N i : Nat) : List Fact := match i with
  | 0 => []
  | i + 1 => [(1, hDp N (i + 1) 0, hDp N i 0, false)]
def rgDp (N i : Nat) : Value := fiDp [nuDp (fLo (lvA N i) N) (iD 100000), nuDp (fHi (lvB N i) N) (iD 100000), iD 0]
def oneDp (N i : Nat) : List Fact := [(1, iD i, hLn N, true), (2, iD 0, hDp N i 0, true), (2, hDp N i 0, iD 1000, true)] ++ dayDp N i ++ [(2, iD 0, hDp N i 1, true), (2, hDp N i 1, topV, true), (2, iD 0, hDp N i 2, true), (2, hDp N i 2, topV, true), (2, subDp N i, hDip, true), (2, hDip, addDp N i, true),
  (0, fdDp N i, iD 0, true), (1, iD 100000, fHi (lvB N i) N, false), (2, hDp N i 0, iD 100000, true), (2, iD 0, fLo (lvA N i) N, true), (2, fLo (lvA N i) N, iD 100000, true), (2, iD 0, fHi (lvB N i) N, true), (2, fHi (lvB N i) N, iD 100000, true), (1, fHi (lvB N i) N, fLo (lvA N i) N, false)]
def allDp (N : Nat) : Nat → List Fact
  | 0 => preDp N
  | n + 1 => allDp N n ++ oneDp N n
def loDp (N i : Nat) : Value := fLo (lvA N i) N
def hiDp (N i : Nat) : Value := fHi (lvB N i) N
/-- what the book's check asks of each gauging -/
def bookDp (N i : Nat) : List Fact := [(2, loDp N i, hiDp N i, true), (0, fiDp [fiDp [iD 0, nuDp (hDp N i 0) (iD 100000), rgDp N i], iD 0], iD 0, true)] ++ (match i with
  | 0 => []
  | i + 1 => [(2, hDp N i 0, hDp N (i + 1) 0, true)])
def thDp (x : Value) : Value := .iface 3 (.tuple #[iD 1000, .iface 1 (.tuple #[x, iD 0])])
def sbDp (a b : Value) : Value := .iface 2 (.tuple #[a, b])
def mlDp (a b : Value) : Value := .iface 3 (.tuple #[a, b])
def pairDp (N i j : Nat) : List Fact := [(1, iD 0, sbDp (hDp N i 0) (hDp N j 0), false), (1, .iface 4 (.tuple #[sbDp (thDp (hiDp N i)) (mlDp (iD 0) (sbDp (hDp N j 0) (hDp N i 0))), thDp (hiDp N j)]), .iface 5 (.tuple #[sbDp (thDp (loDp N i)) (mlDp (iD 0) (sbDp (hDp N j 0) (hDp N i 0))), thDp (loDp N j)]), false)]
def pairsDp (N : Nat) : Nat → List Fact
  | 0 => []
  | j + 1 => pairsDp N j ++ (List.range j).flatMap fun i => pairDp N i j
def atDp (N m i : Nat) : Fact := (1, iD 0, sbDp (hDp N i 0) (iD 500), !Nat.blt i m)
/-- what a gauging allows on the day 500 (the first m of them lie not behind it) -/
def alDp (N m i : Nat) (x : Value) : Value := if Nat.blt i m then sbDp (thDp x) (mlDp (iD 0) (sbDp (iD 500) (hDp N i 0))) else .iface 1 (.tuple #[thDp x, mlDp (iD 0) (sbDp (hDp N i 0) (iD 500))])
def heLo (N m : Nat) : Nat → Value
  | 0 => .int .i64 (-9223372036854775808)
  | i + 1 => .iface 5 (.tuple #[heLo N m i, alDp N m i (loDp N i)])
def heHi (N m : Nat) : Nat → Value
  | 0 => .int .i64 9223372036854775807
  | i + 1 => .iface 4 (.tuple #[heHi N m i, alDp N m i (hiDp N i)])
def lastDp (N n m : Nat) : List Fact := [(2, .iface 108 (.tuple #[heLo N m n]), fLo lvV N, true), (2, fHi lvV N, .iface 109 (.tuple #[heHi N m n]), true)]
def endDp (N n m : Nat) : List Fact := [(1, iD n, hLn N, false), (0, fiDp [iD 0, iD 0, iD 0], iD 0, true), (0, fiDp [iD 0, iD 0, iD 0, iD 0], iD 0, true)] ++ (List.range n).flatMap (bookDp N) ++ pairsDp N n ++ (List.range n).map (atDp N m) ++ lastDp N n m
noncomputable def pgDp (s : ByteArray) (bung dip : Int) (xs : List Int) (l : List Fact) (ok : ∀ f ∈ l, ∃ x y, Dv (D0 s bung dip xs (fun _ => True)) f.2.1 x ∧ Dv (D0 s bung dip xs (fun _ => True)) f.2.2.1 y ∧ cmpN f.1 x y = f.2.2.2) : Pg :=
  { prog := Try.prog, den := D0 s bung dip xs (fun _ => True), facts := l, ok := ok, strs := [0], okStr := fun k hk => by
      simp only [List.mem_singleton] at hk
      subst hk
      exact ⟨s, rfl⟩ }
end Sy
end Go.Proofs.Ytpfhfphcmomfdaa
