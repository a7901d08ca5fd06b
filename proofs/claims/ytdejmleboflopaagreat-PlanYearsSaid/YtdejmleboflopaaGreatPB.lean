/- Systems of chapter 6: what symbols stand for; terms; facts. -/
import Derived.Test.YtdejmleboflopaaGreatPX
import Derived.Test.YtdejmleboflopaaGreatSY22
import Derived.Test.YtdejmleboflopaaGreatF2
set_option linter.unusedVariables false
set_option linter.unusedSimpArgs false
namespace Go.Proofs.YtdejmleboflopaaGreat
open Go.RowKit
namespace Sy
open Go.RowKit

/-- n / d, rounded down and up, as package ranges and the checker reckon it -/
def flZ (n d : Int) : Int := if n.tmod d < 0 then wrap64 (wrap64 (n.tdiv d) - 1) else wrap64 (n.tdiv d)
def ceZ (n d : Int) : Int := wrap64 (-(flZ (IntKind.i64.wrap (-n)) d))
def intP (t : Nat) (xs : List Int) : Int :=
  match t, xs with
  | 103, [n, lo, hi] => numE n lo hi
  | 104, xs => firstL xs
  | 110, [n, d] => flZ n d
  | 111, [n, d] => ceZ n d
  | 113, [lo, hi, most] => rangeE lo hi most
  | _, _ => 0
abbrev DP (hole : Nat → Value) : Dn := { hole := hole, int := intP, obj := fun _ _ _ => False }
def iP (n : Int) : Value := .int .i64 n
def hP (n : Nat) : Value := .iface 0 (.int .i64 (.ofNat n))
/-- the system: New; Volume, Loss and Least of each scale; the ages at first; the draw -/
def hNew : Value := hP 0
def hSc (i j : Nat) : Value := hP (1 + 4 * i + j)
def hBg (i j : Nat) : Value := hP (17 + 2 * i + j)
def hDr : Value := hP 30
def rowS (N : Nat) : List Value := (List.range (4 * N)).map fun k => hP (1 + k)
def rowB (N : Nat) : List Value := (List.range (2 * N)).map fun k => hP (17 + k)
def hpS (N : Nat) : T AObj := .node (.node .leaf (some (.win (rowB N))) .leaf) (some (.win (rowS N))) .leaf
def sysW (N : Nat) : Value := .agg #[.iface 91 (.tuple #[iP 0, iP N]), hNew]
def begW (N : Nat) : Value := .iface 91 (.tuple #[iP 1, iP N])
def scaleF (i : Nat) : List Fact := [(2, iP 1, hSc i 0, true), (2, hSc i 0, iP 20000, true), (2, iP 0, hSc i 1, true), (2, hSc i 1, hSc i 0, true), (2, iP 0, hSc i 2, true), (2, hSc i 2, hSc i 0, true), (2, hSc i 1, hSc i 2, true), (1, hSc i 2, hSc i 1, false), (2, iP 0, hSc i 3, true), (2, hSc i 3, iP 100000, true)]
def begF (i : Nat) : List Fact := [(2, iP 0, hBg i 0, true), (2, hBg i 0, iP 100000, true), (2, iP 0, hBg i 1, true), (2, hBg i 1, iP 100000, true), (2, hBg i 0, hBg i 1, true), (1, hBg i 1, hBg i 0, false)]
def sysF (N : Nat) : List Fact := [(2, iP 0, hNew, true), (2, hNew, iP 100000, true)] ++ (List.range N).flatMap scaleF ++ (List.range N).flatMap begF
def b1 (t : Nat) (a b : Value) : Value := .iface t (.tuple #[a, b])
/-- flows with a draw -/
def flT (x : Value) (j : Nat) : Nat → Value
  | 0 => b1 1 x (hSc 0 j)
  | i + 1 => b1 1 (flT x j i) (hSc (i + 1) j)
def nxT (N i j : Nat) : Value := if i + 1 < N then hBg (i + 1) j else hNew
def smT (i : Nat) (f own next : Value) : Value := b1 1 (b1 3 (b1 2 (hSc i 0) f) own) (b1 3 f next)
/-- the least age of a scale behind a year -/
def agT (N : Nat) (x : Value) (i : Nat) : Value := b1 1 (b1 110 (b1 4 (smT i (flT x 1 i) (hBg i 0) (nxT N i 0)) (smT i (flT x 2 i) (hBg i 0) (nxT N i 0))) (hSc i 0)) (iP 1000)
def fullF (x : Value) (i : Nat) (c : Bool) : Fact := (1, hSc i 0, flT x 2 i, c)
def shortF (N : Nat) (x : Value) (i : Nat) (c : Bool) : Fact := (1, agT N x i, hSc i 3, c)
/-- no flow is too great, no scale is short -/
def goodF (N : Nat) (x : Value) : List Fact := (List.range N).map (fun i => fullF x i false) ++ (List.range N).map (fun i => shortF N x i false)
/-- with one draw -/
def hX : Value := hP 32
def hpF (N : Nat) : T AObj := .node (.node .leaf (some (.win (rowB N))) .leaf) (some (.win (rowS N))) (.node .leaf (some (.win [hX])) .leaf)
def drW : Value := .iface 91 (.tuple #[iP 2, iP 1])
/-- divisions by volumes -/
noncomputable def spDivs (f code : Nat) (ds : List Value) : CallF := fun t args hp nid =>
  match t with
  | .fn g => ck (Nat.beq g f && Nat.beq args.length 2) (ob args[0]? fun a => ob args[1]? fun b => ck (isNum a && ds.any fun d => eqT 90 b d) (some (b1 code a b, hp, nid)))
  | .yield _ => none
def volsP (N : Nat) : List Value := (List.range N).map fun i => hSc i 0
noncomputable def spP (N : Nat) : CallF := spOr (spDivs 91 110 (volsP N)) (spDivs 92 111 (volsP N))
end Sy
end Go.Proofs.YtdejmleboflopaaGreat
