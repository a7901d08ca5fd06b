/- The law TopGaugeDips: facts and arguments. -/
import Derived.Test.YtpfhfphcmomfdaaDH
set_option linter.unusedVariables false
set_option linter.unusedSimpArgs false
namespace Go.Proofs.Ytpfhfphcmomfdaa
open Go.RowKit
namespace Sy
open Go.RowKit

/-- lists as holes -/
def holeL (s : ByteArray) (bung dip : Int) (zs : List Int) (v : Value) (n : Nat) : Value :=
  match n with
  | 0 => .string s
  | 1 => .int .i64 bung
  | 2 => .int .i64 dip
  | n + 3 => if n = 500 then v else .int .i64 (zs.getD n 0)
abbrev DL (s : ByteArray) (bung dip : Int) (zs : List Int) (v : Value) : Dn := denG s (holeL s bung dip zs v) (fun _ => True)
noncomputable def pgL (s : ByteArray) (bung dip : Int) (zs : List Int) (v : Value) (l : List Fact) (ok : ∀ f ∈ l, ∃ x y, Dv (DL s bung dip zs v) f.2.1 x ∧ Dv (DL s bung dip zs v) f.2.2.1 y ∧ cmpN f.1 x y = f.2.2.2) : Pg :=
  { prog := Try.prog, den := DL s bung dip zs v, facts := l, ok := ok }
def argsL (N : Nat) : List Value := [winV N, hDip, .iface 94 (.tuple #[iD 503, hLn N])]
noncomputable def spL0 (N : Nat) : CallF := spOr (spTrue 4) (spOr (spSmall 5 N true) (spCaskR 18 isName0))
def gL (N : Nat) : List Fact := [(0, errV N, iD 0, true), (2, iD 0, hDip, true), (2, hDip, topV, true), (0, hLn N, iD 0, false), (1, iD 6, hLn N, false)]
def eL (N k : Nat) : List Fact := (gL N).take k ++ [negF ((gL N).getD k (0, iD 0, iD 0, true))]
/-- the cask as a hole, too -/
def holeM (s : ByteArray) (bung dip len : Int) (v l : Value) (n : Nat) : Value :=
  match n with
  | 0 => .string s
  | 1 => .int .i64 bung
  | 2 => .int .i64 0
  | 3 => v
  | 4 => .int .i64 dip
  | 5 => l
  | 6 => .int .i64 len
  | _ => .int .i64 0
abbrev DM (s : ByteArray) (bung dip len : Int) (v l : Value) : Dn := denG s (holeM s bung dip len v l) (fun _ => True)
noncomputable def pgM (s : ByteArray) (bung dip len : Int) (v u : Value) (l : List Fact) (ok : ∀ f ∈ l, ∃ x y, Dv (DM s bung dip len v u) f.2.1 x ∧ Dv (DM s bung dip len v u) f.2.2.1 y ∧ cmpN f.1 x y = f.2.2.2) : Pg :=
  { prog := Try.prog, den := DM s bung dip len v u, facts := l, ok := ok }
def argsM : List Value := [c3, hN 4, .iface 94 (.tuple #[iD 5, hN 6])]
noncomputable def spM0 (c : Bool) : CallF := spOr (spTrue 4) (spSmallY 5 c)
noncomputable def spM1 : CallF := spOr (spM0 true) (spCaskR0 18)

/-! With gaugings by dips known. -/
noncomputable def spFDs (N : Nat) (b : Bool) : Nat → CallF := fun n => Nat.rec (motive := fun _ => CallF) spNone (fun i ih => spOr (spFD 11 N i (b && Nat.beq (Nat.succ i) n)) ih) n
noncomputable def spFDl (N : Nat) : Nat → CallF := fun n => Nat.rec (motive := fun _ => CallF) spNone (fun i ih => spOr (spFD 11 N i false) ih) n
noncomputable def spQ0 (N : Nat) : CallF := spOr (spTrue 4) (spOr (spSmall 5 N true) (spOr (spCaskR 18 isName0) (spOr (spNm 46) (spOr (spNm 25) (spOr (spRg 58) (spOr (spDt 23) (spOr (spNum numsM) (spOr (spNum numsD) (spOr (spList 20 104) (spOr (spCask 39 isName0) (spOr (spAreas 37 (radiiV N)) (spUp 38 lvV))))))))))))
noncomputable def spQ (N n : Nat) : CallF := spOr (spFDl N n) (spQ0 N)
noncomputable def spQB (N n : Nat) : CallF := spOr (spFD 11 N n true) (spQ N n)
def g0Q (N : Nat) : List Fact := [(0, errV N, iD 0, true), (2, iD 0, hDip, true), (2, hDip, topV, true), (0, dipW hDip, iD 0, true), (0, hLn N, iD 0, false), (1, iD 6, hLn N, false)]
def bigF (N : Nat) : Fact := (1, iD 100000, fHi lvV N, false)
/-- what is asked of a dip, by the law -/
def gQ (N i : Nat) : List Fact := [(2, iD 0, hDp N i 0, true), (2, hDp N i 0, iD 1000, true)] ++ dayDp N i ++ [(2, iD 0, hDp N i 1, true), (2, hDp N i 1, topV, true), (2, iD 0, hDp N i 2, true), (2, hDp N i 2, topV, true), (2, subDp N i, hDip, true), (2, hDip, addDp N i, true), (1, iD 100000, hiDp N i, false)]
def dQ (N i : Nat) : List Fact := [(2, hDp N i 0, iD 100000, true), (2, iD 0, loDp N i, true), (2, loDp N i, iD 100000, true), (2, iD 0, hiDp N i, true), (2, hiDp N i, iD 100000, true), (1, hiDp N i, loDp N i, false)]
def lnF (N i : Nat) : Fact := (1, iD i, hLn N, true)
def allQ (N : Nat) : Nat → List Fact
  | 0 => g0Q N ++ [bigF N]
  | n + 1 => allQ N n ++ (lnF N n :: (gQ N n ++ dQ N n))
def eQ (N i k : Nat) : List Fact := (allQ N i ++ [lnF N i]) ++ ((gQ N i).take k ++ [negF ((gQ N i).getD k (0, iD 0, iD 0, true))])
def bookQ (N i : Nat) : List Fact := [(2, loDp N i, hiDp N i, true), (0, fiDp [fiDp [iD 0, nuDp (hDp N i 0) (iD 100000), rgDp N i], iD 0], iD 0, true)] ++ (match i with
  | 0 => []
  | i + 1 => [(2, hDp N i 0, hDp N (i + 1) 0, true)])
def endQ (N n m : Nat) : List Fact := [(1, iD n, hLn N, false), (0, fiDp [iD 0, iD 0, iD 0], iD 0, true), (0, fiDp [iD 0, iD 0, iD 0, iD 0], iD 0, true)] ++ ((List.range n).flatMap (bookQ N) ++ (pairsDp N n ++ ((List.range n).map (atDp N m) ++ lastDp N n m)))
end Sy
end Go.Proofs.Ytpfhfphcmomfdaa
