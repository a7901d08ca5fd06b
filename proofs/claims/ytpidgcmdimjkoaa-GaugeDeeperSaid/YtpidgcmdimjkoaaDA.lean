/- The law GaugeDeeper, reckoned with symbols. -/
import Derived.Test.YtpidgcmdimjkoaaRM
import Derived.Test.YtpidgcmdimjkoaaRK
import Derived.Test.YtpidgcmdimjkoaaTC
set_option linter.unusedVariables false
set_option linter.unusedSimpArgs false
namespace Go.Proofs.Ytpidgcmdimjkoaa
open Go.RowKit
namespace Sy
open Go.RowKit

def hD1 (N : Nat) : Value := hN (N * 3 + 3)
def hB0 (N : Nat) : Value := hN (N * 3 + 4)
def hB1 (N : Nat) : Value := hN (N * 3 + 5)
def lvD1 (N : Nat) : Value := .iface 2 (.tuple #[hD1 N, hBung])
def wIn (N k : Nat) : Value := .iface 5 (.tuple #[.int .i64 10, .iface 2 (.tuple #[hSt k 1, hB0 N])])
def wOut (N k : Nat) : Value := .iface 4 (.tuple #[hBung, .iface 1 (.tuple #[hSt k 2, hB1 N])])
def rowWd (N : Nat) : List Value := (List.range N).flatMap fun k => [hSt k 0, wIn N k, wOut N k]
def errWd (N : Nat) : Value := .iface 121 (.tuple (hBung :: rowWd N).toArray)
def radiiWd (N : Nat) : List Value := (List.range (N - 1)).map (fun k => .iface 4 (.tuple #[wIn N k, wIn N (k + 1)])) ++ (List.range (N - 1)).map (fun k => .iface 5 (.tuple #[wOut N k, wOut N (k + 1)]))
def loWd (N : Nat) (lv : Value) : Nat → Value
  | 0 => .int .i64 0
  | k + 1 => .iface 1 (.tuple #[loWd N lv k, .iface 3 (.tuple #[.iface 2 (.tuple #[hSt (k + 1) 0, hSt k 0]), .iface 101 (.tuple #[.iface 4 (.tuple #[wIn N k, wIn N (k + 1)]), lv])])])
def hiWd (N : Nat) (lv : Value) : Nat → Value
  | 0 => .int .i64 0
  | k + 1 => .iface 1 (.tuple #[hiWd N lv k, .iface 3 (.tuple #[.iface 2 (.tuple #[hSt (k + 1) 0, hSt k 0]), .iface 102 (.tuple #[.iface 5 (.tuple #[wOut N k, wOut N (k + 1)]), lv])])])
def fLoWd (N : Nat) : Value := .iface 105 (.tuple #[loWd N (lvD1 N) (N - 1)])
def fHiWd (N : Nat) : Value := .iface 106 (.tuple #[hiWd N (lvD1 N) (N - 1)])
def dG (N : Nat) : List Fact := [(0, errV N, .int .i64 0, true), (2, .int .i64 0, hDip, true), (2, hDip, topV, true), (2, .int .i64 0, hD1 N, true), (2, hD1 N, topV, true), (1, hD1 N, hDip, false), (2, .int .i64 0, hB0 N, true), (2, hB0 N, .int .i64 100, true), (2, .int .i64 0, hB1 N, true), (2, hB1 N, .int .i64 100, true)]
def dRest (N : Nat) : List Fact := [(0, dipW hDip, .int .i64 0, true), (0, dipW (hD1 N), .int .i64 0, true), (1, fHi lvV N, fLo lvV N, false), (1, fLo (lvD1 N) N, fLo lvV N, false), (1, fHi (lvD1 N) N, fHi lvV N, false), (0, errWd N, .int .i64 0, true), (2, fLoWd N, fLo (lvD1 N) N, true), (2, fHi (lvD1 N) N, fHiWd N, true)]
def dNeg (N : Nat) : Nat → Fact
  | 0 => (0, errV N, .int .i64 0, false)
  | 1 => (2, .int .i64 0, hDip, false)
  | 2 => (2, hDip, topV, false)
  | 3 => (2, .int .i64 0, hD1 N, false)
  | 4 => (2, hD1 N, topV, false)
  | 5 => (1, hD1 N, hDip, true)
  | 6 => (2, .int .i64 0, hB0 N, false)
  | 7 => (2, hB0 N, .int .i64 100, false)
  | 8 => (2, .int .i64 0, hB1 N, false)
  | _ => (2, hB1 N, .int .i64 100, false)
def dF (N k : Nat) : List Fact := (dG N).take k ++ [dNeg N k]
noncomputable def spDB (N : Nat) : CallF := spOr (spTrue 7) (spOr (spSmall 8 N true) (spCaskR 27 isName0))
noncomputable def spDe (N : Nat) : CallF := spOr (spDB N) (spOr (spNum numsT) (spOr (spList 29 104) (spOr (spCask 52 isName0) (spOr (spAreas 41 (radiiV N)) (spOr (spAreas 41 (radiiWd N)) (spOr (spUp 42 lvV) (spUp 42 (lvD1 N))))))))
def argsD (N : Nat) : List Value := [winV N, .agg #[hDip, hD1 N], .agg #[hB0 N, hB1 N]]
section
variable (s : ByteArray) (bung dip : Int) (xs : List Int) (O : Obj → Prop)
theorem dRun2 (ok) : fstW (evDS (pgE s bung dip xs O (dG 2 ++ dRest 2) ok) (spDe 2) 2000 60 (.fn 3) (argsD 2) (hpW 2) 1) = some (.bool true, some (.win (rowV 2))) := by kernel_rfl
theorem dEarly2_1 (ok) : fstW (evDS (pgE s bung dip xs O (dF 2 1) ok) (spDB 2) 2000 60 (.fn 3) (argsD 2) (hpW 2) 1) = some (.bool true, some (.win (rowV 2))) := by kernel_rfl
theorem dEarly2_2 (ok) : fstW (evDS (pgE s bung dip xs O (dF 2 2) ok) (spDB 2) 2000 60 (.fn 3) (argsD 2) (hpW 2) 1) = some (.bool true, some (.win (rowV 2))) := by kernel_rfl
theorem dEarly2_3 (ok) : fstW (evDS (pgE s bung dip xs O (dF 2 3) ok) (spDB 2) 2000 60 (.fn 3) (argsD 2) (hpW 2) 1) = some (.bool true, some (.win (rowV 2))) := by kernel_rfl
theorem dEarly2_4 (ok) : fstW (evDS (pgE s bung dip xs O (dF 2 4) ok) (spDB 2) 2000 60 (.fn 3) (argsD 2) (hpW 2) 1) = some (.bool true, some (.win (rowV 2))) := by kernel_rfl
theorem dEarly2_5 (ok) : fstW (evDS (pgE s bung dip xs O (dF 2 5) ok) (spDB 2) 2000 60 (.fn 3) (argsD 2) (hpW 2) 1) = some (.bool true, some (.win (rowV 2))) := by kernel_rfl
theorem dEarly2_6 (ok) : fstW (evDS (pgE s bung dip xs O (dF 2 6) ok) (spDB 2) 2000 60 (.fn 3) (argsD 2) (hpW 2) 1) = some (.bool true, some (.win (rowV 2))) := by kernel_rfl
theorem dEarly2_7 (ok) : fstW (evDS (pgE s bung dip xs O (dF 2 7) ok) (spDB 2) 2000 60 (.fn 3) (argsD 2) (hpW 2) 1) = some (.bool true, some (.win (rowV 2))) := by kernel_rfl
theorem dEarly2_8 (ok) : fstW (evDS (pgE s bung dip xs O (dF 2 8) ok) (spDB 2) 2000 60 (.fn 3) (argsD 2) (hpW 2) 1) = some (.bool true, some (.win (rowV 2))) := by kernel_rfl
theorem dEarly2_9 (ok) : fstW (evDS (pgE s bung dip xs O (dF 2 9) ok) (spDB 2) 2000 60 (.fn 3) (argsD 2) (hpW 2) 1) = some (.bool true, some (.win (rowV 2))) := by kernel_rfl
theorem dRun3 (ok) : fstW (evDS (pgE s bung dip xs O (dG 3 ++ dRest 3) ok) (spDe 3) 2000 60 (.fn 3) (argsD 3) (hpW 3) 1) = some (.bool true, some (.win (rowV 3))) := by kernel_rfl
theorem dEarly3_1 (ok) : fstW (evDS (pgE s bung dip xs O (dF 3 1) ok) (spDB 3) 2000 60 (.fn 3) (argsD 3) (hpW 3) 1) = some (.bool true, some (.win (rowV 3))) := by kernel_rfl
theorem dEarly3_2 (ok) : fstW (evDS (pgE s bung dip xs O (dF 3 2) ok) (spDB 3) 2000 60 (.fn 3) (argsD 3) (hpW 3) 1) = some (.bool true, some (.win (rowV 3))) := by kernel_rfl
theorem dEarly3_3 (ok) : fstW (evDS (pgE s bung dip xs O (dF 3 3) ok) (spDB 3) 2000 60 (.fn 3) (argsD 3) (hpW 3) 1) = some (.bool true, some (.win (rowV 3))) := by kernel_rfl
theorem dEarly3_4 (ok) : fstW (evDS (pgE s bung dip xs O (dF 3 4) ok) (spDB 3) 2000 60 (.fn 3) (argsD 3) (hpW 3) 1) = some (.bool true, some (.win (rowV 3))) := by kernel_rfl
theorem dEarly3_5 (ok) : fstW (evDS (pgE s bung dip xs O (dF 3 5) ok) (spDB 3) 2000 60 (.fn 3) (argsD 3) (hpW 3) 1) = some (.bool true, some (.win (rowV 3))) := by kernel_rfl
theorem dEarly3_6 (ok) : fstW (evDS (pgE s bung dip xs O (dF 3 6) ok) (spDB 3) 2000 60 (.fn 3) (argsD 3) (hpW 3) 1) = some (.bool true, some (.win (rowV 3))) := by kernel_rfl
theorem dEarly3_7 (ok) : fstW (evDS (pgE s bung dip xs O (dF 3 7) ok) (spDB 3) 2000 60 (.fn 3) (argsD 3) (hpW 3) 1) = some (.bool true, some (.win (rowV 3))) := by kernel_rfl
theorem dEarly3_8 (ok) : fstW (evDS (pgE s bung dip xs O (dF 3 8) ok) (spDB 3) 2000 60 (.fn 3) (argsD 3) (hpW 3) 1) = some (.bool true, some (.win (rowV 3))) := by kernel_rfl
theorem dEarly3_9 (ok) : fstW (evDS (pgE s bung dip xs O (dF 3 9) ok) (spDB 3) 2000 60 (.fn 3) (argsD 3) (hpW 3) 1) = some (.bool true, some (.win (rowV 3))) := by kernel_rfl
theorem dRun4 (ok) : fstW (evDS (pgE s bung dip xs O (dG 4 ++ dRest 4) ok) (spDe 4) 2000 60 (.fn 3) (argsD 4) (hpW 4) 1) = some (.bool true, some (.win (rowV 4))) := by kernel_rfl
theorem dEarly4_1 (ok) : fstW (evDS (pgE s bung dip xs O (dF 4 1) ok) (spDB 4) 2000 60 (.fn 3) (argsD 4) (hpW 4) 1) = some (.bool true, some (.win (rowV 4))) := by kernel_rfl
theorem dEarly4_2 (ok) : fstW (evDS (pgE s bung dip xs O (dF 4 2) ok) (spDB 4) 2000 60 (.fn 3) (argsD 4) (hpW 4) 1) = some (.bool true, some (.win (rowV 4))) := by kernel_rfl
theorem dEarly4_3 (ok) : fstW (evDS (pgE s bung dip xs O (dF 4 3) ok) (spDB 4) 2000 60 (.fn 3) (argsD 4) (hpW 4) 1) = some (.bool true, some (.win (rowV 4))) := by kernel_rfl
theorem dEarly4_4 (ok) : fstW (evDS (pgE s bung dip xs O (dF 4 4) ok) (spDB 4) 2000 60 (.fn 3) (argsD 4) (hpW 4) 1) = some (.bool true, some (.win (rowV 4))) := by kernel_rfl
theorem dEarly4_5 (ok) : fstW (evDS (pgE s bung dip xs O (dF 4 5) ok) (spDB 4) 2000 60 (.fn 3) (argsD 4) (hpW 4) 1) = some (.bool true, some (.win (rowV 4))) := by kernel_rfl
theorem dEarly4_6 (ok) : fstW (evDS (pgE s bung dip xs O (dF 4 6) ok) (spDB 4) 2000 60 (.fn 3) (argsD 4) (hpW 4) 1) = some (.bool true, some (.win (rowV 4))) := by kernel_rfl
theorem dEarly4_7 (ok) : fstW (evDS (pgE s bung dip xs O (dF 4 7) ok) (spDB 4) 2000 60 (.fn 3) (argsD 4) (hpW 4) 1) = some (.bool true, some (.win (rowV 4))) := by kernel_rfl
theorem dEarly4_8 (ok) : fstW (evDS (pgE s bung dip xs O (dF 4 8) ok) (spDB 4) 2000 60 (.fn 3) (argsD 4) (hpW 4) 1) = some (.bool true, some (.win (rowV 4))) := by kernel_rfl
theorem dEarly4_9 (ok) : fstW (evDS (pgE s bung dip xs O (dF 4 9) ok) (spDB 4) 2000 60 (.fn 3) (argsD 4) (hpW 4) 1) = some (.bool true, some (.win (rowV 4))) := by kernel_rfl
theorem dBad1 (ok) : fstW (evDS (pgE s bung dip xs O (dF 1 0) ok) (spDB 1) 2000 60 (.fn 3) (argsD 1) (hpW 1) 1) = some (.bool true, some (.win (rowV 1))) := by kernel_rfl
theorem dBad2 (ok) : fstW (evDS (pgE s bung dip xs O (dF 2 0) ok) (spDB 2) 2000 60 (.fn 3) (argsD 2) (hpW 2) 1) = some (.bool true, some (.win (rowV 2))) := by kernel_rfl
theorem dBad3 (ok) : fstW (evDS (pgE s bung dip xs O (dF 3 0) ok) (spDB 3) 2000 60 (.fn 3) (argsD 3) (hpW 3) 1) = some (.bool true, some (.win (rowV 3))) := by kernel_rfl
theorem dBad4 (ok) : fstW (evDS (pgE s bung dip xs O (dF 4 0) ok) (spDB 4) 2000 60 (.fn 3) (argsD 4) (hpW 4) 1) = some (.bool true, some (.win (rowV 4))) := by kernel_rfl
theorem dBad13 (ok) : fstW (evDS (pgE s bung dip xs O (dF 13 0) ok) (spDB 13) 2000 60 (.fn 3) (argsD 13) (hpW 13) 1) = some (.bool true, some (.win (rowV 13))) := by kernel_rfl
theorem dBad14 (ok) : fstW (evDS (pgE s bung dip xs O (dF 14 0) ok) (spDB 14) 2000 60 (.fn 3) (argsD 14) (hpW 14) 1) = some (.bool true, some (.win (rowV 14))) := by kernel_rfl
end
def argsDY : List Value := [c3, .agg #[hN 4, hN 5], .agg #[hN 6, hN 7]]
theorem dBig_run (s : ByteArray) (bung : Int) (v : Value) (is : List Int) (ok) : fstO (evDS (pgY s bung v is [] ok) (spYS false) 2000 60 (.fn 3) argsDY .leaf 0) = some (.bool true) := by kernel_rfl
theorem dNone_run (s : ByteArray) (bung : Int) (v : Value) (is : List Int) (ok) : fstO (evDS (pgY s bung v is yBad ok) spYE 2000 60 (.fn 3) argsDY .leaf 0) = some (.bool true) := by kernel_rfl
end Sy
end Go.Proofs.Ytpidgcmdimjkoaa
