/- The law GaugeDippedBack, reckoned with symbols. -/
import Derived.Test.YtpidgcmdimjkoaaVK
import Derived.Test.YtpidgcmdimjkoaaDZ
set_option linter.unusedVariables false
set_option linter.unusedSimpArgs false
namespace Go.Proofs.Ytpidgcmdimjkoaa
open Go.RowKit
namespace Sy
open Go.RowKit

def hBy (N : Nat) : Value := hN (N * 3 + 3)
def bvT (N : Nat) : Value := .iface 1 (.tuple #[.iface 2 (.tuple #[fHi lvV N, fLo lvV N]), .int .i64 1])
def modT (N : Nat) : Value := .iface 107 (.tuple #[hBy N, bvT N])
def volT (N : Nat) : Value := .iface 1 (.tuple #[fLo lvV N, modT N])
def kD (N : Nat) : Nat → Value
  | 0 => .iface 2 (.tuple #[seekV 122 N (volT N), .int .i64 1])
  | 1 => seekV 122 N (volT N)
  | 2 => seekV 123 N (volT N)
  | _ => .iface 1 (.tuple #[seekV 123 N (volT N), .int .i64 1])
def lvK (N i : Nat) : Value := .iface 2 (.tuple #[kD N i, hBung])
def kG (N : Nat) : List Fact := [(0, errV N, .int .i64 0, true), (2, .int .i64 0, hDip, true), (2, hDip, topV, true), (0, dipW hDip, .int .i64 0, true), (1, fHi lvV N, fLo lvV N, false), (1, fLo lvV N, .int .i64 0, false)]
def bigT (N : Nat) : Value := .iface 104 (.tuple #[.int .i64 0, .iface 103 (.tuple #[volT N, .int .i64 0, .int .i64 100000])])
def kBig (N : Nat) : List Fact := [(0, bigT N, .int .i64 0, false), (0, bigT N, .int .i64 2, true), (1, .int .i64 100000, volT N, true)]
def kS (N : Nat) : List Fact := [(1, .int .i64 100000, volT N, false), (2, kD N 1, hDip, true), (2, hDip, kD N 2, true), (1, kD N 1, .int .i64 0, false), (1, topV, kD N 2, false)]
noncomputable def k0 (N : Nat) (b : Bool) : List Fact := bi b [(2, .int .i64 0, kD N 0, true), (2, kD N 0, topV, true), (0, dipW (kD N 0), .int .i64 0, true), (2, fLo (lvK N 0) N, volT N, true), (2, volT N, fHi (lvK N 0) N, false)] [(2, .int .i64 0, kD N 0, false)]
def k1 (N i : Nat) : List Fact := [(2, .int .i64 0, kD N i, true), (2, kD N i, topV, true), (0, dipW (kD N i), .int .i64 0, true), (2, fLo (lvK N i) N, volT N, true), (2, volT N, fHi (lvK N i) N, true)]
noncomputable def k3 (N : Nat) (b : Bool) : List Fact := bi b [(2, .int .i64 0, kD N 3, true), (2, kD N 3, topV, true), (0, dipW (kD N 3), .int .i64 0, true), (2, fLo (lvK N 3) N, volT N, false)] [(2, .int .i64 0, kD N 3, true), (2, kD N 3, topV, false)]
noncomputable def kAll (N : Nat) (a b : Bool) : List Fact := kG N ++ (kS N ++ (k0 N a ++ (k1 N 1 ++ (k1 N 2 ++ k3 N b))))
def kLow (N : Nat) : List Fact := [(0, errV N, .int .i64 0, true), (2, .int .i64 0, hDip, false)]
def kHigh (N : Nat) : List Fact := [(0, errV N, .int .i64 0, true), (2, .int .i64 0, hDip, true), (2, hDip, topV, false)]
def kBad (N : Nat) : List Fact := [(0, errV N, .int .i64 0, false)]
noncomputable def spKB (N : Nat) : CallF := spOr (spDB N) (spOr (spMod 16 (bvT N)) (spOr (spNum numsT) (spOr (spList 29 104) (spOr (spCask 52 isName0) (spOr (spAreas 41 (radiiV N)) (spUp 42 lvV))))))
noncomputable def spK (N : Nat) : CallF := spOr (spDip 14 N (volT N) false) (spOr (spKB N) (spOr (spUp 42 (lvK N 0)) (spOr (spUp 42 (lvK N 1)) (spOr (spUp 42 (lvK N 2)) (spUp 42 (lvK N 3))))))
section
variable (s : ByteArray) (bung dip : Int) (xs : List Int) (O : Obj → Prop)
theorem kRun2_true_true (ok) : fstW (evDS (pgE s bung dip xs O (kAll 2 true true) ok) (spK 2) 2000 60 (.fn 5) [winV 2, hDip, hBy 2] (hpW 2) 1) = some (.bool true, some (.win (rowV 2))) := by kernel_rfl
theorem kRun2_true_false (ok) : fstW (evDS (pgE s bung dip xs O (kAll 2 true false) ok) (spK 2) 2000 60 (.fn 5) [winV 2, hDip, hBy 2] (hpW 2) 1) = some (.bool true, some (.win (rowV 2))) := by kernel_rfl
theorem kRun2_false_true (ok) : fstW (evDS (pgE s bung dip xs O (kAll 2 false true) ok) (spK 2) 2000 60 (.fn 5) [winV 2, hDip, hBy 2] (hpW 2) 1) = some (.bool true, some (.win (rowV 2))) := by kernel_rfl
theorem kRun2_false_false (ok) : fstW (evDS (pgE s bung dip xs O (kAll 2 false false) ok) (spK 2) 2000 60 (.fn 5) [winV 2, hDip, hBy 2] (hpW 2) 1) = some (.bool true, some (.win (rowV 2))) := by kernel_rfl
theorem kBig2_run (ok) : fstW (evDS (pgE s bung dip xs O (kG 2 ++ kBig 2) ok) (spKB 2) 2000 60 (.fn 5) [winV 2, hDip, hBy 2] (hpW 2) 1) = some (.bool true, some (.win (rowV 2))) := by kernel_rfl
theorem kLow2_run (ok) : fstW (evDS (pgE s bung dip xs O (kLow 2) ok) (spDB 2) 2000 60 (.fn 5) [winV 2, hDip, hBy 2] (hpW 2) 1) = some (.bool true, some (.win (rowV 2))) := by kernel_rfl
theorem kHigh2_run (ok) : fstW (evDS (pgE s bung dip xs O (kHigh 2) ok) (spDB 2) 2000 60 (.fn 5) [winV 2, hDip, hBy 2] (hpW 2) 1) = some (.bool true, some (.win (rowV 2))) := by kernel_rfl
theorem kRun3_true_true (ok) : fstW (evDS (pgE s bung dip xs O (kAll 3 true true) ok) (spK 3) 2000 60 (.fn 5) [winV 3, hDip, hBy 3] (hpW 3) 1) = some (.bool true, some (.win (rowV 3))) := by kernel_rfl
theorem kRun3_true_false (ok) : fstW (evDS (pgE s bung dip xs O (kAll 3 true false) ok) (spK 3) 2000 60 (.fn 5) [winV 3, hDip, hBy 3] (hpW 3) 1) = some (.bool true, some (.win (rowV 3))) := by kernel_rfl
theorem kRun3_false_true (ok) : fstW (evDS (pgE s bung dip xs O (kAll 3 false true) ok) (spK 3) 2000 60 (.fn 5) [winV 3, hDip, hBy 3] (hpW 3) 1) = some (.bool true, some (.win (rowV 3))) := by kernel_rfl
theorem kRun3_false_false (ok) : fstW (evDS (pgE s bung dip xs O (kAll 3 false false) ok) (spK 3) 2000 60 (.fn 5) [winV 3, hDip, hBy 3] (hpW 3) 1) = some (.bool true, some (.win (rowV 3))) := by kernel_rfl
theorem kBig3_run (ok) : fstW (evDS (pgE s bung dip xs O (kG 3 ++ kBig 3) ok) (spKB 3) 2000 60 (.fn 5) [winV 3, hDip, hBy 3] (hpW 3) 1) = some (.bool true, some (.win (rowV 3))) := by kernel_rfl
theorem kLow3_run (ok) : fstW (evDS (pgE s bung dip xs O (kLow 3) ok) (spDB 3) 2000 60 (.fn 5) [winV 3, hDip, hBy 3] (hpW 3) 1) = some (.bool true, some (.win (rowV 3))) := by kernel_rfl
theorem kHigh3_run (ok) : fstW (evDS (pgE s bung dip xs O (kHigh 3) ok) (spDB 3) 2000 60 (.fn 5) [winV 3, hDip, hBy 3] (hpW 3) 1) = some (.bool true, some (.win (rowV 3))) := by kernel_rfl
theorem kRun4_true_true (ok) : fstW (evDS (pgE s bung dip xs O (kAll 4 true true) ok) (spK 4) 2000 60 (.fn 5) [winV 4, hDip, hBy 4] (hpW 4) 1) = some (.bool true, some (.win (rowV 4))) := by kernel_rfl
theorem kRun4_true_false (ok) : fstW (evDS (pgE s bung dip xs O (kAll 4 true false) ok) (spK 4) 2000 60 (.fn 5) [winV 4, hDip, hBy 4] (hpW 4) 1) = some (.bool true, some (.win (rowV 4))) := by kernel_rfl
theorem kRun4_false_true (ok) : fstW (evDS (pgE s bung dip xs O (kAll 4 false true) ok) (spK 4) 2000 60 (.fn 5) [winV 4, hDip, hBy 4] (hpW 4) 1) = some (.bool true, some (.win (rowV 4))) := by kernel_rfl
theorem kRun4_false_false (ok) : fstW (evDS (pgE s bung dip xs O (kAll 4 false false) ok) (spK 4) 2000 60 (.fn 5) [winV 4, hDip, hBy 4] (hpW 4) 1) = some (.bool true, some (.win (rowV 4))) := by kernel_rfl
theorem kBig4_run (ok) : fstW (evDS (pgE s bung dip xs O (kG 4 ++ kBig 4) ok) (spKB 4) 2000 60 (.fn 5) [winV 4, hDip, hBy 4] (hpW 4) 1) = some (.bool true, some (.win (rowV 4))) := by kernel_rfl
theorem kLow4_run (ok) : fstW (evDS (pgE s bung dip xs O (kLow 4) ok) (spDB 4) 2000 60 (.fn 5) [winV 4, hDip, hBy 4] (hpW 4) 1) = some (.bool true, some (.win (rowV 4))) := by kernel_rfl
theorem kHigh4_run (ok) : fstW (evDS (pgE s bung dip xs O (kHigh 4) ok) (spDB 4) 2000 60 (.fn 5) [winV 4, hDip, hBy 4] (hpW 4) 1) = some (.bool true, some (.win (rowV 4))) := by kernel_rfl
theorem kBad1_run (ok) : fstW (evDS (pgE s bung dip xs O (kBad 1) ok) (spDB 1) 2000 60 (.fn 5) [winV 1, hDip, hBy 1] (hpW 1) 1) = some (.bool true, some (.win (rowV 1))) := by kernel_rfl
theorem kBad2_run (ok) : fstW (evDS (pgE s bung dip xs O (kBad 2) ok) (spDB 2) 2000 60 (.fn 5) [winV 2, hDip, hBy 2] (hpW 2) 1) = some (.bool true, some (.win (rowV 2))) := by kernel_rfl
theorem kBad3_run (ok) : fstW (evDS (pgE s bung dip xs O (kBad 3) ok) (spDB 3) 2000 60 (.fn 5) [winV 3, hDip, hBy 3] (hpW 3) 1) = some (.bool true, some (.win (rowV 3))) := by kernel_rfl
theorem kBad4_run (ok) : fstW (evDS (pgE s bung dip xs O (kBad 4) ok) (spDB 4) 2000 60 (.fn 5) [winV 4, hDip, hBy 4] (hpW 4) 1) = some (.bool true, some (.win (rowV 4))) := by kernel_rfl
theorem kBad13_run (ok) : fstW (evDS (pgE s bung dip xs O (kBad 13) ok) (spDB 13) 2000 60 (.fn 5) [winV 13, hDip, hBy 13] (hpW 13) 1) = some (.bool true, some (.win (rowV 13))) := by kernel_rfl
theorem kBad14_run (ok) : fstW (evDS (pgE s bung dip xs O (kBad 14) ok) (spDB 14) 2000 60 (.fn 5) [winV 14, hDip, hBy 14] (hpW 14) 1) = some (.bool true, some (.win (rowV 14))) := by kernel_rfl
end
def argsKY : List Value := [c3, hN 4, hN 5]
theorem kBig_run (s : ByteArray) (bung : Int) (v : Value) (is : List Int) (ok) : fstO (evDS (pgY s bung v is [] ok) (spYS false) 2000 60 (.fn 5) argsKY .leaf 0) = some (.bool true) := by kernel_rfl
theorem kNone_run (s : ByteArray) (bung : Int) (v : Value) (is : List Int) (ok) : fstO (evDS (pgY s bung v is yBad ok) spYE 2000 60 (.fn 5) argsKY .leaf 0) = some (.bool true) := by kernel_rfl
end Sy
end Go.Proofs.Ytpidgcmdimjkoaa
