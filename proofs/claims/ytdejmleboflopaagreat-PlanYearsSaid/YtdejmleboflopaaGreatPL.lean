/- What is wrong with a system: runs. -/
import Derived.Test.YtdejmleboflopaaGreatPN
import Derived.Test.YtdejmleboflopaaGreatPG
set_option linter.unusedVariables false
set_option linter.unusedSimpArgs false
namespace Go.Proofs.YtdejmleboflopaaGreat
open Go.RowKit
namespace Sy
open Go.RowKit

def csI : Nat → Int
  | 0 => 0
  | k + 1 => .ofNat k
def csT : Nat → Value
  | 0 => hdT 0 0
  | k + 1 => scT k
def csC (j : Nat) : Int := if j = 6 then 9 else 2
def argE : List Value := [.agg #[.iface 94 (.tuple #[iP 40, hLs]), hNew]]
def gNo : List Fact := [(0, hLs, iP 0, true), (1, iP 0, hLs, false), (2, hLs, iP 4, true), (0, hdT 10 0, iP 0, false)]
def gMany : List Fact := [(0, hLs, iP 0, false), (1, iP 0, hLs, true), (1, iP 4, hLs, true), (2, hLs, iP 4, false), (0, hdT 0 8, iP 0, false)]
def hdG : List Fact := [(2, iP 0, hNew, true), (2, hNew, iP 100000, true)]
def sysP (i : Nat) : List Fact := hdG ++ (List.range i).flatMap scG
section
variable (hole : Nat → Value)
theorem csNo (ok) : fstO (evDS (pgS hole (gNo) ok) spCk 2000 60 (.fn 62) (argE) (.leaf) 0) = some (.tuple #[iP (0), hdT 10 0]) := by kernel_rfl
theorem seNo (ok) : fstO (evDS (pgS hole (gNo) ok) spNone 2000 60 (.fn 13) (argE) (.leaf) 0) = some (iP 10) := by kernel_rfl
theorem csMany (ok) : fstO (evDS (pgS hole (gMany) ok) spCk 2000 60 (.fn 62) (argE) (.leaf) 0) = some (.tuple #[iP (0), hdT 0 8]) := by kernel_rfl
theorem seMany (ok) : fstO (evDS (pgS hole (gMany) ok) spNone 2000 60 (.fn 13) (argE) (.leaf) 0) = some (iP 8) := by kernel_rfl
theorem csOk1 (ok) : fstO (evDS (pgS hole (sysE 1) ok) spCk 2000 60 (.fn 62) ([sysW 1]) (hpE 1) 1) = some (.tuple #[iP (0), iP 0]) := by kernel_rfl
theorem seOk1 (ok) : fstO (evDS (pgS hole (sysG 1) ok) spNone 2000 60 (.fn 13) ([sysW 1]) (hpE 1) 1) = some (iP 0) := by kernel_rfl
theorem cs1_0 (ok) : fstO (evDS (pgS hole (eE [] (sysE 1) 0) ok) spCk 2000 60 (.fn 62) ([sysW 1]) (hpE 1) 1) = some (.tuple #[iP (csI 0), csT 0]) := by kernel_rfl
theorem cs1_1 (ok) : fstO (evDS (pgS hole (eE [] (sysE 1) 1) ok) spCk 2000 60 (.fn 62) ([sysW 1]) (hpE 1) 1) = some (.tuple #[iP (csI 1), csT 1]) := by kernel_rfl
theorem sh1_0 (ok) : fstO (evDS (pgS hole (eE [] hdG 0) ok) spNone 2000 60 (.fn 13) ([sysW 1]) (hpE 1) 1) = some (iP 2) := by kernel_rfl
theorem sh1_1 (ok) : fstO (evDS (pgS hole (eE [] hdG 1) ok) spNone 2000 60 (.fn 13) ([sysW 1]) (hpE 1) 1) = some (iP 2) := by kernel_rfl
theorem se1_0_0 (ok) : fstO (evDS (pgS hole (eE (sysP 0) (scG 0) 0) ok) spNone 2000 60 (.fn 13) ([sysW 1]) (hpE 1) 1) = some (iP (csC 0)) := by kernel_rfl
theorem se1_0_1 (ok) : fstO (evDS (pgS hole (eE (sysP 0) (scG 0) 1) ok) spNone 2000 60 (.fn 13) ([sysW 1]) (hpE 1) 1) = some (iP (csC 1)) := by kernel_rfl
theorem se1_0_2 (ok) : fstO (evDS (pgS hole (eE (sysP 0) (scG 0) 2) ok) spNone 2000 60 (.fn 13) ([sysW 1]) (hpE 1) 1) = some (iP (csC 2)) := by kernel_rfl
theorem se1_0_3 (ok) : fstO (evDS (pgS hole (eE (sysP 0) (scG 0) 3) ok) spNone 2000 60 (.fn 13) ([sysW 1]) (hpE 1) 1) = some (iP (csC 3)) := by kernel_rfl
theorem se1_0_4 (ok) : fstO (evDS (pgS hole (eE (sysP 0) (scG 0) 4) ok) spNone 2000 60 (.fn 13) ([sysW 1]) (hpE 1) 1) = some (iP (csC 4)) := by kernel_rfl
theorem se1_0_5 (ok) : fstO (evDS (pgS hole (eE (sysP 0) (scG 0) 5) ok) spNone 2000 60 (.fn 13) ([sysW 1]) (hpE 1) 1) = some (iP (csC 5)) := by kernel_rfl
theorem se1_0_6 (ok) : fstO (evDS (pgS hole (eE (sysP 0) (scG 0) 6) ok) spNone 2000 60 (.fn 13) ([sysW 1]) (hpE 1) 1) = some (iP (csC 6)) := by kernel_rfl
theorem se1_0_7 (ok) : fstO (evDS (pgS hole (eE (sysP 0) (scG 0) 7) ok) spNone 2000 60 (.fn 13) ([sysW 1]) (hpE 1) 1) = some (iP (csC 7)) := by kernel_rfl
theorem se1_0_8 (ok) : fstO (evDS (pgS hole (eE (sysP 0) (scG 0) 8) ok) spNone 2000 60 (.fn 13) ([sysW 1]) (hpE 1) 1) = some (iP (csC 8)) := by kernel_rfl
theorem csOk2 (ok) : fstO (evDS (pgS hole (sysE 2) ok) spCk 2000 60 (.fn 62) ([sysW 2]) (hpE 2) 1) = some (.tuple #[iP (0), iP 0]) := by kernel_rfl
theorem seOk2 (ok) : fstO (evDS (pgS hole (sysG 2) ok) spNone 2000 60 (.fn 13) ([sysW 2]) (hpE 2) 1) = some (iP 0) := by kernel_rfl
theorem cs2_0 (ok) : fstO (evDS (pgS hole (eE [] (sysE 2) 0) ok) spCk 2000 60 (.fn 62) ([sysW 2]) (hpE 2) 1) = some (.tuple #[iP (csI 0), csT 0]) := by kernel_rfl
theorem cs2_1 (ok) : fstO (evDS (pgS hole (eE [] (sysE 2) 1) ok) spCk 2000 60 (.fn 62) ([sysW 2]) (hpE 2) 1) = some (.tuple #[iP (csI 1), csT 1]) := by kernel_rfl
theorem cs2_2 (ok) : fstO (evDS (pgS hole (eE [] (sysE 2) 2) ok) spCk 2000 60 (.fn 62) ([sysW 2]) (hpE 2) 1) = some (.tuple #[iP (csI 2), csT 2]) := by kernel_rfl
theorem sh2_0 (ok) : fstO (evDS (pgS hole (eE [] hdG 0) ok) spNone 2000 60 (.fn 13) ([sysW 2]) (hpE 2) 1) = some (iP 2) := by kernel_rfl
theorem sh2_1 (ok) : fstO (evDS (pgS hole (eE [] hdG 1) ok) spNone 2000 60 (.fn 13) ([sysW 2]) (hpE 2) 1) = some (iP 2) := by kernel_rfl
theorem se2_0_0 (ok) : fstO (evDS (pgS hole (eE (sysP 0) (scG 0) 0) ok) spNone 2000 60 (.fn 13) ([sysW 2]) (hpE 2) 1) = some (iP (csC 0)) := by kernel_rfl
theorem se2_0_1 (ok) : fstO (evDS (pgS hole (eE (sysP 0) (scG 0) 1) ok) spNone 2000 60 (.fn 13) ([sysW 2]) (hpE 2) 1) = some (iP (csC 1)) := by kernel_rfl
theorem se2_0_2 (ok) : fstO (evDS (pgS hole (eE (sysP 0) (scG 0) 2) ok) spNone 2000 60 (.fn 13) ([sysW 2]) (hpE 2) 1) = some (iP (csC 2)) := by kernel_rfl
theorem se2_0_3 (ok) : fstO (evDS (pgS hole (eE (sysP 0) (scG 0) 3) ok) spNone 2000 60 (.fn 13) ([sysW 2]) (hpE 2) 1) = some (iP (csC 3)) := by kernel_rfl
theorem se2_0_4 (ok) : fstO (evDS (pgS hole (eE (sysP 0) (scG 0) 4) ok) spNone 2000 60 (.fn 13) ([sysW 2]) (hpE 2) 1) = some (iP (csC 4)) := by kernel_rfl
theorem se2_0_5 (ok) : fstO (evDS (pgS hole (eE (sysP 0) (scG 0) 5) ok) spNone 2000 60 (.fn 13) ([sysW 2]) (hpE 2) 1) = some (iP (csC 5)) := by kernel_rfl
theorem se2_0_6 (ok) : fstO (evDS (pgS hole (eE (sysP 0) (scG 0) 6) ok) spNone 2000 60 (.fn 13) ([sysW 2]) (hpE 2) 1) = some (iP (csC 6)) := by kernel_rfl
theorem se2_0_7 (ok) : fstO (evDS (pgS hole (eE (sysP 0) (scG 0) 7) ok) spNone 2000 60 (.fn 13) ([sysW 2]) (hpE 2) 1) = some (iP (csC 7)) := by kernel_rfl
theorem se2_0_8 (ok) : fstO (evDS (pgS hole (eE (sysP 0) (scG 0) 8) ok) spNone 2000 60 (.fn 13) ([sysW 2]) (hpE 2) 1) = some (iP (csC 8)) := by kernel_rfl
theorem se2_1_0 (ok) : fstO (evDS (pgS hole (eE (sysP 1) (scG 1) 0) ok) spNone 2000 60 (.fn 13) ([sysW 2]) (hpE 2) 1) = some (iP (csC 0)) := by kernel_rfl
theorem se2_1_1 (ok) : fstO (evDS (pgS hole (eE (sysP 1) (scG 1) 1) ok) spNone 2000 60 (.fn 13) ([sysW 2]) (hpE 2) 1) = some (iP (csC 1)) := by kernel_rfl
theorem se2_1_2 (ok) : fstO (evDS (pgS hole (eE (sysP 1) (scG 1) 2) ok) spNone 2000 60 (.fn 13) ([sysW 2]) (hpE 2) 1) = some (iP (csC 2)) := by kernel_rfl
theorem se2_1_3 (ok) : fstO (evDS (pgS hole (eE (sysP 1) (scG 1) 3) ok) spNone 2000 60 (.fn 13) ([sysW 2]) (hpE 2) 1) = some (iP (csC 3)) := by kernel_rfl
theorem se2_1_4 (ok) : fstO (evDS (pgS hole (eE (sysP 1) (scG 1) 4) ok) spNone 2000 60 (.fn 13) ([sysW 2]) (hpE 2) 1) = some (iP (csC 4)) := by kernel_rfl
theorem se2_1_5 (ok) : fstO (evDS (pgS hole (eE (sysP 1) (scG 1) 5) ok) spNone 2000 60 (.fn 13) ([sysW 2]) (hpE 2) 1) = some (iP (csC 5)) := by kernel_rfl
theorem se2_1_6 (ok) : fstO (evDS (pgS hole (eE (sysP 1) (scG 1) 6) ok) spNone 2000 60 (.fn 13) ([sysW 2]) (hpE 2) 1) = some (iP (csC 6)) := by kernel_rfl
theorem se2_1_7 (ok) : fstO (evDS (pgS hole (eE (sysP 1) (scG 1) 7) ok) spNone 2000 60 (.fn 13) ([sysW 2]) (hpE 2) 1) = some (iP (csC 7)) := by kernel_rfl
theorem se2_1_8 (ok) : fstO (evDS (pgS hole (eE (sysP 1) (scG 1) 8) ok) spNone 2000 60 (.fn 13) ([sysW 2]) (hpE 2) 1) = some (iP (csC 8)) := by kernel_rfl
theorem csOk3 (ok) : fstO (evDS (pgS hole (sysE 3) ok) spCk 2000 60 (.fn 62) ([sysW 3]) (hpE 3) 1) = some (.tuple #[iP (0), iP 0]) := by kernel_rfl
theorem seOk3 (ok) : fstO (evDS (pgS hole (sysG 3) ok) spNone 2000 60 (.fn 13) ([sysW 3]) (hpE 3) 1) = some (iP 0) := by kernel_rfl
theorem cs3_0 (ok) : fstO (evDS (pgS hole (eE [] (sysE 3) 0) ok) spCk 2000 60 (.fn 62) ([sysW 3]) (hpE 3) 1) = some (.tuple #[iP (csI 0), csT 0]) := by kernel_rfl
theorem cs3_1 (ok) : fstO (evDS (pgS hole (eE [] (sysE 3) 1) ok) spCk 2000 60 (.fn 62) ([sysW 3]) (hpE 3) 1) = some (.tuple #[iP (csI 1), csT 1]) := by kernel_rfl
theorem cs3_2 (ok) : fstO (evDS (pgS hole (eE [] (sysE 3) 2) ok) spCk 2000 60 (.fn 62) ([sysW 3]) (hpE 3) 1) = some (.tuple #[iP (csI 2), csT 2]) := by kernel_rfl
theorem cs3_3 (ok) : fstO (evDS (pgS hole (eE [] (sysE 3) 3) ok) spCk 2000 60 (.fn 62) ([sysW 3]) (hpE 3) 1) = some (.tuple #[iP (csI 3), csT 3]) := by kernel_rfl
theorem sh3_0 (ok) : fstO (evDS (pgS hole (eE [] hdG 0) ok) spNone 2000 60 (.fn 13) ([sysW 3]) (hpE 3) 1) = some (iP 2) := by kernel_rfl
theorem sh3_1 (ok) : fstO (evDS (pgS hole (eE [] hdG 1) ok) spNone 2000 60 (.fn 13) ([sysW 3]) (hpE 3) 1) = some (iP 2) := by kernel_rfl
theorem se3_0_0 (ok) : fstO (evDS (pgS hole (eE (sysP 0) (scG 0) 0) ok) spNone 2000 60 (.fn 13) ([sysW 3]) (hpE 3) 1) = some (iP (csC 0)) := by kernel_rfl
theorem se3_0_1 (ok) : fstO (evDS (pgS hole (eE (sysP 0) (scG 0) 1) ok) spNone 2000 60 (.fn 13) ([sysW 3]) (hpE 3) 1) = some (iP (csC 1)) := by kernel_rfl
theorem se3_0_2 (ok) : fstO (evDS (pgS hole (eE (sysP 0) (scG 0) 2) ok) spNone 2000 60 (.fn 13) ([sysW 3]) (hpE 3) 1) = some (iP (csC 2)) := by kernel_rfl
theorem se3_0_3 (ok) : fstO (evDS (pgS hole (eE (sysP 0) (scG 0) 3) ok) spNone 2000 60 (.fn 13) ([sysW 3]) (hpE 3) 1) = some (iP (csC 3)) := by kernel_rfl
theorem se3_0_4 (ok) : fstO (evDS (pgS hole (eE (sysP 0) (scG 0) 4) ok) spNone 2000 60 (.fn 13) ([sysW 3]) (hpE 3) 1) = some (iP (csC 4)) := by kernel_rfl
theorem se3_0_5 (ok) : fstO (evDS (pgS hole (eE (sysP 0) (scG 0) 5) ok) spNone 2000 60 (.fn 13) ([sysW 3]) (hpE 3) 1) = some (iP (csC 5)) := by kernel_rfl
theorem se3_0_6 (ok) : fstO (evDS (pgS hole (eE (sysP 0) (scG 0) 6) ok) spNone 2000 60 (.fn 13) ([sysW 3]) (hpE 3) 1) = some (iP (csC 6)) := by kernel_rfl
theorem se3_0_7 (ok) : fstO (evDS (pgS hole (eE (sysP 0) (scG 0) 7) ok) spNone 2000 60 (.fn 13) ([sysW 3]) (hpE 3) 1) = some (iP (csC 7)) := by kernel_rfl
theorem se3_0_8 (ok) : fstO (evDS (pgS hole (eE (sysP 0) (scG 0) 8) ok) spNone 2000 60 (.fn 13) ([sysW 3]) (hpE 3) 1) = some (iP (csC 8)) := by kernel_rfl
theorem se3_1_0 (ok) : fstO (evDS (pgS hole (eE (sysP 1) (scG 1) 0) ok) spNone 2000 60 (.fn 13) ([sysW 3]) (hpE 3) 1) = some (iP (csC 0)) := by kernel_rfl
theorem se3_1_1 (ok) : fstO (evDS (pgS hole (eE (sysP 1) (scG 1) 1) ok) spNone 2000 60 (.fn 13) ([sysW 3]) (hpE 3) 1) = some (iP (csC 1)) := by kernel_rfl
theorem se3_1_2 (ok) : fstO (evDS (pgS hole (eE (sysP 1) (scG 1) 2) ok) spNone 2000 60 (.fn 13) ([sysW 3]) (hpE 3) 1) = some (iP (csC 2)) := by kernel_rfl
theorem se3_1_3 (ok) : fstO (evDS (pgS hole (eE (sysP 1) (scG 1) 3) ok) spNone 2000 60 (.fn 13) ([sysW 3]) (hpE 3) 1) = some (iP (csC 3)) := by kernel_rfl
theorem se3_1_4 (ok) : fstO (evDS (pgS hole (eE (sysP 1) (scG 1) 4) ok) spNone 2000 60 (.fn 13) ([sysW 3]) (hpE 3) 1) = some (iP (csC 4)) := by kernel_rfl
theorem se3_1_5 (ok) : fstO (evDS (pgS hole (eE (sysP 1) (scG 1) 5) ok) spNone 2000 60 (.fn 13) ([sysW 3]) (hpE 3) 1) = some (iP (csC 5)) := by kernel_rfl
theorem se3_1_6 (ok) : fstO (evDS (pgS hole (eE (sysP 1) (scG 1) 6) ok) spNone 2000 60 (.fn 13) ([sysW 3]) (hpE 3) 1) = some (iP (csC 6)) := by kernel_rfl
theorem se3_1_7 (ok) : fstO (evDS (pgS hole (eE (sysP 1) (scG 1) 7) ok) spNone 2000 60 (.fn 13) ([sysW 3]) (hpE 3) 1) = some (iP (csC 7)) := by kernel_rfl
theorem se3_1_8 (ok) : fstO (evDS (pgS hole (eE (sysP 1) (scG 1) 8) ok) spNone 2000 60 (.fn 13) ([sysW 3]) (hpE 3) 1) = some (iP (csC 8)) := by kernel_rfl
theorem se3_2_0 (ok) : fstO (evDS (pgS hole (eE (sysP 2) (scG 2) 0) ok) spNone 2000 60 (.fn 13) ([sysW 3]) (hpE 3) 1) = some (iP (csC 0)) := by kernel_rfl
theorem se3_2_1 (ok) : fstO (evDS (pgS hole (eE (sysP 2) (scG 2) 1) ok) spNone 2000 60 (.fn 13) ([sysW 3]) (hpE 3) 1) = some (iP (csC 1)) := by kernel_rfl
theorem se3_2_2 (ok) : fstO (evDS (pgS hole (eE (sysP 2) (scG 2) 2) ok) spNone 2000 60 (.fn 13) ([sysW 3]) (hpE 3) 1) = some (iP (csC 2)) := by kernel_rfl
theorem se3_2_3 (ok) : fstO (evDS (pgS hole (eE (sysP 2) (scG 2) 3) ok) spNone 2000 60 (.fn 13) ([sysW 3]) (hpE 3) 1) = some (iP (csC 3)) := by kernel_rfl
theorem se3_2_4 (ok) : fstO (evDS (pgS hole (eE (sysP 2) (scG 2) 4) ok) spNone 2000 60 (.fn 13) ([sysW 3]) (hpE 3) 1) = some (iP (csC 4)) := by kernel_rfl
theorem se3_2_5 (ok) : fstO (evDS (pgS hole (eE (sysP 2) (scG 2) 5) ok) spNone 2000 60 (.fn 13) ([sysW 3]) (hpE 3) 1) = some (iP (csC 5)) := by kernel_rfl
theorem se3_2_6 (ok) : fstO (evDS (pgS hole (eE (sysP 2) (scG 2) 6) ok) spNone 2000 60 (.fn 13) ([sysW 3]) (hpE 3) 1) = some (iP (csC 6)) := by kernel_rfl
theorem se3_2_7 (ok) : fstO (evDS (pgS hole (eE (sysP 2) (scG 2) 7) ok) spNone 2000 60 (.fn 13) ([sysW 3]) (hpE 3) 1) = some (iP (csC 7)) := by kernel_rfl
theorem se3_2_8 (ok) : fstO (evDS (pgS hole (eE (sysP 2) (scG 2) 8) ok) spNone 2000 60 (.fn 13) ([sysW 3]) (hpE 3) 1) = some (iP (csC 8)) := by kernel_rfl
theorem csOk4 (ok) : fstO (evDS (pgS hole (sysE 4) ok) spCk 2000 60 (.fn 62) ([sysW 4]) (hpE 4) 1) = some (.tuple #[iP (0), iP 0]) := by kernel_rfl
theorem seOk4 (ok) : fstO (evDS (pgS hole (sysG 4) ok) spNone 2000 60 (.fn 13) ([sysW 4]) (hpE 4) 1) = some (iP 0) := by kernel_rfl
theorem cs4_0 (ok) : fstO (evDS (pgS hole (eE [] (sysE 4) 0) ok) spCk 2000 60 (.fn 62) ([sysW 4]) (hpE 4) 1) = some (.tuple #[iP (csI 0), csT 0]) := by kernel_rfl
theorem cs4_1 (ok) : fstO (evDS (pgS hole (eE [] (sysE 4) 1) ok) spCk 2000 60 (.fn 62) ([sysW 4]) (hpE 4) 1) = some (.tuple #[iP (csI 1), csT 1]) := by kernel_rfl
theorem cs4_2 (ok) : fstO (evDS (pgS hole (eE [] (sysE 4) 2) ok) spCk 2000 60 (.fn 62) ([sysW 4]) (hpE 4) 1) = some (.tuple #[iP (csI 2), csT 2]) := by kernel_rfl
theorem cs4_3 (ok) : fstO (evDS (pgS hole (eE [] (sysE 4) 3) ok) spCk 2000 60 (.fn 62) ([sysW 4]) (hpE 4) 1) = some (.tuple #[iP (csI 3), csT 3]) := by kernel_rfl
theorem cs4_4 (ok) : fstO (evDS (pgS hole (eE [] (sysE 4) 4) ok) spCk 2000 60 (.fn 62) ([sysW 4]) (hpE 4) 1) = some (.tuple #[iP (csI 4), csT 4]) := by kernel_rfl
theorem sh4_0 (ok) : fstO (evDS (pgS hole (eE [] hdG 0) ok) spNone 2000 60 (.fn 13) ([sysW 4]) (hpE 4) 1) = some (iP 2) := by kernel_rfl
theorem sh4_1 (ok) : fstO (evDS (pgS hole (eE [] hdG 1) ok) spNone 2000 60 (.fn 13) ([sysW 4]) (hpE 4) 1) = some (iP 2) := by kernel_rfl
theorem se4_0_0 (ok) : fstO (evDS (pgS hole (eE (sysP 0) (scG 0) 0) ok) spNone 2000 60 (.fn 13) ([sysW 4]) (hpE 4) 1) = some (iP (csC 0)) := by kernel_rfl
theorem se4_0_1 (ok) : fstO (evDS (pgS hole (eE (sysP 0) (scG 0) 1) ok) spNone 2000 60 (.fn 13) ([sysW 4]) (hpE 4) 1) = some (iP (csC 1)) := by kernel_rfl
theorem se4_0_2 (ok) : fstO (evDS (pgS hole (eE (sysP 0) (scG 0) 2) ok) spNone 2000 60 (.fn 13) ([sysW 4]) (hpE 4) 1) = some (iP (csC 2)) := by kernel_rfl
theorem se4_0_3 (ok) : fstO (evDS (pgS hole (eE (sysP 0) (scG 0) 3) ok) spNone 2000 60 (.fn 13) ([sysW 4]) (hpE 4) 1) = some (iP (csC 3)) := by kernel_rfl
theorem se4_0_4 (ok) : fstO (evDS (pgS hole (eE (sysP 0) (scG 0) 4) ok) spNone 2000 60 (.fn 13) ([sysW 4]) (hpE 4) 1) = some (iP (csC 4)) := by kernel_rfl
theorem se4_0_5 (ok) : fstO (evDS (pgS hole (eE (sysP 0) (scG 0) 5) ok) spNone 2000 60 (.fn 13) ([sysW 4]) (hpE 4) 1) = some (iP (csC 5)) := by kernel_rfl
theorem se4_0_6 (ok) : fstO (evDS (pgS hole (eE (sysP 0) (scG 0) 6) ok) spNone 2000 60 (.fn 13) ([sysW 4]) (hpE 4) 1) = some (iP (csC 6)) := by kernel_rfl
theorem se4_0_7 (ok) : fstO (evDS (pgS hole (eE (sysP 0) (scG 0) 7) ok) spNone 2000 60 (.fn 13) ([sysW 4]) (hpE 4) 1) = some (iP (csC 7)) := by kernel_rfl
theorem se4_0_8 (ok) : fstO (evDS (pgS hole (eE (sysP 0) (scG 0) 8) ok) spNone 2000 60 (.fn 13) ([sysW 4]) (hpE 4) 1) = some (iP (csC 8)) := by kernel_rfl
theorem se4_1_0 (ok) : fstO (evDS (pgS hole (eE (sysP 1) (scG 1) 0) ok) spNone 2000 60 (.fn 13) ([sysW 4]) (hpE 4) 1) = some (iP (csC 0)) := by kernel_rfl
theorem se4_1_1 (ok) : fstO (evDS (pgS hole (eE (sysP 1) (scG 1) 1) ok) spNone 2000 60 (.fn 13) ([sysW 4]) (hpE 4) 1) = some (iP (csC 1)) := by kernel_rfl
theorem se4_1_2 (ok) : fstO (evDS (pgS hole (eE (sysP 1) (scG 1) 2) ok) spNone 2000 60 (.fn 13) ([sysW 4]) (hpE 4) 1) = some (iP (csC 2)) := by kernel_rfl
theorem se4_1_3 (ok) : fstO (evDS (pgS hole (eE (sysP 1) (scG 1) 3) ok) spNone 2000 60 (.fn 13) ([sysW 4]) (hpE 4) 1) = some (iP (csC 3)) := by kernel_rfl
theorem se4_1_4 (ok) : fstO (evDS (pgS hole (eE (sysP 1) (scG 1) 4) ok) spNone 2000 60 (.fn 13) ([sysW 4]) (hpE 4) 1) = some (iP (csC 4)) := by kernel_rfl
theorem se4_1_5 (ok) : fstO (evDS (pgS hole (eE (sysP 1) (scG 1) 5) ok) spNone 2000 60 (.fn 13) ([sysW 4]) (hpE 4) 1) = some (iP (csC 5)) := by kernel_rfl
theorem se4_1_6 (ok) : fstO (evDS (pgS hole (eE (sysP 1) (scG 1) 6) ok) spNone 2000 60 (.fn 13) ([sysW 4]) (hpE 4) 1) = some (iP (csC 6)) := by kernel_rfl
theorem se4_1_7 (ok) : fstO (evDS (pgS hole (eE (sysP 1) (scG 1) 7) ok) spNone 2000 60 (.fn 13) ([sysW 4]) (hpE 4) 1) = some (iP (csC 7)) := by kernel_rfl
theorem se4_1_8 (ok) : fstO (evDS (pgS hole (eE (sysP 1) (scG 1) 8) ok) spNone 2000 60 (.fn 13) ([sysW 4]) (hpE 4) 1) = some (iP (csC 8)) := by kernel_rfl
theorem se4_2_0 (ok) : fstO (evDS (pgS hole (eE (sysP 2) (scG 2) 0) ok) spNone 2000 60 (.fn 13) ([sysW 4]) (hpE 4) 1) = some (iP (csC 0)) := by kernel_rfl
theorem se4_2_1 (ok) : fstO (evDS (pgS hole (eE (sysP 2) (scG 2) 1) ok) spNone 2000 60 (.fn 13) ([sysW 4]) (hpE 4) 1) = some (iP (csC 1)) := by kernel_rfl
theorem se4_2_2 (ok) : fstO (evDS (pgS hole (eE (sysP 2) (scG 2) 2) ok) spNone 2000 60 (.fn 13) ([sysW 4]) (hpE 4) 1) = some (iP (csC 2)) := by kernel_rfl
theorem se4_2_3 (ok) : fstO (evDS (pgS hole (eE (sysP 2) (scG 2) 3) ok) spNone 2000 60 (.fn 13) ([sysW 4]) (hpE 4) 1) = some (iP (csC 3)) := by kernel_rfl
theorem se4_2_4 (ok) : fstO (evDS (pgS hole (eE (sysP 2) (scG 2) 4) ok) spNone 2000 60 (.fn 13) ([sysW 4]) (hpE 4) 1) = some (iP (csC 4)) := by kernel_rfl
theorem se4_2_5 (ok) : fstO (evDS (pgS hole (eE (sysP 2) (scG 2) 5) ok) spNone 2000 60 (.fn 13) ([sysW 4]) (hpE 4) 1) = some (iP (csC 5)) := by kernel_rfl
theorem se4_2_6 (ok) : fstO (evDS (pgS hole (eE (sysP 2) (scG 2) 6) ok) spNone 2000 60 (.fn 13) ([sysW 4]) (hpE 4) 1) = some (iP (csC 6)) := by kernel_rfl
theorem se4_2_7 (ok) : fstO (evDS (pgS hole (eE (sysP 2) (scG 2) 7) ok) spNone 2000 60 (.fn 13) ([sysW 4]) (hpE 4) 1) = some (iP (csC 7)) := by kernel_rfl
theorem se4_2_8 (ok) : fstO (evDS (pgS hole (eE (sysP 2) (scG 2) 8) ok) spNone 2000 60 (.fn 13) ([sysW 4]) (hpE 4) 1) = some (iP (csC 8)) := by kernel_rfl
theorem se4_3_0 (ok) : fstO (evDS (pgS hole (eE (sysP 3) (scG 3) 0) ok) spNone 2000 60 (.fn 13) ([sysW 4]) (hpE 4) 1) = some (iP (csC 0)) := by kernel_rfl
theorem se4_3_1 (ok) : fstO (evDS (pgS hole (eE (sysP 3) (scG 3) 1) ok) spNone 2000 60 (.fn 13) ([sysW 4]) (hpE 4) 1) = some (iP (csC 1)) := by kernel_rfl
theorem se4_3_2 (ok) : fstO (evDS (pgS hole (eE (sysP 3) (scG 3) 2) ok) spNone 2000 60 (.fn 13) ([sysW 4]) (hpE 4) 1) = some (iP (csC 2)) := by kernel_rfl
theorem se4_3_3 (ok) : fstO (evDS (pgS hole (eE (sysP 3) (scG 3) 3) ok) spNone 2000 60 (.fn 13) ([sysW 4]) (hpE 4) 1) = some (iP (csC 3)) := by kernel_rfl
theorem se4_3_4 (ok) : fstO (evDS (pgS hole (eE (sysP 3) (scG 3) 4) ok) spNone 2000 60 (.fn 13) ([sysW 4]) (hpE 4) 1) = some (iP (csC 4)) := by kernel_rfl
theorem se4_3_5 (ok) : fstO (evDS (pgS hole (eE (sysP 3) (scG 3) 5) ok) spNone 2000 60 (.fn 13) ([sysW 4]) (hpE 4) 1) = some (iP (csC 5)) := by kernel_rfl
theorem se4_3_6 (ok) : fstO (evDS (pgS hole (eE (sysP 3) (scG 3) 6) ok) spNone 2000 60 (.fn 13) ([sysW 4]) (hpE 4) 1) = some (iP (csC 6)) := by kernel_rfl
theorem se4_3_7 (ok) : fstO (evDS (pgS hole (eE (sysP 3) (scG 3) 7) ok) spNone 2000 60 (.fn 13) ([sysW 4]) (hpE 4) 1) = some (iP (csC 7)) := by kernel_rfl
theorem se4_3_8 (ok) : fstO (evDS (pgS hole (eE (sysP 3) (scG 3) 8) ok) spNone 2000 60 (.fn 13) ([sysW 4]) (hpE 4) 1) = some (iP (csC 8)) := by kernel_rfl
end
end Sy
end Go.Proofs.YtdejmleboflopaaGreat
