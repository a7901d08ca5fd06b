/- The law TopGaugeDips, reckoned with symbols: runs, part 7. -/
import Derived.Test.YtpfhfphcmomfdaaDI
set_option linter.unusedVariables false
set_option linter.unusedSimpArgs false
namespace Go.Proofs.Ytpfhfphcmomfdaa
open Go.RowKit
namespace Sy
open Go.RowKit

section
variable (s : ByteArray) (bung dip : Int) (xs : List Int) (v u : Value)
theorem wQ2_6_6 (ok) : fstO (evDS (pgDp s bung dip xs (allQ 2 6 ++ endQ 2 6 6) ok) (spQ 2 6) 2000 60 (.fn 3) (argsDp 2 6) (hpDp 2 6) 2) = some (.bool true) := by kernel_rfl
theorem wQ4_6_0 (ok) : fstO (evDS (pgDp s bung dip xs (allQ 4 6 ++ endQ 4 6 0) ok) (spQ 4 6) 2000 60 (.fn 3) (argsDp 4 6) (hpDp 4 6) 2) = some (.bool true) := by kernel_rfl
theorem wQ2_5_1 (ok) : fstO (evDS (pgDp s bung dip xs (allQ 2 5 ++ endQ 2 5 1) ok) (spQ 2 5) 2000 60 (.fn 3) (argsDp 2 5) (hpDp 2 5) 2) = some (.bool true) := by kernel_rfl
theorem wQ2_5_4 (ok) : fstO (evDS (pgDp s bung dip xs (allQ 2 5 ++ endQ 2 5 4) ok) (spQ 2 5) 2000 60 (.fn 3) (argsDp 2 5) (hpDp 2 5) 2) = some (.bool true) := by kernel_rfl
theorem wQ4_5_0 (ok) : fstO (evDS (pgDp s bung dip xs (allQ 4 5 ++ endQ 4 5 0) ok) (spQ 4 5) 2000 60 (.fn 3) (argsDp 4 5) (hpDp 4 5) 2) = some (.bool true) := by kernel_rfl
theorem wQ2_4_2 (ok) : fstO (evDS (pgDp s bung dip xs (allQ 2 4 ++ endQ 2 4 2) ok) (spQ 2 4) 2000 60 (.fn 3) (argsDp 2 4) (hpDp 2 4) 2) = some (.bool true) := by kernel_rfl
theorem wQ4_4_0 (ok) : fstO (evDS (pgDp s bung dip xs (allQ 4 4 ++ endQ 4 4 0) ok) (spQ 4 4) 2000 60 (.fn 3) (argsDp 4 4) (hpDp 4 4) 2) = some (.bool true) := by kernel_rfl
theorem wQ2_3_3 (ok) : fstO (evDS (pgDp s bung dip xs (allQ 2 3 ++ endQ 2 3 3) ok) (spQ 2 3) 2000 60 (.fn 3) (argsDp 2 3) (hpDp 2 3) 2) = some (.bool true) := by kernel_rfl
theorem wQ4_3_3 (ok) : fstO (evDS (pgDp s bung dip xs (allQ 4 3 ++ endQ 4 3 3) ok) (spQ 4 3) 2000 60 (.fn 3) (argsDp 4 3) (hpDp 4 3) 2) = some (.bool true) := by kernel_rfl
theorem eQ2_5_8 (ok) : fstO (evDS (pgDp s bung dip xs (eQ 2 5 8) ok) (spQ 2 5) 2000 60 (.fn 3) (argsDp 2 6) (hpDp 2 6) 2) = some (.bool true) := by kernel_rfl
theorem eQ3_5_6 (ok) : fstO (evDS (pgDp s bung dip xs (eQ 3 5 6) ok) (spQ 3 5) 2000 60 (.fn 3) (argsDp 3 6) (hpDp 3 6) 2) = some (.bool true) := by kernel_rfl
theorem eQ4_5_4 (ok) : fstO (evDS (pgDp s bung dip xs (eQ 4 5 4) ok) (spQ 4 5) 2000 60 (.fn 3) (argsDp 4 6) (hpDp 4 6) 2) = some (.bool true) := by kernel_rfl
theorem eQ2_4_2 (ok) : fstO (evDS (pgDp s bung dip xs (eQ 2 4 2) ok) (spQ 2 4) 2000 60 (.fn 3) (argsDp 2 5) (hpDp 2 5) 2) = some (.bool true) := by kernel_rfl
theorem eQ3_4_0 (ok) : fstO (evDS (pgDp s bung dip xs (eQ 3 4 0) ok) (spQ 3 4) 2000 60 (.fn 3) (argsDp 3 5) (hpDp 3 5) 2) = some (.bool true) := by kernel_rfl
theorem eQ3_4_8 (ok) : fstO (evDS (pgDp s bung dip xs (eQ 3 4 8) ok) (spQ 3 4) 2000 60 (.fn 3) (argsDp 3 5) (hpDp 3 5) 2) = some (.bool true) := by kernel_rfl
theorem eQ4_4_6 (ok) : fstO (evDS (pgDp s bung dip xs (eQ 4 4 6) ok) (spQ 4 4) 2000 60 (.fn 3) (argsDp 4 5) (hpDp 4 5) 2) = some (.bool true) := by kernel_rfl
theorem eQ2_3_4 (ok) : fstO (evDS (pgDp s bung dip xs (eQ 2 3 4) ok) (spQ 2 3) 2000 60 (.fn 3) (argsDp 2 4) (hpDp 2 4) 2) = some (.bool true) := by kernel_rfl
theorem eQ3_3_2 (ok) : fstO (evDS (pgDp s bung dip xs (eQ 3 3 2) ok) (spQ 3 3) 2000 60 (.fn 3) (argsDp 3 4) (hpDp 3 4) 2) = some (.bool true) := by kernel_rfl
theorem eQ4_3_0 (ok) : fstO (evDS (pgDp s bung dip xs (eQ 4 3 0) ok) (spQ 4 3) 2000 60 (.fn 3) (argsDp 4 4) (hpDp 4 4) 2) = some (.bool true) := by kernel_rfl
theorem eQ4_3_8 (ok) : fstO (evDS (pgDp s bung dip xs (eQ 4 3 8) ok) (spQ 4 3) 2000 60 (.fn 3) (argsDp 4 4) (hpDp 4 4) 2) = some (.bool true) := by kernel_rfl
theorem wQ4_2_0 (ok) : fstO (evDS (pgDp s bung dip xs (allQ 4 2 ++ endQ 4 2 0) ok) (spQ 4 2) 2000 60 (.fn 3) (argsDp 4 2) (hpDp 4 2) 2) = some (.bool true) := by kernel_rfl
theorem eQ2_2_5 (ok) : fstO (evDS (pgDp s bung dip xs (eQ 2 2 5) ok) (spQ 2 2) 2000 60 (.fn 3) (argsDp 2 3) (hpDp 2 3) 2) = some (.bool true) := by kernel_rfl
theorem eQ3_2_3 (ok) : fstO (evDS (pgDp s bung dip xs (eQ 3 2 3) ok) (spQ 3 2) 2000 60 (.fn 3) (argsDp 3 3) (hpDp 3 3) 2) = some (.bool true) := by kernel_rfl
theorem eQ4_2_1 (ok) : fstO (evDS (pgDp s bung dip xs (eQ 4 2 1) ok) (spQ 4 2) 2000 60 (.fn 3) (argsDp 4 3) (hpDp 4 3) 2) = some (.bool true) := by kernel_rfl
theorem eQ4_2_9 (ok) : fstO (evDS (pgDp s bung dip xs (eQ 4 2 9) ok) (spQB 4 2) 2000 60 (.fn 3) (argsDp 4 3) (hpDp 4 3) 2) = some (.bool true) := by kernel_rfl
theorem eQ2_1_9 (ok) : fstO (evDS (pgDp s bung dip xs (eQ 2 1 9) ok) (spQB 2 1) 2000 60 (.fn 3) (argsDp 2 2) (hpDp 2 2) 2) = some (.bool true) := by kernel_rfl
theorem eQ3_1_6 (ok) : fstO (evDS (pgDp s bung dip xs (eQ 3 1 6) ok) (spQ 3 1) 2000 60 (.fn 3) (argsDp 3 2) (hpDp 3 2) 2) = some (.bool true) := by kernel_rfl
theorem eQ4_1_3 (ok) : fstO (evDS (pgDp s bung dip xs (eQ 4 1 3) ok) (spQ 4 1) 2000 60 (.fn 3) (argsDp 4 2) (hpDp 4 2) 2) = some (.bool true) := by kernel_rfl
theorem wQ2_1_1 (ok) : fstO (evDS (pgDp s bung dip xs (allQ 2 1 ++ endQ 2 1 1) ok) (spQ 2 1) 2000 60 (.fn 3) (argsDp 2 1) (hpDp 2 1) 2) = some (.bool true) := by kernel_rfl
theorem wQ4_1_1 (ok) : fstO (evDS (pgDp s bung dip xs (allQ 4 1 ++ endQ 4 1 1) ok) (spQ 4 1) 2000 60 (.fn 3) (argsDp 4 1) (hpDp 4 1) 2) = some (.bool true) := by kernel_rfl
theorem eQ3_0_2 (ok) : fstO (evDS (pgDp s bung dip xs (eQ 3 0 2) ok) (spQ 3 0) 2000 60 (.fn 3) (argsDp 3 1) (hpDp 3 1) 2) = some (.bool true) := by kernel_rfl
theorem eQ4_0_1 (ok) : fstO (evDS (pgDp s bung dip xs (eQ 4 0 1) ok) (spQ 4 0) 2000 60 (.fn 3) (argsDp 4 1) (hpDp 4 1) 2) = some (.bool true) := by kernel_rfl
theorem eL1_0 (ok) : fstO (evDS (pgL s bung dip xs v (eL 1 0) ok) (spL0 1) 2000 60 (.fn 3) (argsL 1) (hpW 1) 1) = some (.bool true) := by kernel_rfl
theorem eL2_0 (ok) : fstO (evDS (pgL s bung dip xs v (eL 2 0) ok) (spL0 2) 2000 60 (.fn 3) (argsL 2) (hpW 2) 1) = some (.bool true) := by kernel_rfl
theorem eL3_3 (ok) : fstO (evDS (pgL s bung dip xs v (eL 3 3) ok) (spL0 3) 2000 60 (.fn 3) (argsL 3) (hpW 3) 1) = some (.bool true) := by kernel_rfl
theorem eL14_0 (ok) : fstO (evDS (pgL s bung dip xs v (eL 14 0) ok) (spL0 14) 2000 60 (.fn 3) (argsL 14) (hpW 14) 1) = some (.bool true) := by kernel_rfl
end
end Sy
end Go.Proofs.Ytpfhfphcmomfdaa
