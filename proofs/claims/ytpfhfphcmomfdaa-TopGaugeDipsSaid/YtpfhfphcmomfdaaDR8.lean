/- The law TopGaugeDips, reckoned with symbols: runs, part 8. -/
import Derived.Test.YtpfhfphcmomfdaaDI
set_option linter.unusedVariables false
set_option linter.unusedSimpArgs false
namespace Go.Proofs.Ytpfhfphcmomfdaa
open Go.RowKit
namespace Sy
open Go.RowKit

section
variable (s : ByteArray) (bung dip : Int) (xs : List Int) (v u : Value)
theorem wQ3_6_0 (ok) : fstO (evDS (pgDp s bung dip xs (allQ 3 6 ++ endQ 3 6 0) ok) (spQ 3 6) 2000 60 (.fn 3) (argsDp 3 6) (hpDp 3 6) 2) = some (.bool true) := by kernel_rfl
theorem wQ4_6_1 (ok) : fstO (evDS (pgDp s bung dip xs (allQ 4 6 ++ endQ 4 6 1) ok) (spQ 4 6) 2000 60 (.fn 3) (argsDp 4 6) (hpDp 4 6) 2) = some (.bool true) := by kernel_rfl
theorem wQ2_5_2 (ok) : fstO (evDS (pgDp s bung dip xs (allQ 2 5 ++ endQ 2 5 2) ok) (spQ 2 5) 2000 60 (.fn 3) (argsDp 2 5) (hpDp 2 5) 2) = some (.bool true) := by kernel_rfl
theorem wQ2_5_5 (ok) : fstO (evDS (pgDp s bung dip xs (allQ 2 5 ++ endQ 2 5 5) ok) (spQ 2 5) 2000 60 (.fn 3) (argsDp 2 5) (hpDp 2 5) 2) = some (.bool true) := by kernel_rfl
theorem wQ4_5_1 (ok) : fstO (evDS (pgDp s bung dip xs (allQ 4 5 ++ endQ 4 5 1) ok) (spQ 4 5) 2000 60 (.fn 3) (argsDp 4 5) (hpDp 4 5) 2) = some (.bool true) := by kernel_rfl
theorem wQ2_4_3 (ok) : fstO (evDS (pgDp s bung dip xs (allQ 2 4 ++ endQ 2 4 3) ok) (spQ 2 4) 2000 60 (.fn 3) (argsDp 2 4) (hpDp 2 4) 2) = some (.bool true) := by kernel_rfl
theorem wQ4_4_1 (ok) : fstO (evDS (pgDp s bung dip xs (allQ 4 4 ++ endQ 4 4 1) ok) (spQ 4 4) 2000 60 (.fn 3) (argsDp 4 4) (hpDp 4 4) 2) = some (.bool true) := by kernel_rfl
theorem wQ3_3_0 (ok) : fstO (evDS (pgDp s bung dip xs (allQ 3 3 ++ endQ 3 3 0) ok) (spQ 3 3) 2000 60 (.fn 3) (argsDp 3 3) (hpDp 3 3) 2) = some (.bool true) := by kernel_rfl
theorem eQ2_5_0 (ok) : fstO (evDS (pgDp s bung dip xs (eQ 2 5 0) ok) (spQ 2 5) 2000 60 (.fn 3) (argsDp 2 6) (hpDp 2 6) 2) = some (.bool true) := by kernel_rfl
theorem eQ2_5_6 (ok) : fstO (evDS (pgDp s bung dip xs (eQ 2 5 6) ok) (spQ 2 5) 2000 60 (.fn 3) (argsDp 2 6) (hpDp 2 6) 2) = some (.bool true) := by kernel_rfl
theorem eQ3_5_4 (ok) : fstO (evDS (pgDp s bung dip xs (eQ 3 5 4) ok) (spQ 3 5) 2000 60 (.fn 3) (argsDp 3 6) (hpDp 3 6) 2) = some (.bool true) := by kernel_rfl
theorem eQ4_5_2 (ok) : fstO (evDS (pgDp s bung dip xs (eQ 4 5 2) ok) (spQ 4 5) 2000 60 (.fn 3) (argsDp 4 6) (hpDp 4 6) 2) = some (.bool true) := by kernel_rfl
theorem eQ2_4_0 (ok) : fstO (evDS (pgDp s bung dip xs (eQ 2 4 0) ok) (spQ 2 4) 2000 60 (.fn 3) (argsDp 2 5) (hpDp 2 5) 2) = some (.bool true) := by kernel_rfl
theorem eQ2_4_6 (ok) : fstO (evDS (pgDp s bung dip xs (eQ 2 4 6) ok) (spQ 2 4) 2000 60 (.fn 3) (argsDp 2 5) (hpDp 2 5) 2) = some (.bool true) := by kernel_rfl
theorem eQ3_4_4 (ok) : fstO (evDS (pgDp s bung dip xs (eQ 3 4 4) ok) (spQ 3 4) 2000 60 (.fn 3) (argsDp 3 5) (hpDp 3 5) 2) = some (.bool true) := by kernel_rfl
theorem eQ4_4_2 (ok) : fstO (evDS (pgDp s bung dip xs (eQ 4 4 2) ok) (spQ 4 4) 2000 60 (.fn 3) (argsDp 4 5) (hpDp 4 5) 2) = some (.bool true) := by kernel_rfl
theorem eQ2_3_0 (ok) : fstO (evDS (pgDp s bung dip xs (eQ 2 3 0) ok) (spQ 2 3) 2000 60 (.fn 3) (argsDp 2 4) (hpDp 2 4) 2) = some (.bool true) := by kernel_rfl
theorem eQ2_3_8 (ok) : fstO (evDS (pgDp s bung dip xs (eQ 2 3 8) ok) (spQ 2 3) 2000 60 (.fn 3) (argsDp 2 4) (hpDp 2 4) 2) = some (.bool true) := by kernel_rfl
theorem eQ3_3_6 (ok) : fstO (evDS (pgDp s bung dip xs (eQ 3 3 6) ok) (spQ 3 3) 2000 60 (.fn 3) (argsDp 3 4) (hpDp 3 4) 2) = some (.bool true) := by kernel_rfl
theorem eQ4_3_4 (ok) : fstO (evDS (pgDp s bung dip xs (eQ 4 3 4) ok) (spQ 4 3) 2000 60 (.fn 3) (argsDp 4 4) (hpDp 4 4) 2) = some (.bool true) := by kernel_rfl
theorem wQ2_2_2 (ok) : fstO (evDS (pgDp s bung dip xs (allQ 2 2 ++ endQ 2 2 2) ok) (spQ 2 2) 2000 60 (.fn 3) (argsDp 2 2) (hpDp 2 2) 2) = some (.bool true) := by kernel_rfl
theorem eQ2_2_1 (ok) : fstO (evDS (pgDp s bung dip xs (eQ 2 2 1) ok) (spQ 2 2) 2000 60 (.fn 3) (argsDp 2 3) (hpDp 2 3) 2) = some (.bool true) := by kernel_rfl
theorem eQ2_2_9 (ok) : fstO (evDS (pgDp s bung dip xs (eQ 2 2 9) ok) (spQB 2 2) 2000 60 (.fn 3) (argsDp 2 3) (hpDp 2 3) 2) = some (.bool true) := by kernel_rfl
theorem eQ3_2_7 (ok) : fstO (evDS (pgDp s bung dip xs (eQ 3 2 7) ok) (spQ 3 2) 2000 60 (.fn 3) (argsDp 3 3) (hpDp 3 3) 2) = some (.bool true) := by kernel_rfl
theorem eQ4_2_5 (ok) : fstO (evDS (pgDp s bung dip xs (eQ 4 2 5) ok) (spQ 4 2) 2000 60 (.fn 3) (argsDp 4 3) (hpDp 4 3) 2) = some (.bool true) := by kernel_rfl
theorem eQ2_1_5 (ok) : fstO (evDS (pgDp s bung dip xs (eQ 2 1 5) ok) (spQ 2 1) 2000 60 (.fn 3) (argsDp 2 2) (hpDp 2 2) 2) = some (.bool true) := by kernel_rfl
theorem eQ3_1_2 (ok) : fstO (evDS (pgDp s bung dip xs (eQ 3 1 2) ok) (spQ 3 1) 2000 60 (.fn 3) (argsDp 3 2) (hpDp 3 2) 2) = some (.bool true) := by kernel_rfl
theorem wBig4 (ok) : fstO (evDS (pgDp s bung dip xs (g0Q 4 ++ [negF (bigF 4)]) ok) (spQ 4 0) 2000 60 (.fn 3) (argsDp 4 1) (hpDp 4 1) 2) = some (.bool true) := by kernel_rfl
theorem eQ4_1_7 (ok) : fstO (evDS (pgDp s bung dip xs (eQ 4 1 7) ok) (spQ 4 1) 2000 60 (.fn 3) (argsDp 4 2) (hpDp 4 2) 2) = some (.bool true) := by kernel_rfl
theorem eQ2_0_1 (ok) : fstO (evDS (pgDp s bung dip xs (eQ 2 0 1) ok) (spQ 2 0) 2000 60 (.fn 3) (argsDp 2 1) (hpDp 2 1) 2) = some (.bool true) := by kernel_rfl
theorem eQ2_0_6 (ok) : fstO (evDS (pgDp s bung dip xs (eQ 2 0 6) ok) (spQ 2 0) 2000 60 (.fn 3) (argsDp 2 1) (hpDp 2 1) 2) = some (.bool true) := by kernel_rfl
theorem eQ3_0_5 (ok) : fstO (evDS (pgDp s bung dip xs (eQ 3 0 5) ok) (spQ 3 0) 2000 60 (.fn 3) (argsDp 3 1) (hpDp 3 1) 2) = some (.bool true) := by kernel_rfl
theorem eQ4_0_4 (ok) : fstO (evDS (pgDp s bung dip xs (eQ 4 0 4) ok) (spQ 4 0) 2000 60 (.fn 3) (argsDp 4 1) (hpDp 4 1) 2) = some (.bool true) := by kernel_rfl
theorem eL2_3 (ok) : fstO (evDS (pgL s bung dip xs v (eL 2 3) ok) (spL0 2) 2000 60 (.fn 3) (argsL 2) (hpW 2) 1) = some (.bool true) := by kernel_rfl
theorem eL4_1 (ok) : fstO (evDS (pgL s bung dip xs v (eL 4 1) ok) (spL0 4) 2000 60 (.fn 3) (argsL 4) (hpW 4) 1) = some (.bool true) := by kernel_rfl
end
end Sy
end Go.Proofs.Ytpfhfphcmomfdaa
