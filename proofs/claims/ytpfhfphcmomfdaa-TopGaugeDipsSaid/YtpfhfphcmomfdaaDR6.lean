/- The law TopGaugeDips, reckoned with symbols: runs, part 6. -/
import Derived.Test.YtpfhfphcmomfdaaDI
set_option linter.unusedVariables false
set_option linter.unusedSimpArgs false
namespace Go.Proofs.Ytpfhfphcmomfdaa
open Go.RowKit
namespace Sy
open Go.RowKit

section
variable (s : ByteArray) (bung dip : Int) (xs : List Int) (v u : Value)
theorem wQ2_6_5 (ok) : fstO (evDS (pgDp s bung dip xs (allQ 2 6 ++ endQ 2 6 5) ok) (spQ 2 6) 2000 60 (.fn 3) (argsDp 2 6) (hpDp 2 6) 2) = some (.bool true) := by kernel_rfl
theorem wQ3_6_6 (ok) : fstO (evDS (pgDp s bung dip xs (allQ 3 6 ++ endQ 3 6 6) ok) (spQ 3 6) 2000 60 (.fn 3) (argsDp 3 6) (hpDp 3 6) 2) = some (.bool true) := by kernel_rfl
theorem wQ2_5_0 (ok) : fstO (evDS (pgDp s bung dip xs (allQ 2 5 ++ endQ 2 5 0) ok) (spQ 2 5) 2000 60 (.fn 3) (argsDp 2 5) (hpDp 2 5) 2) = some (.bool true) := by kernel_rfl
theorem wQ2_5_3 (ok) : fstO (evDS (pgDp s bung dip xs (allQ 2 5 ++ endQ 2 5 3) ok) (spQ 2 5) 2000 60 (.fn 3) (argsDp 2 5) (hpDp 2 5) 2) = some (.bool true) := by kernel_rfl
theorem wQ3_5_5 (ok) : fstO (evDS (pgDp s bung dip xs (allQ 3 5 ++ endQ 3 5 5) ok) (spQ 3 5) 2000 60 (.fn 3) (argsDp 3 5) (hpDp 3 5) 2) = some (.bool true) := by kernel_rfl
theorem wQ2_4_1 (ok) : fstO (evDS (pgDp s bung dip xs (allQ 2 4 ++ endQ 2 4 1) ok) (spQ 2 4) 2000 60 (.fn 3) (argsDp 2 4) (hpDp 2 4) 2) = some (.bool true) := by kernel_rfl
theorem wQ3_4_4 (ok) : fstO (evDS (pgDp s bung dip xs (allQ 3 4 ++ endQ 3 4 4) ok) (spQ 3 4) 2000 60 (.fn 3) (argsDp 3 4) (hpDp 3 4) 2) = some (.bool true) := by kernel_rfl
theorem wQ2_3_2 (ok) : fstO (evDS (pgDp s bung dip xs (allQ 2 3 ++ endQ 2 3 2) ok) (spQ 2 3) 2000 60 (.fn 3) (argsDp 2 3) (hpDp 2 3) 2) = some (.bool true) := by kernel_rfl
theorem wQ4_3_2 (ok) : fstO (evDS (pgDp s bung dip xs (allQ 4 3 ++ endQ 4 3 2) ok) (spQ 4 3) 2000 60 (.fn 3) (argsDp 4 3) (hpDp 4 3) 2) = some (.bool true) := by kernel_rfl
theorem eQ2_5_7 (ok) : fstO (evDS (pgDp s bung dip xs (eQ 2 5 7) ok) (spQ 2 5) 2000 60 (.fn 3) (argsDp 2 6) (hpDp 2 6) 2) = some (.bool true) := by kernel_rfl
theorem eQ3_5_5 (ok) : fstO (evDS (pgDp s bung dip xs (eQ 3 5 5) ok) (spQ 3 5) 2000 60 (.fn 3) (argsDp 3 6) (hpDp 3 6) 2) = some (.bool true) := by kernel_rfl
theorem eQ4_5_3 (ok) : fstO (evDS (pgDp s bung dip xs (eQ 4 5 3) ok) (spQ 4 5) 2000 60 (.fn 3) (argsDp 4 6) (hpDp 4 6) 2) = some (.bool true) := by kernel_rfl
theorem eQ2_4_1 (ok) : fstO (evDS (pgDp s bung dip xs (eQ 2 4 1) ok) (spQ 2 4) 2000 60 (.fn 3) (argsDp 2 5) (hpDp 2 5) 2) = some (.bool true) := by kernel_rfl
theorem eQ2_4_9 (ok) : fstO (evDS (pgDp s bung dip xs (eQ 2 4 9) ok) (spQB 2 4) 2000 60 (.fn 3) (argsDp 2 5) (hpDp 2 5) 2) = some (.bool true) := by kernel_rfl
theorem eQ3_4_7 (ok) : fstO (evDS (pgDp s bung dip xs (eQ 3 4 7) ok) (spQ 3 4) 2000 60 (.fn 3) (argsDp 3 5) (hpDp 3 5) 2) = some (.bool true) := by kernel_rfl
theorem eQ4_4_5 (ok) : fstO (evDS (pgDp s bung dip xs (eQ 4 4 5) ok) (spQ 4 4) 2000 60 (.fn 3) (argsDp 4 5) (hpDp 4 5) 2) = some (.bool true) := by kernel_rfl
theorem eQ2_3_3 (ok) : fstO (evDS (pgDp s bung dip xs (eQ 2 3 3) ok) (spQ 2 3) 2000 60 (.fn 3) (argsDp 2 4) (hpDp 2 4) 2) = some (.bool true) := by kernel_rfl
theorem eQ3_3_1 (ok) : fstO (evDS (pgDp s bung dip xs (eQ 3 3 1) ok) (spQ 3 3) 2000 60 (.fn 3) (argsDp 3 4) (hpDp 3 4) 2) = some (.bool true) := by kernel_rfl
theorem eQ3_3_9 (ok) : fstO (evDS (pgDp s bung dip xs (eQ 3 3 9) ok) (spQB 3 3) 2000 60 (.fn 3) (argsDp 3 4) (hpDp 3 4) 2) = some (.bool true) := by kernel_rfl
theorem eQ4_3_7 (ok) : fstO (evDS (pgDp s bung dip xs (eQ 4 3 7) ok) (spQ 4 3) 2000 60 (.fn 3) (argsDp 4 4) (hpDp 4 4) 2) = some (.bool true) := by kernel_rfl
theorem wQ3_2_2 (ok) : fstO (evDS (pgDp s bung dip xs (allQ 3 2 ++ endQ 3 2 2) ok) (spQ 3 2) 2000 60 (.fn 3) (argsDp 3 2) (hpDp 3 2) 2) = some (.bool true) := by kernel_rfl
theorem eQ2_2_4 (ok) : fstO (evDS (pgDp s bung dip xs (eQ 2 2 4) ok) (spQ 2 2) 2000 60 (.fn 3) (argsDp 2 3) (hpDp 2 3) 2) = some (.bool true) := by kernel_rfl
theorem eQ3_2_2 (ok) : fstO (evDS (pgDp s bung dip xs (eQ 3 2 2) ok) (spQ 3 2) 2000 60 (.fn 3) (argsDp 3 3) (hpDp 3 3) 2) = some (.bool true) := by kernel_rfl
theorem eQ4_2_0 (ok) : fstO (evDS (pgDp s bung dip xs (eQ 4 2 0) ok) (spQ 4 2) 2000 60 (.fn 3) (argsDp 4 3) (hpDp 4 3) 2) = some (.bool true) := by kernel_rfl
theorem eQ4_2_8 (ok) : fstO (evDS (pgDp s bung dip xs (eQ 4 2 8) ok) (spQ 4 2) 2000 60 (.fn 3) (argsDp 4 3) (hpDp 4 3) 2) = some (.bool true) := by kernel_rfl
theorem eQ2_1_8 (ok) : fstO (evDS (pgDp s bung dip xs (eQ 2 1 8) ok) (spQ 2 1) 2000 60 (.fn 3) (argsDp 2 2) (hpDp 2 2) 2) = some (.bool true) := by kernel_rfl
theorem eQ3_1_5 (ok) : fstO (evDS (pgDp s bung dip xs (eQ 3 1 5) ok) (spQ 3 1) 2000 60 (.fn 3) (argsDp 3 2) (hpDp 3 2) 2) = some (.bool true) := by kernel_rfl
theorem eQ4_1_2 (ok) : fstO (evDS (pgDp s bung dip xs (eQ 4 1 2) ok) (spQ 4 1) 2000 60 (.fn 3) (argsDp 4 2) (hpDp 4 2) 2) = some (.bool true) := by kernel_rfl
theorem wQ2_1_0 (ok) : fstO (evDS (pgDp s bung dip xs (allQ 2 1 ++ endQ 2 1 0) ok) (spQ 2 1) 2000 60 (.fn 3) (argsDp 2 1) (hpDp 2 1) 2) = some (.bool true) := by kernel_rfl
theorem wQ4_1_0 (ok) : fstO (evDS (pgDp s bung dip xs (allQ 4 1 ++ endQ 4 1 0) ok) (spQ 4 1) 2000 60 (.fn 3) (argsDp 4 1) (hpDp 4 1) 2) = some (.bool true) := by kernel_rfl
theorem eQ3_0_1 (ok) : fstO (evDS (pgDp s bung dip xs (eQ 3 0 1) ok) (spQ 3 0) 2000 60 (.fn 3) (argsDp 3 1) (hpDp 3 1) 2) = some (.bool true) := by kernel_rfl
theorem eQ4_0_0 (ok) : fstO (evDS (pgDp s bung dip xs (eQ 4 0 0) ok) (spQ 4 0) 2000 60 (.fn 3) (argsDp 4 1) (hpDp 4 1) 2) = some (.bool true) := by kernel_rfl
theorem eQ4_0_8 (ok) : fstO (evDS (pgDp s bung dip xs (eQ 4 0 8) ok) (spQB 4 0) 2000 60 (.fn 3) (argsDp 4 1) (hpDp 4 1) 2) = some (.bool true) := by kernel_rfl
theorem eL3_2 (ok) : fstO (evDS (pgL s bung dip xs v (eL 3 2) ok) (spL0 3) 2000 60 (.fn 3) (argsL 3) (hpW 3) 1) = some (.bool true) := by kernel_rfl
theorem eL13_0 (ok) : fstO (evDS (pgL s bung dip xs v (eL 13 0) ok) (spL0 13) 2000 60 (.fn 3) (argsL 13) (hpW 13) 1) = some (.bool true) := by kernel_rfl
end
end Sy
end Go.Proofs.Ytpfhfphcmomfdaa
