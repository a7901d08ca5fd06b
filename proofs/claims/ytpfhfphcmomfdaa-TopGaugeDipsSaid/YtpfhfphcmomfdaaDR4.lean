/- The law TopGaugeDips, reckoned with symbols: runs, part 4. -/
import Derived.Test.YtpfhfphcmomfdaaDI
set_option linter.unusedVariables false
set_option linter.unusedSimpArgs false
namespace Go.Proofs.Ytpfhfphcmomfdaa
open Go.RowKit
namespace Sy
open Go.RowKit

section
variable (s : ByteArray) (bung dip : Int) (xs : List Int) (v u : Value)
theorem wQ2_6_3 (ok) : fstO (evDS (pgDp s bung dip xs (allQ 2 6 ++ endQ 2 6 3) ok) (spQ 2 6) 2000 60 (.fn 3) (argsDp 2 6) (hpDp 2 6) 2) = some (.bool true) := by kernel_rfl
theorem wQ3_6_4 (ok) : fstO (evDS (pgDp s bung dip xs (allQ 3 6 ++ endQ 3 6 4) ok) (spQ 3 6) 2000 60 (.fn 3) (argsDp 3 6) (hpDp 3 6) 2) = some (.bool true) := by kernel_rfl
theorem wQ4_6_5 (ok) : fstO (evDS (pgDp s bung dip xs (allQ 4 6 ++ endQ 4 6 5) ok) (spQ 4 6) 2000 60 (.fn 3) (argsDp 4 6) (hpDp 4 6) 2) = some (.bool true) := by kernel_rfl
theorem wQ3_5_3 (ok) : fstO (evDS (pgDp s bung dip xs (allQ 3 5 ++ endQ 3 5 3) ok) (spQ 3 5) 2000 60 (.fn 3) (argsDp 3 5) (hpDp 3 5) 2) = some (.bool true) := by kernel_rfl
theorem wQ4_5_5 (ok) : fstO (evDS (pgDp s bung dip xs (allQ 4 5 ++ endQ 4 5 5) ok) (spQ 4 5) 2000 60 (.fn 3) (argsDp 4 5) (hpDp 4 5) 2) = some (.bool true) := by kernel_rfl
theorem wQ3_4_3 (ok) : fstO (evDS (pgDp s bung dip xs (allQ 3 4 ++ endQ 3 4 3) ok) (spQ 3 4) 2000 60 (.fn 3) (argsDp 3 4) (hpDp 3 4) 2) = some (.bool true) := by kernel_rfl
theorem wQ2_3_1 (ok) : fstO (evDS (pgDp s bung dip xs (allQ 2 3 ++ endQ 2 3 1) ok) (spQ 2 3) 2000 60 (.fn 3) (argsDp 2 3) (hpDp 2 3) 2) = some (.bool true) := by kernel_rfl
theorem wQ3_3_3 (ok) : fstO (evDS (pgDp s bung dip xs (allQ 3 3 ++ endQ 3 3 3) ok) (spQ 3 3) 2000 60 (.fn 3) (argsDp 3 3) (hpDp 3 3) 2) = some (.bool true) := by kernel_rfl
theorem eQ2_5_3 (ok) : fstO (evDS (pgDp s bung dip xs (eQ 2 5 3) ok) (spQ 2 5) 2000 60 (.fn 3) (argsDp 2 6) (hpDp 2 6) 2) = some (.bool true) := by kernel_rfl
theorem eQ3_5_1 (ok) : fstO (evDS (pgDp s bung dip xs (eQ 3 5 1) ok) (spQ 3 5) 2000 60 (.fn 3) (argsDp 3 6) (hpDp 3 6) 2) = some (.bool true) := by kernel_rfl
theorem eQ3_5_9 (ok) : fstO (evDS (pgDp s bung dip xs (eQ 3 5 9) ok) (spQB 3 5) 2000 60 (.fn 3) (argsDp 3 6) (hpDp 3 6) 2) = some (.bool true) := by kernel_rfl
theorem eQ4_5_7 (ok) : fstO (evDS (pgDp s bung dip xs (eQ 4 5 7) ok) (spQ 4 5) 2000 60 (.fn 3) (argsDp 4 6) (hpDp 4 6) 2) = some (.bool true) := by kernel_rfl
theorem eQ2_4_5 (ok) : fstO (evDS (pgDp s bung dip xs (eQ 2 4 5) ok) (spQ 2 4) 2000 60 (.fn 3) (argsDp 2 5) (hpDp 2 5) 2) = some (.bool true) := by kernel_rfl
theorem eQ3_4_3 (ok) : fstO (evDS (pgDp s bung dip xs (eQ 3 4 3) ok) (spQ 3 4) 2000 60 (.fn 3) (argsDp 3 5) (hpDp 3 5) 2) = some (.bool true) := by kernel_rfl
theorem eQ4_4_1 (ok) : fstO (evDS (pgDp s bung dip xs (eQ 4 4 1) ok) (spQ 4 4) 2000 60 (.fn 3) (argsDp 4 5) (hpDp 4 5) 2) = some (.bool true) := by kernel_rfl
theorem eQ4_4_9 (ok) : fstO (evDS (pgDp s bung dip xs (eQ 4 4 9) ok) (spQB 4 4) 2000 60 (.fn 3) (argsDp 4 5) (hpDp 4 5) 2) = some (.bool true) := by kernel_rfl
theorem eQ2_3_7 (ok) : fstO (evDS (pgDp s bung dip xs (eQ 2 3 7) ok) (spQ 2 3) 2000 60 (.fn 3) (argsDp 2 4) (hpDp 2 4) 2) = some (.bool true) := by kernel_rfl
theorem eQ3_3_5 (ok) : fstO (evDS (pgDp s bung dip xs (eQ 3 3 5) ok) (spQ 3 3) 2000 60 (.fn 3) (argsDp 3 4) (hpDp 3 4) 2) = some (.bool true) := by kernel_rfl
theorem eQ4_3_3 (ok) : fstO (evDS (pgDp s bung dip xs (eQ 4 3 3) ok) (spQ 4 3) 2000 60 (.fn 3) (argsDp 4 4) (hpDp 4 4) 2) = some (.bool true) := by kernel_rfl
theorem wQ2_2_1 (ok) : fstO (evDS (pgDp s bung dip xs (allQ 2 2 ++ endQ 2 2 1) ok) (spQ 2 2) 2000 60 (.fn 3) (argsDp 2 2) (hpDp 2 2) 2) = some (.bool true) := by kernel_rfl
theorem eQ2_2_0 (ok) : fstO (evDS (pgDp s bung dip xs (eQ 2 2 0) ok) (spQ 2 2) 2000 60 (.fn 3) (argsDp 2 3) (hpDp 2 3) 2) = some (.bool true) := by kernel_rfl
theorem eQ2_2_6 (ok) : fstO (evDS (pgDp s bung dip xs (eQ 2 2 6) ok) (spQ 2 2) 2000 60 (.fn 3) (argsDp 2 3) (hpDp 2 3) 2) = some (.bool true) := by kernel_rfl
theorem eQ3_2_4 (ok) : fstO (evDS (pgDp s bung dip xs (eQ 3 2 4) ok) (spQ 3 2) 2000 60 (.fn 3) (argsDp 3 3) (hpDp 3 3) 2) = some (.bool true) := by kernel_rfl
theorem eQ4_2_2 (ok) : fstO (evDS (pgDp s bung dip xs (eQ 4 2 2) ok) (spQ 4 2) 2000 60 (.fn 3) (argsDp 4 3) (hpDp 4 3) 2) = some (.bool true) := by kernel_rfl
theorem wBig2 (ok) : fstO (evDS (pgDp s bung dip xs (g0Q 2 ++ [negF (bigF 2)]) ok) (spQ 2 0) 2000 60 (.fn 3) (argsDp 2 1) (hpDp 2 1) 2) = some (.bool true) := by kernel_rfl
theorem eQ2_1_2 (ok) : fstO (evDS (pgDp s bung dip xs (eQ 2 1 2) ok) (spQ 2 1) 2000 60 (.fn 3) (argsDp 2 2) (hpDp 2 2) 2) = some (.bool true) := by kernel_rfl
theorem wBig3 (ok) : fstO (evDS (pgDp s bung dip xs (g0Q 3 ++ [negF (bigF 3)]) ok) (spQ 3 0) 2000 60 (.fn 3) (argsDp 3 1) (hpDp 3 1) 2) = some (.bool true) := by kernel_rfl
theorem eQ3_1_7 (ok) : fstO (evDS (pgDp s bung dip xs (eQ 3 1 7) ok) (spQ 3 1) 2000 60 (.fn 3) (argsDp 3 2) (hpDp 3 2) 2) = some (.bool true) := by kernel_rfl
theorem eQ4_1_4 (ok) : fstO (evDS (pgDp s bung dip xs (eQ 4 1 4) ok) (spQ 4 1) 2000 60 (.fn 3) (argsDp 4 2) (hpDp 4 2) 2) = some (.bool true) := by kernel_rfl
theorem wQ3_1_0 (ok) : fstO (evDS (pgDp s bung dip xs (allQ 3 1 ++ endQ 3 1 0) ok) (spQ 3 1) 2000 60 (.fn 3) (argsDp 3 1) (hpDp 3 1) 2) = some (.bool true) := by kernel_rfl
theorem eQ2_0_4 (ok) : fstO (evDS (pgDp s bung dip xs (eQ 2 0 4) ok) (spQ 2 0) 2000 60 (.fn 3) (argsDp 2 1) (hpDp 2 1) 2) = some (.bool true) := by kernel_rfl
theorem eQ3_0_3 (ok) : fstO (evDS (pgDp s bung dip xs (eQ 3 0 3) ok) (spQ 3 0) 2000 60 (.fn 3) (argsDp 3 1) (hpDp 3 1) 2) = some (.bool true) := by kernel_rfl
theorem eQ4_0_2 (ok) : fstO (evDS (pgDp s bung dip xs (eQ 4 0 2) ok) (spQ 4 0) 2000 60 (.fn 3) (argsDp 4 1) (hpDp 4 1) 2) = some (.bool true) := by kernel_rfl
theorem eL2_1 (ok) : fstO (evDS (pgL s bung dip xs v (eL 2 1) ok) (spL0 2) 2000 60 (.fn 3) (argsL 2) (hpW 2) 1) = some (.bool true) := by kernel_rfl
theorem eL3_4 (ok) : fstO (evDS (pgL s bung dip xs v (eL 3 4) ok) (spL0 3) 2000 60 (.fn 3) (argsL 3) (hpW 3) 1) = some (.bool true) := by kernel_rfl
theorem mBig (len : Int) (ok) : fstO (evDS (pgM s bung dip len v u [] ok) (spM0 false) 2000 60 (.fn 3) argsM .leaf 0) = some (.bool true) := by kernel_rfl
end
end Sy
end Go.Proofs.Ytpfhfphcmomfdaa
