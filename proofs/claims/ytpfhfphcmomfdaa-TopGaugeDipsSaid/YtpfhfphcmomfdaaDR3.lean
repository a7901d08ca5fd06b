/- The law TopGaugeDips, reckoned with symbols: runs, part 3. -/
import Derived.Test.YtpfhfphcmomfdaaDI
set_option linter.unusedVariables false
set_option linter.unusedSimpArgs false
namespace Go.Proofs.Ytpfhfphcmomfdaa
open Go.RowKit
namespace Sy
open Go.RowKit

section
variable (s : ByteArray) (bung dip : Int) (xs : List Int) (v u : Value)
theorem wQ2_6_2 (ok) : fstO (evDS (pgDp s bung dip xs (allQ 2 6 ++ endQ 2 6 2) ok) (spQ 2 6) 2000 60 (.fn 3) (argsDp 2 6) (hpDp 2 6) 2) = some (.bool true) := by kernel_rfl
theorem wQ3_6_3 (ok) : fstO (evDS (pgDp s bung dip xs (allQ 3 6 ++ endQ 3 6 3) ok) (spQ 3 6) 2000 60 (.fn 3) (argsDp 3 6) (hpDp 3 6) 2) = some (.bool true) := by kernel_rfl
theorem wQ4_6_4 (ok) : fstO (evDS (pgDp s bung dip xs (allQ 4 6 ++ endQ 4 6 4) ok) (spQ 4 6) 2000 60 (.fn 3) (argsDp 4 6) (hpDp 4 6) 2) = some (.bool true) := by kernel_rfl
theorem wQ3_5_2 (ok) : fstO (evDS (pgDp s bung dip xs (allQ 3 5 ++ endQ 3 5 2) ok) (spQ 3 5) 2000 60 (.fn 3) (argsDp 3 5) (hpDp 3 5) 2) = some (.bool true) := by kernel_rfl
theorem wQ4_5_4 (ok) : fstO (evDS (pgDp s bung dip xs (allQ 4 5 ++ endQ 4 5 4) ok) (spQ 4 5) 2000 60 (.fn 3) (argsDp 4 5) (hpDp 4 5) 2) = some (.bool true) := by kernel_rfl
theorem wQ3_4_2 (ok) : fstO (evDS (pgDp s bung dip xs (allQ 3 4 ++ endQ 3 4 2) ok) (spQ 3 4) 2000 60 (.fn 3) (argsDp 3 4) (hpDp 3 4) 2) = some (.bool true) := by kernel_rfl
theorem wQ2_3_0 (ok) : fstO (evDS (pgDp s bung dip xs (allQ 2 3 ++ endQ 2 3 0) ok) (spQ 2 3) 2000 60 (.fn 3) (argsDp 2 3) (hpDp 2 3) 2) = some (.bool true) := by kernel_rfl
theorem wQ3_3_2 (ok) : fstO (evDS (pgDp s bung dip xs (allQ 3 3 ++ endQ 3 3 2) ok) (spQ 3 3) 2000 60 (.fn 3) (argsDp 3 3) (hpDp 3 3) 2) = some (.bool true) := by kernel_rfl
theorem eQ2_5_2 (ok) : fstO (evDS (pgDp s bung dip xs (eQ 2 5 2) ok) (spQ 2 5) 2000 60 (.fn 3) (argsDp 2 6) (hpDp 2 6) 2) = some (.bool true) := by kernel_rfl
theorem eQ3_5_0 (ok) : fstO (evDS (pgDp s bung dip xs (eQ 3 5 0) ok) (spQ 3 5) 2000 60 (.fn 3) (argsDp 3 6) (hpDp 3 6) 2) = some (.bool true) := by kernel_rfl
theorem eQ3_5_8 (ok) : fstO (evDS (pgDp s bung dip xs (eQ 3 5 8) ok) (spQ 3 5) 2000 60 (.fn 3) (argsDp 3 6) (hpDp 3 6) 2) = some (.bool true) := by kernel_rfl
theorem eQ4_5_6 (ok) : fstO (evDS (pgDp s bung dip xs (eQ 4 5 6) ok) (spQ 4 5) 2000 60 (.fn 3) (argsDp 4 6) (hpDp 4 6) 2) = some (.bool true) := by kernel_rfl
theorem eQ2_4_4 (ok) : fstO (evDS (pgDp s bung dip xs (eQ 2 4 4) ok) (spQ 2 4) 2000 60 (.fn 3) (argsDp 2 5) (hpDp 2 5) 2) = some (.bool true) := by kernel_rfl
theorem eQ3_4_2 (ok) : fstO (evDS (pgDp s bung dip xs (eQ 3 4 2) ok) (spQ 3 4) 2000 60 (.fn 3) (argsDp 3 5) (hpDp 3 5) 2) = some (.bool true) := by kernel_rfl
theorem eQ4_4_0 (ok) : fstO (evDS (pgDp s bung dip xs (eQ 4 4 0) ok) (spQ 4 4) 2000 60 (.fn 3) (argsDp 4 5) (hpDp 4 5) 2) = some (.bool true) := by kernel_rfl
theorem eQ4_4_8 (ok) : fstO (evDS (pgDp s bung dip xs (eQ 4 4 8) ok) (spQ 4 4) 2000 60 (.fn 3) (argsDp 4 5) (hpDp 4 5) 2) = some (.bool true) := by kernel_rfl
theorem eQ2_3_6 (ok) : fstO (evDS (pgDp s bung dip xs (eQ 2 3 6) ok) (spQ 2 3) 2000 60 (.fn 3) (argsDp 2 4) (hpDp 2 4) 2) = some (.bool true) := by kernel_rfl
theorem eQ3_3_4 (ok) : fstO (evDS (pgDp s bung dip xs (eQ 3 3 4) ok) (spQ 3 3) 2000 60 (.fn 3) (argsDp 3 4) (hpDp 3 4) 2) = some (.bool true) := by kernel_rfl
theorem eQ4_3_2 (ok) : fstO (evDS (pgDp s bung dip xs (eQ 4 3 2) ok) (spQ 4 3) 2000 60 (.fn 3) (argsDp 4 4) (hpDp 4 4) 2) = some (.bool true) := by kernel_rfl
theorem wQ2_2_0 (ok) : fstO (evDS (pgDp s bung dip xs (allQ 2 2 ++ endQ 2 2 0) ok) (spQ 2 2) 2000 60 (.fn 3) (argsDp 2 2) (hpDp 2 2) 2) = some (.bool true) := by kernel_rfl
theorem wQ4_2_2 (ok) : fstO (evDS (pgDp s bung dip xs (allQ 4 2 ++ endQ 4 2 2) ok) (spQ 4 2) 2000 60 (.fn 3) (argsDp 4 2) (hpDp 4 2) 2) = some (.bool true) := by kernel_rfl
theorem eQ2_2_8 (ok) : fstO (evDS (pgDp s bung dip xs (eQ 2 2 8) ok) (spQ 2 2) 2000 60 (.fn 3) (argsDp 2 3) (hpDp 2 3) 2) = some (.bool true) := by kernel_rfl
theorem eQ3_2_6 (ok) : fstO (evDS (pgDp s bung dip xs (eQ 3 2 6) ok) (spQ 3 2) 2000 60 (.fn 3) (argsDp 3 3) (hpDp 3 3) 2) = some (.bool true) := by kernel_rfl
theorem eQ4_2_4 (ok) : fstO (evDS (pgDp s bung dip xs (eQ 4 2 4) ok) (spQ 4 2) 2000 60 (.fn 3) (argsDp 4 3) (hpDp 4 3) 2) = some (.bool true) := by kernel_rfl
theorem eQ2_1_1 (ok) : fstO (evDS (pgDp s bung dip xs (eQ 2 1 1) ok) (spQ 2 1) 2000 60 (.fn 3) (argsDp 2 2) (hpDp 2 2) 2) = some (.bool true) := by kernel_rfl
theorem eQ2_1_4 (ok) : fstO (evDS (pgDp s bung dip xs (eQ 2 1 4) ok) (spQ 2 1) 2000 60 (.fn 3) (argsDp 2 2) (hpDp 2 2) 2) = some (.bool true) := by kernel_rfl
theorem eQ3_1_1 (ok) : fstO (evDS (pgDp s bung dip xs (eQ 3 1 1) ok) (spQ 3 1) 2000 60 (.fn 3) (argsDp 3 2) (hpDp 3 2) 2) = some (.bool true) := by kernel_rfl
theorem eQ3_1_9 (ok) : fstO (evDS (pgDp s bung dip xs (eQ 3 1 9) ok) (spQB 3 1) 2000 60 (.fn 3) (argsDp 3 2) (hpDp 3 2) 2) = some (.bool true) := by kernel_rfl
theorem eQ4_1_6 (ok) : fstO (evDS (pgDp s bung dip xs (eQ 4 1 6) ok) (spQ 4 1) 2000 60 (.fn 3) (argsDp 4 2) (hpDp 4 2) 2) = some (.bool true) := by kernel_rfl
theorem eQ2_0_0 (ok) : fstO (evDS (pgDp s bung dip xs (eQ 2 0 0) ok) (spQ 2 0) 2000 60 (.fn 3) (argsDp 2 1) (hpDp 2 1) 2) = some (.bool true) := by kernel_rfl
theorem eQ2_0_5 (ok) : fstO (evDS (pgDp s bung dip xs (eQ 2 0 5) ok) (spQ 2 0) 2000 60 (.fn 3) (argsDp 2 1) (hpDp 2 1) 2) = some (.bool true) := by kernel_rfl
theorem eQ3_0_4 (ok) : fstO (evDS (pgDp s bung dip xs (eQ 3 0 4) ok) (spQ 3 0) 2000 60 (.fn 3) (argsDp 3 1) (hpDp 3 1) 2) = some (.bool true) := by kernel_rfl
theorem eQ4_0_3 (ok) : fstO (evDS (pgDp s bung dip xs (eQ 4 0 3) ok) (spQ 4 0) 2000 60 (.fn 3) (argsDp 4 1) (hpDp 4 1) 2) = some (.bool true) := by kernel_rfl
theorem eL2_2 (ok) : fstO (evDS (pgL s bung dip xs v (eL 2 2) ok) (spL0 2) 2000 60 (.fn 3) (argsL 2) (hpW 2) 1) = some (.bool true) := by kernel_rfl
theorem eL4_0 (ok) : fstO (evDS (pgL s bung dip xs v (eL 4 0) ok) (spL0 4) 2000 60 (.fn 3) (argsL 4) (hpW 4) 1) = some (.bool true) := by kernel_rfl
theorem mNone (len : Int) (ok) : fstO (evDS (pgM s bung dip len v u [(0, errV 0, iD 0, false)] ok) spM1 2000 60 (.fn 3) argsM .leaf 0) = some (.bool true) := by kernel_rfl
end
end Sy
end Go.Proofs.Ytpfhfphcmomfdaa
