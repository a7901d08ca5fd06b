/- FirstShort of right systems: runs. -/
import Derived.Test.YtdejmleboflopaaGreatYD1
set_option linter.unusedVariables false
set_option linter.unusedSimpArgs false
namespace Go.Proofs.YtdejmleboflopaaGreat
open Go.RowKit
namespace Sy
open Go.RowKit

section
variable (Y : Yr)
theorem fsG_4_0 (ok) : fstO (evDS (pgY Y (fG ++ noShY 4 0) ok) (spFs 4 0) 2000 60 (.fn 11) (ptVals 0 [pS 4, bA, dW 0]) (memT (ptObjs [pS 4, bA, dW 0])) 3) = some (.tuple #[.agg #[iP 0, iP 0], iP 12]) := by kernel_rfl
theorem fsG_4_1 (ok) : fstO (evDS (pgY Y (fG ++ noShY 4 1) ok) (spFs 4 1) 2000 60 (.fn 11) (ptVals 0 [pS 4, bA, dW 1]) (memT (ptObjs [pS 4, bA, dW 1])) 3) = some (.tuple #[.agg #[iP 0, iP 0], iP 12]) := by kernel_rfl
theorem fsS_4_1_0_0 (ok) : fstO (evDS (pgY Y (fG ++ atShY 4 0 0) ok) (spFs 4 1) 2000 60 (.fn 11) (ptVals 0 [pS 4, bA, dW 1]) (memT (ptObjs [pS 4, bA, dW 1])) 3) = some (.tuple #[.agg #[iP 0, iP 0], iP 0]) := by kernel_rfl
theorem fsS_4_1_0_1 (ok) : fstO (evDS (pgY Y (fG ++ atShY 4 0 1) ok) (spFs 4 1) 2000 60 (.fn 11) (ptVals 0 [pS 4, bA, dW 1]) (memT (ptObjs [pS 4, bA, dW 1])) 3) = some (.tuple #[.agg #[iP 0, iP 1], iP 0]) := by kernel_rfl
theorem fsS_4_1_0_2 (ok) : fstO (evDS (pgY Y (fG ++ atShY 4 0 2) ok) (spFs 4 1) 2000 60 (.fn 11) (ptVals 0 [pS 4, bA, dW 1]) (memT (ptObjs [pS 4, bA, dW 1])) 3) = some (.tuple #[.agg #[iP 0, iP 2], iP 0]) := by kernel_rfl
theorem fsS_4_1_0_3 (ok) : fstO (evDS (pgY Y (fG ++ atShY 4 0 3) ok) (spFs 4 1) 2000 60 (.fn 11) (ptVals 0 [pS 4, bA, dW 1]) (memT (ptObjs [pS 4, bA, dW 1])) 3) = some (.tuple #[.agg #[iP 0, iP 3], iP 0]) := by kernel_rfl
theorem fsG_4_2 (ok) : fstO (evDS (pgY Y (fG ++ noShY 4 2) ok) (spFs 4 2) 2000 60 (.fn 11) (ptVals 0 [pS 4, bA, dW 2]) (memT (ptObjs [pS 4, bA, dW 2])) 3) = some (.tuple #[.agg #[iP 0, iP 0], iP 12]) := by kernel_rfl
theorem fsS_4_2_0_0 (ok) : fstO (evDS (pgY Y (fG ++ atShY 4 0 0) ok) (spFs 4 2) 2000 60 (.fn 11) (ptVals 0 [pS 4, bA, dW 2]) (memT (ptObjs [pS 4, bA, dW 2])) 3) = some (.tuple #[.agg #[iP 0, iP 0], iP 0]) := by kernel_rfl
theorem fsS_4_2_0_1 (ok) : fstO (evDS (pgY Y (fG ++ atShY 4 0 1) ok) (spFs 4 2) 2000 60 (.fn 11) (ptVals 0 [pS 4, bA, dW 2]) (memT (ptObjs [pS 4, bA, dW 2])) 3) = some (.tuple #[.agg #[iP 0, iP 1], iP 0]) := by kernel_rfl
theorem fsS_4_2_0_2 (ok) : fstO (evDS (pgY Y (fG ++ atShY 4 0 2) ok) (spFs 4 2) 2000 60 (.fn 11) (ptVals 0 [pS 4, bA, dW 2]) (memT (ptObjs [pS 4, bA, dW 2])) 3) = some (.tuple #[.agg #[iP 0, iP 2], iP 0]) := by kernel_rfl
theorem fsS_4_2_0_3 (ok) : fstO (evDS (pgY Y (fG ++ atShY 4 0 3) ok) (spFs 4 2) 2000 60 (.fn 11) (ptVals 0 [pS 4, bA, dW 2]) (memT (ptObjs [pS 4, bA, dW 2])) 3) = some (.tuple #[.agg #[iP 0, iP 3], iP 0]) := by kernel_rfl
theorem fsS_4_2_1_0 (ok) : fstO (evDS (pgY Y (fG ++ atShY 4 1 0) ok) (spFs 4 2) 2000 60 (.fn 11) (ptVals 0 [pS 4, bA, dW 2]) (memT (ptObjs [pS 4, bA, dW 2])) 3) = some (.tuple #[.agg #[iP 1, iP 0], iP 0]) := by kernel_rfl
theorem fsS_4_2_1_1 (ok) : fstO (evDS (pgY Y (fG ++ atShY 4 1 1) ok) (spFs 4 2) 2000 60 (.fn 11) (ptVals 0 [pS 4, bA, dW 2]) (memT (ptObjs [pS 4, bA, dW 2])) 3) = some (.tuple #[.agg #[iP 1, iP 1], iP 0]) := by kernel_rfl
theorem fsS_4_2_1_2 (ok) : fstO (evDS (pgY Y (fG ++ atShY 4 1 2) ok) (spFs 4 2) 2000 60 (.fn 11) (ptVals 0 [pS 4, bA, dW 2]) (memT (ptObjs [pS 4, bA, dW 2])) 3) = some (.tuple #[.agg #[iP 1, iP 2], iP 0]) := by kernel_rfl
theorem fsS_4_2_1_3 (ok) : fstO (evDS (pgY Y (fG ++ atShY 4 1 3) ok) (spFs 4 2) 2000 60 (.fn 11) (ptVals 0 [pS 4, bA, dW 2]) (memT (ptObjs [pS 4, bA, dW 2])) 3) = some (.tuple #[.agg #[iP 1, iP 3], iP 0]) := by kernel_rfl
theorem fsG_4_3 (ok) : fstO (evDS (pgY Y (fG ++ noShY 4 3) ok) (spFs 4 3) 2000 60 (.fn 11) (ptVals 0 [pS 4, bA, dW 3]) (memT (ptObjs [pS 4, bA, dW 3])) 3) = some (.tuple #[.agg #[iP 0, iP 0], iP 12]) := by kernel_rfl
theorem fsS_4_3_0_0 (ok) : fstO (evDS (pgY Y (fG ++ atShY 4 0 0) ok) (spFs 4 3) 2000 60 (.fn 11) (ptVals 0 [pS 4, bA, dW 3]) (memT (ptObjs [pS 4, bA, dW 3])) 3) = some (.tuple #[.agg #[iP 0, iP 0], iP 0]) := by kernel_rfl
theorem fsS_4_3_0_1 (ok) : fstO (evDS (pgY Y (fG ++ atShY 4 0 1) ok) (spFs 4 3) 2000 60 (.fn 11) (ptVals 0 [pS 4, bA, dW 3]) (memT (ptObjs [pS 4, bA, dW 3])) 3) = some (.tuple #[.agg #[iP 0, iP 1], iP 0]) := by kernel_rfl
theorem fsS_4_3_0_2 (ok) : fstO (evDS (pgY Y (fG ++ atShY 4 0 2) ok) (spFs 4 3) 2000 60 (.fn 11) (ptVals 0 [pS 4, bA, dW 3]) (memT (ptObjs [pS 4, bA, dW 3])) 3) = some (.tuple #[.agg #[iP 0, iP 2], iP 0]) := by kernel_rfl
theorem fsS_4_3_0_3 (ok) : fstO (evDS (pgY Y (fG ++ atShY 4 0 3) ok) (spFs 4 3) 2000 60 (.fn 11) (ptVals 0 [pS 4, bA, dW 3]) (memT (ptObjs [pS 4, bA, dW 3])) 3) = some (.tuple #[.agg #[iP 0, iP 3], iP 0]) := by kernel_rfl
theorem fsS_4_3_1_0 (ok) : fstO (evDS (pgY Y (fG ++ atShY 4 1 0) ok) (spFs 4 3) 2000 60 (.fn 11) (ptVals 0 [pS 4, bA, dW 3]) (memT (ptObjs [pS 4, bA, dW 3])) 3) = some (.tuple #[.agg #[iP 1, iP 0], iP 0]) := by kernel_rfl
theorem fsS_4_3_1_1 (ok) : fstO (evDS (pgY Y (fG ++ atShY 4 1 1) ok) (spFs 4 3) 2000 60 (.fn 11) (ptVals 0 [pS 4, bA, dW 3]) (memT (ptObjs [pS 4, bA, dW 3])) 3) = some (.tuple #[.agg #[iP 1, iP 1], iP 0]) := by kernel_rfl
theorem fsS_4_3_1_2 (ok) : fstO (evDS (pgY Y (fG ++ atShY 4 1 2) ok) (spFs 4 3) 2000 60 (.fn 11) (ptVals 0 [pS 4, bA, dW 3]) (memT (ptObjs [pS 4, bA, dW 3])) 3) = some (.tuple #[.agg #[iP 1, iP 2], iP 0]) := by kernel_rfl
theorem fsS_4_3_1_3 (ok) : fstO (evDS (pgY Y (fG ++ atShY 4 1 3) ok) (spFs 4 3) 2000 60 (.fn 11) (ptVals 0 [pS 4, bA, dW 3]) (memT (ptObjs [pS 4, bA, dW 3])) 3) = some (.tuple #[.agg #[iP 1, iP 3], iP 0]) := by kernel_rfl
theorem fsS_4_3_2_0 (ok) : fstO (evDS (pgY Y (fG ++ atShY 4 2 0) ok) (spFs 4 3) 2000 60 (.fn 11) (ptVals 0 [pS 4, bA, dW 3]) (memT (ptObjs [pS 4, bA, dW 3])) 3) = some (.tuple #[.agg #[iP 2, iP 0], iP 0]) := by kernel_rfl
theorem fsS_4_3_2_1 (ok) : fstO (evDS (pgY Y (fG ++ atShY 4 2 1) ok) (spFs 4 3) 2000 60 (.fn 11) (ptVals 0 [pS 4, bA, dW 3]) (memT (ptObjs [pS 4, bA, dW 3])) 3) = some (.tuple #[.agg #[iP 2, iP 1], iP 0]) := by kernel_rfl
theorem fsS_4_3_2_2 (ok) : fstO (evDS (pgY Y (fG ++ atShY 4 2 2) ok) (spFs 4 3) 2000 60 (.fn 11) (ptVals 0 [pS 4, bA, dW 3]) (memT (ptObjs [pS 4, bA, dW 3])) 3) = some (.tuple #[.agg #[iP 2, iP 2], iP 0]) := by kernel_rfl
theorem fsS_4_3_2_3 (ok) : fstO (evDS (pgY Y (fG ++ atShY 4 2 3) ok) (spFs 4 3) 2000 60 (.fn 11) (ptVals 0 [pS 4, bA, dW 3]) (memT (ptObjs [pS 4, bA, dW 3])) 3) = some (.tuple #[.agg #[iP 2, iP 3], iP 0]) := by kernel_rfl
theorem fsG_4_4 (ok) : fstO (evDS (pgY Y (fG ++ noShY 4 4) ok) (spFs 4 4) 2000 60 (.fn 11) (ptVals 0 [pS 4, bA, dW 4]) (memT (ptObjs [pS 4, bA, dW 4])) 3) = some (.tuple #[.agg #[iP 0, iP 0], iP 12]) := by kernel_rfl
theorem fsS_4_4_0_0 (ok) : fstO (evDS (pgY Y (fG ++ atShY 4 0 0) ok) (spFs 4 4) 2000 60 (.fn 11) (ptVals 0 [pS 4, bA, dW 4]) (memT (ptObjs [pS 4, bA, dW 4])) 3) = some (.tuple #[.agg #[iP 0, iP 0], iP 0]) := by kernel_rfl
theorem fsS_4_4_0_1 (ok) : fstO (evDS (pgY Y (fG ++ atShY 4 0 1) ok) (spFs 4 4) 2000 60 (.fn 11) (ptVals 0 [pS 4, bA, dW 4]) (memT (ptObjs [pS 4, bA, dW 4])) 3) = some (.tuple #[.agg #[iP 0, iP 1], iP 0]) := by kernel_rfl
theorem fsS_4_4_0_2 (ok) : fstO (evDS (pgY Y (fG ++ atShY 4 0 2) ok) (spFs 4 4) 2000 60 (.fn 11) (ptVals 0 [pS 4, bA, dW 4]) (memT (ptObjs [pS 4, bA, dW 4])) 3) = some (.tuple #[.agg #[iP 0, iP 2], iP 0]) := by kernel_rfl
theorem fsS_4_4_0_3 (ok) : fstO (evDS (pgY Y (fG ++ atShY 4 0 3) ok) (spFs 4 4) 2000 60 (.fn 11) (ptVals 0 [pS 4, bA, dW 4]) (memT (ptObjs [pS 4, bA, dW 4])) 3) = some (.tuple #[.agg #[iP 0, iP 3], iP 0]) := by kernel_rfl
theorem fsS_4_4_1_0 (ok) : fstO (evDS (pgY Y (fG ++ atShY 4 1 0) ok) (spFs 4 4) 2000 60 (.fn 11) (ptVals 0 [pS 4, bA, dW 4]) (memT (ptObjs [pS 4, bA, dW 4])) 3) = some (.tuple #[.agg #[iP 1, iP 0], iP 0]) := by kernel_rfl
theorem fsS_4_4_1_1 (ok) : fstO (evDS (pgY Y (fG ++ atShY 4 1 1) ok) (spFs 4 4) 2000 60 (.fn 11) (ptVals 0 [pS 4, bA, dW 4]) (memT (ptObjs [pS 4, bA, dW 4])) 3) = some (.tuple #[.agg #[iP 1, iP 1], iP 0]) := by kernel_rfl
theorem fsS_4_4_1_2 (ok) : fstO (evDS (pgY Y (fG ++ atShY 4 1 2) ok) (spFs 4 4) 2000 60 (.fn 11) (ptVals 0 [pS 4, bA, dW 4]) (memT (ptObjs [pS 4, bA, dW 4])) 3) = some (.tuple #[.agg #[iP 1, iP 2], iP 0]) := by kernel_rfl
theorem fsS_4_4_1_3 (ok) : fstO (evDS (pgY Y (fG ++ atShY 4 1 3) ok) (spFs 4 4) 2000 60 (.fn 11) (ptVals 0 [pS 4, bA, dW 4]) (memT (ptObjs [pS 4, bA, dW 4])) 3) = some (.tuple #[.agg #[iP 1, iP 3], iP 0]) := by kernel_rfl
theorem fsS_4_4_2_0 (ok) : fstO (evDS (pgY Y (fG ++ atShY 4 2 0) ok) (spFs 4 4) 2000 60 (.fn 11) (ptVals 0 [pS 4, bA, dW 4]) (memT (ptObjs [pS 4, bA, dW 4])) 3) = some (.tuple #[.agg #[iP 2, iP 0], iP 0]) := by kernel_rfl
theorem fsS_4_4_2_1 (ok) : fstO (evDS (pgY Y (fG ++ atShY 4 2 1) ok) (spFs 4 4) 2000 60 (.fn 11) (ptVals 0 [pS 4, bA, dW 4]) (memT (ptObjs [pS 4, bA, dW 4])) 3) = some (.tuple #[.agg #[iP 2, iP 1], iP 0]) := by kernel_rfl
theorem fsS_4_4_2_2 (ok) : fstO (evDS (pgY Y (fG ++ atShY 4 2 2) ok) (spFs 4 4) 2000 60 (.fn 11) (ptVals 0 [pS 4, bA, dW 4]) (memT (ptObjs [pS 4, bA, dW 4])) 3) = some (.tuple #[.agg #[iP 2, iP 2], iP 0]) := by kernel_rfl
theorem fsS_4_4_2_3 (ok) : fstO (evDS (pgY Y (fG ++ atShY 4 2 3) ok) (spFs 4 4) 2000 60 (.fn 11) (ptVals 0 [pS 4, bA, dW 4]) (memT (ptObjs [pS 4, bA, dW 4])) 3) = some (.tuple #[.agg #[iP 2, iP 3], iP 0]) := by kernel_rfl
theorem fsS_4_4_3_0 (ok) : fstO (evDS (pgY Y (fG ++ atShY 4 3 0) ok) (spFs 4 4) 2000 60 (.fn 11) (ptVals 0 [pS 4, bA, dW 4]) (memT (ptObjs [pS 4, bA, dW 4])) 3) = some (.tuple #[.agg #[iP 3, iP 0], iP 0]) := by kernel_rfl
theorem fsS_4_4_3_1 (ok) : fstO (evDS (pgY Y (fG ++ atShY 4 3 1) ok) (spFs 4 4) 2000 60 (.fn 11) (ptVals 0 [pS 4, bA, dW 4]) (memT (ptObjs [pS 4, bA, dW 4])) 3) = some (.tuple #[.agg #[iP 3, iP 1], iP 0]) := by kernel_rfl
theorem fsS_4_4_3_2 (ok) : fstO (evDS (pgY Y (fG ++ atShY 4 3 2) ok) (spFs 4 4) 2000 60 (.fn 11) (ptVals 0 [pS 4, bA, dW 4]) (memT (ptObjs [pS 4, bA, dW 4])) 3) = some (.tuple #[.agg #[iP 3, iP 2], iP 0]) := by kernel_rfl
theorem fsS_4_4_3_3 (ok) : fstO (evDS (pgY Y (fG ++ atShY 4 3 3) ok) (spFs 4 4) 2000 60 (.fn 11) (ptVals 0 [pS 4, bA, dW 4]) (memT (ptObjs [pS 4, bA, dW 4])) 3) = some (.tuple #[.agg #[iP 3, iP 3], iP 0]) := by kernel_rfl
theorem fsG_4_5 (ok) : fstO (evDS (pgY Y (fG ++ noShY 4 5) ok) (spFs 4 5) 2000 60 (.fn 11) (ptVals 0 [pS 4, bA, dW 5]) (memT (ptObjs [pS 4, bA, dW 5])) 3) = some (.tuple #[.agg #[iP 0, iP 0], iP 12]) := by kernel_rfl
theorem fsS_4_5_0_0 (ok) : fstO (evDS (pgY Y (fG ++ atShY 4 0 0) ok) (spFs 4 5) 2000 60 (.fn 11) (ptVals 0 [pS 4, bA, dW 5]) (memT (ptObjs [pS 4, bA, dW 5])) 3) = some (.tuple #[.agg #[iP 0, iP 0], iP 0]) := by kernel_rfl
theorem fsS_4_5_0_1 (ok) : fstO (evDS (pgY Y (fG ++ atShY 4 0 1) ok) (spFs 4 5) 2000 60 (.fn 11) (ptVals 0 [pS 4, bA, dW 5]) (memT (ptObjs [pS 4, bA, dW 5])) 3) = some (.tuple #[.agg #[iP 0, iP 1], iP 0]) := by kernel_rfl
theorem fsS_4_5_0_2 (ok) : fstO (evDS (pgY Y (fG ++ atShY 4 0 2) ok) (spFs 4 5) 2000 60 (.fn 11) (ptVals 0 [pS 4, bA, dW 5]) (memT (ptObjs [pS 4, bA, dW 5])) 3) = some (.tuple #[.agg #[iP 0, iP 2], iP 0]) := by kernel_rfl
theorem fsS_4_5_0_3 (ok) : fstO (evDS (pgY Y (fG ++ atShY 4 0 3) ok) (spFs 4 5) 2000 60 (.fn 11) (ptVals 0 [pS 4, bA, dW 5]) (memT (ptObjs [pS 4, bA, dW 5])) 3) = some (.tuple #[.agg #[iP 0, iP 3], iP 0]) := by kernel_rfl
theorem fsS_4_5_1_0 (ok) : fstO (evDS (pgY Y (fG ++ atShY 4 1 0) ok) (spFs 4 5) 2000 60 (.fn 11) (ptVals 0 [pS 4, bA, dW 5]) (memT (ptObjs [pS 4, bA, dW 5])) 3) = some (.tuple #[.agg #[iP 1, iP 0], iP 0]) := by kernel_rfl
theorem fsS_4_5_1_1 (ok) : fstO (evDS (pgY Y (fG ++ atShY 4 1 1) ok) (spFs 4 5) 2000 60 (.fn 11) (ptVals 0 [pS 4, bA, dW 5]) (memT (ptObjs [pS 4, bA, dW 5])) 3) = some (.tuple #[.agg #[iP 1, iP 1], iP 0]) := by kernel_rfl
theorem fsS_4_5_1_2 (ok) : fstO (evDS (pgY Y (fG ++ atShY 4 1 2) ok) (spFs 4 5) 2000 60 (.fn 11) (ptVals 0 [pS 4, bA, dW 5]) (memT (ptObjs [pS 4, bA, dW 5])) 3) = some (.tuple #[.agg #[iP 1, iP 2], iP 0]) := by kernel_rfl
theorem fsS_4_5_1_3 (ok) : fstO (evDS (pgY Y (fG ++ atShY 4 1 3) ok) (spFs 4 5) 2000 60 (.fn 11) (ptVals 0 [pS 4, bA, dW 5]) (memT (ptObjs [pS 4, bA, dW 5])) 3) = some (.tuple #[.agg #[iP 1, iP 3], iP 0]) := by kernel_rfl
theorem fsS_4_5_2_0 (ok) : fstO (evDS (pgY Y (fG ++ atShY 4 2 0) ok) (spFs 4 5) 2000 60 (.fn 11) (ptVals 0 [pS 4, bA, dW 5]) (memT (ptObjs [pS 4, bA, dW 5])) 3) = some (.tuple #[.agg #[iP 2, iP 0], iP 0]) := by kernel_rfl
theorem fsS_4_5_2_1 (ok) : fstO (evDS (pgY Y (fG ++ atShY 4 2 1) ok) (spFs 4 5) 2000 60 (.fn 11) (ptVals 0 [pS 4, bA, dW 5]) (memT (ptObjs [pS 4, bA, dW 5])) 3) = some (.tuple #[.agg #[iP 2, iP 1], iP 0]) := by kernel_rfl
theorem fsS_4_5_2_2 (ok) : fstO (evDS (pgY Y (fG ++ atShY 4 2 2) ok) (spFs 4 5) 2000 60 (.fn 11) (ptVals 0 [pS 4, bA, dW 5]) (memT (ptObjs [pS 4, bA, dW 5])) 3) = some (.tuple #[.agg #[iP 2, iP 2], iP 0]) := by kernel_rfl
theorem fsS_4_5_2_3 (ok) : fstO (evDS (pgY Y (fG ++ atShY 4 2 3) ok) (spFs 4 5) 2000 60 (.fn 11) (ptVals 0 [pS 4, bA, dW 5]) (memT (ptObjs [pS 4, bA, dW 5])) 3) = some (.tuple #[.agg #[iP 2, iP 3], iP 0]) := by kernel_rfl
theorem fsS_4_5_3_0 (ok) : fstO (evDS (pgY Y (fG ++ atShY 4 3 0) ok) (spFs 4 5) 2000 60 (.fn 11) (ptVals 0 [pS 4, bA, dW 5]) (memT (ptObjs [pS 4, bA, dW 5])) 3) = some (.tuple #[.agg #[iP 3, iP 0], iP 0]) := by kernel_rfl
theorem fsS_4_5_3_1 (ok) : fstO (evDS (pgY Y (fG ++ atShY 4 3 1) ok) (spFs 4 5) 2000 60 (.fn 11) (ptVals 0 [pS 4, bA, dW 5]) (memT (ptObjs [pS 4, bA, dW 5])) 3) = some (.tuple #[.agg #[iP 3, iP 1], iP 0]) := by kernel_rfl
theorem fsS_4_5_3_2 (ok) : fstO (evDS (pgY Y (fG ++ atShY 4 3 2) ok) (spFs 4 5) 2000 60 (.fn 11) (ptVals 0 [pS 4, bA, dW 5]) (memT (ptObjs [pS 4, bA, dW 5])) 3) = some (.tuple #[.agg #[iP 3, iP 2], iP 0]) := by kernel_rfl
theorem fsS_4_5_3_3 (ok) : fstO (evDS (pgY Y (fG ++ atShY 4 3 3) ok) (spFs 4 5) 2000 60 (.fn 11) (ptVals 0 [pS 4, bA, dW 5]) (memT (ptObjs [pS 4, bA, dW 5])) 3) = some (.tuple #[.agg #[iP 3, iP 3], iP 0]) := by kernel_rfl
theorem fsS_4_5_4_0 (ok) : fstO (evDS (pgY Y (fG ++ atShY 4 4 0) ok) (spFs 4 5) 2000 60 (.fn 11) (ptVals 0 [pS 4, bA, dW 5]) (memT (ptObjs [pS 4, bA, dW 5])) 3) = some (.tuple #[.agg #[iP 4, iP 0], iP 0]) := by kernel_rfl
theorem fsS_4_5_4_1 (ok) : fstO (evDS (pgY Y (fG ++ atShY 4 4 1) ok) (spFs 4 5) 2000 60 (.fn 11) (ptVals 0 [pS 4, bA, dW 5]) (memT (ptObjs [pS 4, bA, dW 5])) 3) = some (.tuple #[.agg #[iP 4, iP 1], iP 0]) := by kernel_rfl
theorem fsS_4_5_4_2 (ok) : fstO (evDS (pgY Y (fG ++ atShY 4 4 2) ok) (spFs 4 5) 2000 60 (.fn 11) (ptVals 0 [pS 4, bA, dW 5]) (memT (ptObjs [pS 4, bA, dW 5])) 3) = some (.tuple #[.agg #[iP 4, iP 2], iP 0]) := by kernel_rfl
theorem fsS_4_5_4_3 (ok) : fstO (evDS (pgY Y (fG ++ atShY 4 4 3) ok) (spFs 4 5) 2000 60 (.fn 11) (ptVals 0 [pS 4, bA, dW 5]) (memT (ptObjs [pS 4, bA, dW 5])) 3) = some (.tuple #[.agg #[iP 4, iP 3], iP 0]) := by kernel_rfl
theorem fsG_4_6 (ok) : fstO (evDS (pgY Y (fG ++ noShY 4 6) ok) (spFs 4 6) 2000 60 (.fn 11) (ptVals 0 [pS 4, bA, dW 6]) (memT (ptObjs [pS 4, bA, dW 6])) 3) = some (.tuple #[.agg #[iP 0, iP 0], iP 12]) := by kernel_rfl
theorem fsS_4_6_0_0 (ok) : fstO (evDS (pgY Y (fG ++ atShY 4 0 0) ok) (spFs 4 6) 2000 60 (.fn 11) (ptVals 0 [pS 4, bA, dW 6]) (memT (ptObjs [pS 4, bA, dW 6])) 3) = some (.tuple #[.agg #[iP 0, iP 0], iP 0]) := by kernel_rfl
theorem fsS_4_6_0_1 (ok) : fstO (evDS (pgY Y (fG ++ atShY 4 0 1) ok) (spFs 4 6) 2000 60 (.fn 11) (ptVals 0 [pS 4, bA, dW 6]) (memT (ptObjs [pS 4, bA, dW 6])) 3) = some (.tuple #[.agg #[iP 0, iP 1], iP 0]) := by kernel_rfl
theorem fsS_4_6_0_2 (ok) : fstO (evDS (pgY Y (fG ++ atShY 4 0 2) ok) (spFs 4 6) 2000 60 (.fn 11) (ptVals 0 [pS 4, bA, dW 6]) (memT (ptObjs [pS 4, bA, dW 6])) 3) = some (.tuple #[.agg #[iP 0, iP 2], iP 0]) := by kernel_rfl
theorem fsS_4_6_0_3 (ok) : fstO (evDS (pgY Y (fG ++ atShY 4 0 3) ok) (spFs 4 6) 2000 60 (.fn 11) (ptVals 0 [pS 4, bA, dW 6]) (memT (ptObjs [pS 4, bA, dW 6])) 3) = some (.tuple #[.agg #[iP 0, iP 3], iP 0]) := by kernel_rfl
theorem fsS_4_6_1_0 (ok) : fstO (evDS (pgY Y (fG ++ atShY 4 1 0) ok) (spFs 4 6) 2000 60 (.fn 11) (ptVals 0 [pS 4, bA, dW 6]) (memT (ptObjs [pS 4, bA, dW 6])) 3) = some (.tuple #[.agg #[iP 1, iP 0], iP 0]) := by kernel_rfl
theorem fsS_4_6_1_1 (ok) : fstO (evDS (pgY Y (fG ++ atShY 4 1 1) ok) (spFs 4 6) 2000 60 (.fn 11) (ptVals 0 [pS 4, bA, dW 6]) (memT (ptObjs [pS 4, bA, dW 6])) 3) = some (.tuple #[.agg #[iP 1, iP 1], iP 0]) := by kernel_rfl
theorem fsS_4_6_1_2 (ok) : fstO (evDS (pgY Y (fG ++ atShY 4 1 2) ok) (spFs 4 6) 2000 60 (.fn 11) (ptVals 0 [pS 4, bA, dW 6]) (memT (ptObjs [pS 4, bA, dW 6])) 3) = some (.tuple #[.agg #[iP 1, iP 2], iP 0]) := by kernel_rfl
theorem fsS_4_6_1_3 (ok) : fstO (evDS (pgY Y (fG ++ atShY 4 1 3) ok) (spFs 4 6) 2000 60 (.fn 11) (ptVals 0 [pS 4, bA, dW 6]) (memT (ptObjs [pS 4, bA, dW 6])) 3) = some (.tuple #[.agg #[iP 1, iP 3], iP 0]) := by kernel_rfl
theorem fsS_4_6_2_0 (ok) : fstO (evDS (pgY Y (fG ++ atShY 4 2 0) ok) (spFs 4 6) 2000 60 (.fn 11) (ptVals 0 [pS 4, bA, dW 6]) (memT (ptObjs [pS 4, bA, dW 6])) 3) = some (.tuple #[.agg #[iP 2, iP 0], iP 0]) := by kernel_rfl
theorem fsS_4_6_2_1 (ok) : fstO (evDS (pgY Y (fG ++ atShY 4 2 1) ok) (spFs 4 6) 2000 60 (.fn 11) (ptVals 0 [pS 4, bA, dW 6]) (memT (ptObjs [pS 4, bA, dW 6])) 3) = some (.tuple #[.agg #[iP 2, iP 1], iP 0]) := by kernel_rfl
theorem fsS_4_6_2_2 (ok) : fstO (evDS (pgY Y (fG ++ atShY 4 2 2) ok) (spFs 4 6) 2000 60 (.fn 11) (ptVals 0 [pS 4, bA, dW 6]) (memT (ptObjs [pS 4, bA, dW 6])) 3) = some (.tuple #[.agg #[iP 2, iP 2], iP 0]) := by kernel_rfl
theorem fsS_4_6_2_3 (ok) : fstO (evDS (pgY Y (fG ++ atShY 4 2 3) ok) (spFs 4 6) 2000 60 (.fn 11) (ptVals 0 [pS 4, bA, dW 6]) (memT (ptObjs [pS 4, bA, dW 6])) 3) = some (.tuple #[.agg #[iP 2, iP 3], iP 0]) := by kernel_rfl
theorem fsS_4_6_3_0 (ok) : fstO (evDS (pgY Y (fG ++ atShY 4 3 0) ok) (spFs 4 6) 2000 60 (.fn 11) (ptVals 0 [pS 4, bA, dW 6]) (memT (ptObjs [pS 4, bA, dW 6])) 3) = some (.tuple #[.agg #[iP 3, iP 0], iP 0]) := by kernel_rfl
theorem fsS_4_6_3_1 (ok) : fstO (evDS (pgY Y (fG ++ atShY 4 3 1) ok) (spFs 4 6) 2000 60 (.fn 11) (ptVals 0 [pS 4, bA, dW 6]) (memT (ptObjs [pS 4, bA, dW 6])) 3) = some (.tuple #[.agg #[iP 3, iP 1], iP 0]) := by kernel_rfl
theorem fsS_4_6_3_2 (ok) : fstO (evDS (pgY Y (fG ++ atShY 4 3 2) ok) (spFs 4 6) 2000 60 (.fn 11) (ptVals 0 [pS 4, bA, dW 6]) (memT (ptObjs [pS 4, bA, dW 6])) 3) = some (.tuple #[.agg #[iP 3, iP 2], iP 0]) := by kernel_rfl
theorem fsS_4_6_3_3 (ok) : fstO (evDS (pgY Y (fG ++ atShY 4 3 3) ok) (spFs 4 6) 2000 60 (.fn 11) (ptVals 0 [pS 4, bA, dW 6]) (memT (ptObjs [pS 4, bA, dW 6])) 3) = some (.tuple #[.agg #[iP 3, iP 3], iP 0]) := by kernel_rfl
theorem fsS_4_6_4_0 (ok) : fstO (evDS (pgY Y (fG ++ atShY 4 4 0) ok) (spFs 4 6) 2000 60 (.fn 11) (ptVals 0 [pS 4, bA, dW 6]) (memT (ptObjs [pS 4, bA, dW 6])) 3) = some (.tuple #[.agg #[iP 4, iP 0], iP 0]) := by kernel_rfl
theorem fsS_4_6_4_1 (ok) : fstO (evDS (pgY Y (fG ++ atShY 4 4 1) ok) (spFs 4 6) 2000 60 (.fn 11) (ptVals 0 [pS 4, bA, dW 6]) (memT (ptObjs [pS 4, bA, dW 6])) 3) = some (.tuple #[.agg #[iP 4, iP 1], iP 0]) := by kernel_rfl
theorem fsS_4_6_4_2 (ok) : fstO (evDS (pgY Y (fG ++ atShY 4 4 2) ok) (spFs 4 6) 2000 60 (.fn 11) (ptVals 0 [pS 4, bA, dW 6]) (memT (ptObjs [pS 4, bA, dW 6])) 3) = some (.tuple #[.agg #[iP 4, iP 2], iP 0]) := by kernel_rfl
theorem fsS_4_6_4_3 (ok) : fstO (evDS (pgY Y (fG ++ atShY 4 4 3) ok) (spFs 4 6) 2000 60 (.fn 11) (ptVals 0 [pS 4, bA, dW 6]) (memT (ptObjs [pS 4, bA, dW 6])) 3) = some (.tuple #[.agg #[iP 4, iP 3], iP 0]) := by kernel_rfl
theorem fsS_4_6_5_0 (ok) : fstO (evDS (pgY Y (fG ++ atShY 4 5 0) ok) (spFs 4 6) 2000 60 (.fn 11) (ptVals 0 [pS 4, bA, dW 6]) (memT (ptObjs [pS 4, bA, dW 6])) 3) = some (.tuple #[.agg #[iP 5, iP 0], iP 0]) := by kernel_rfl
theorem fsS_4_6_5_1 (ok) : fstO (evDS (pgY Y (fG ++ atShY 4 5 1) ok) (spFs 4 6) 2000 60 (.fn 11) (ptVals 0 [pS 4, bA, dW 6]) (memT (ptObjs [pS 4, bA, dW 6])) 3) = some (.tuple #[.agg #[iP 5, iP 1], iP 0]) := by kernel_rfl
theorem fsS_4_6_5_2 (ok) : fstO (evDS (pgY Y (fG ++ atShY 4 5 2) ok) (spFs 4 6) 2000 60 (.fn 11) (ptVals 0 [pS 4, bA, dW 6]) (memT (ptObjs [pS 4, bA, dW 6])) 3) = some (.tuple #[.agg #[iP 5, iP 2], iP 0]) := by kernel_rfl
theorem fsS_4_6_5_3 (ok) : fstO (evDS (pgY Y (fG ++ atShY 4 5 3) ok) (spFs 4 6) 2000 60 (.fn 11) (ptVals 0 [pS 4, bA, dW 6]) (memT (ptObjs [pS 4, bA, dW 6])) 3) = some (.tuple #[.agg #[iP 5, iP 3], iP 0]) := by kernel_rfl
end
end Sy
end Go.Proofs.YtdejmleboflopaaGreat
