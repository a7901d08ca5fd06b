/- The law GaugeTables, reckoned with symbols: runs, part 6. -/
import Derived.Test.YtpidgcmdimjkoaaVN
set_option linter.unusedVariables false
set_option linter.unusedSimpArgs false
namespace Go.Proofs.Ytpidgcmdimjkoaa
open Go.RowKit
namespace Sy
open Go.RowKit

section
variable (s : ByteArray) (bung dip : Int) (xs : List Int) (O : Obj → Prop)
theorem tRun4_12_2 (ok) : fstW (evDS (pgT s bung dip xs O (tAll 4 12 2) ok) (spGT2 4 12) 2000 60 (.fn 6) (argsT 4) (hpW 4) 1) = some (.bool true, some (.win (rowV 4))) := by kernel_rfl
theorem tRun4_11_2 (ok) : fstW (evDS (pgT s bung dip xs O (tAll 4 11 2) ok) (spGT2 4 11) 2000 60 (.fn 6) (argsT 4) (hpW 4) 1) = some (.bool true, some (.win (rowV 4))) := by kernel_rfl
theorem tRun4_9_2 (ok) : fstW (evDS (pgT s bung dip xs O (tAll 4 9 2) ok) (spGT2 4 9) 2000 60 (.fn 6) (argsT 4) (hpW 4) 1) = some (.bool true, some (.win (rowV 4))) := by kernel_rfl
theorem tRun4_8_2 (ok) : fstW (evDS (pgT s bung dip xs O (tAll 4 8 2) ok) (spGT2 4 8) 2000 60 (.fn 6) (argsT 4) (hpW 4) 1) = some (.bool true, some (.win (rowV 4))) := by kernel_rfl
theorem tRun3_11_2 (ok) : fstW (evDS (pgT s bung dip xs O (tAll 3 11 2) ok) (spGT2 3 11) 2000 60 (.fn 6) (argsT 3) (hpW 3) 1) = some (.bool true, some (.win (rowV 3))) := by kernel_rfl
theorem tRun3_9_2 (ok) : fstW (evDS (pgT s bung dip xs O (tAll 3 9 2) ok) (spGT2 3 9) 2000 60 (.fn 6) (argsT 3) (hpW 3) 1) = some (.bool true, some (.win (rowV 3))) := by kernel_rfl
theorem tRun4_6_2 (ok) : fstW (evDS (pgT s bung dip xs O (tAll 4 6 2) ok) (spGT2 4 6) 2000 60 (.fn 6) (argsT 4) (hpW 4) 1) = some (.bool true, some (.win (rowV 4))) := by kernel_rfl
theorem tRun4_5_2 (ok) : fstW (evDS (pgT s bung dip xs O (tAll 4 5 2) ok) (spGT2 4 5) 2000 60 (.fn 6) (argsT 4) (hpW 4) 1) = some (.bool true, some (.win (rowV 4))) := by kernel_rfl
theorem tRun3_7_2 (ok) : fstW (evDS (pgT s bung dip xs O (tAll 3 7 2) ok) (spGT2 3 7) 2000 60 (.fn 6) (argsT 3) (hpW 3) 1) = some (.bool true, some (.win (rowV 3))) := by kernel_rfl
theorem tRun4_4_2 (ok) : fstW (evDS (pgT s bung dip xs O (tAll 4 4 2) ok) (spGT2 4 4) 2000 60 (.fn 6) (argsT 4) (hpW 4) 1) = some (.bool true, some (.win (rowV 4))) := by kernel_rfl
theorem tRun2_10_2 (ok) : fstW (evDS (pgT s bung dip xs O (tAll 2 10 2) ok) (spGT2 2 10) 2000 60 (.fn 6) (argsT 2) (hpW 2) 1) = some (.bool true, some (.win (rowV 2))) := by kernel_rfl
theorem tRun3_5_2 (ok) : fstW (evDS (pgT s bung dip xs O (tAll 3 5 2) ok) (spGT2 3 5) 2000 60 (.fn 6) (argsT 3) (hpW 3) 1) = some (.bool true, some (.win (rowV 3))) := by kernel_rfl
theorem tRun2_8_2 (ok) : fstW (evDS (pgT s bung dip xs O (tAll 2 8 2) ok) (spGT2 2 8) 2000 60 (.fn 6) (argsT 2) (hpW 2) 1) = some (.bool true, some (.win (rowV 2))) := by kernel_rfl
theorem tRun3_4_2 (ok) : fstW (evDS (pgT s bung dip xs O (tAll 3 4 2) ok) (spGT2 3 4) 2000 60 (.fn 6) (argsT 3) (hpW 3) 1) = some (.bool true, some (.win (rowV 3))) := by kernel_rfl
theorem tRun4_2_2 (ok) : fstW (evDS (pgT s bung dip xs O (tAll 4 2 2) ok) (spGT2 4 2) 2000 60 (.fn 6) (argsT 4) (hpW 4) 1) = some (.bool true, some (.win (rowV 4))) := by kernel_rfl
theorem tRun2_5_2 (ok) : fstW (evDS (pgT s bung dip xs O (tAll 2 5 2) ok) (spGT2 2 5) 2000 60 (.fn 6) (argsT 2) (hpW 2) 1) = some (.bool true, some (.win (rowV 2))) := by kernel_rfl
theorem tRun4_1_2 (ok) : fstW (evDS (pgT s bung dip xs O (tAll 4 1 2) ok) (spGT2 4 1) 2000 60 (.fn 6) (argsT 4) (hpW 4) 1) = some (.bool true, some (.win (rowV 4))) := by kernel_rfl
theorem tRun2_3_2 (ok) : fstW (evDS (pgT s bung dip xs O (tAll 2 3 2) ok) (spGT2 2 3) 2000 60 (.fn 6) (argsT 2) (hpW 2) 1) = some (.bool true, some (.win (rowV 2))) := by kernel_rfl
theorem tRun3_1_2 (ok) : fstW (evDS (pgT s bung dip xs O (tAll 3 1 2) ok) (spGT2 3 1) 2000 60 (.fn 6) (argsT 3) (hpW 3) 1) = some (.bool true, some (.win (rowV 3))) := by kernel_rfl
theorem tRun4_101_2 (ok) : fstW (evDS (pgT s bung dip xs O (tAll 4 101 2) ok) (spGT2 4 0) 2000 60 (.fn 6) (argsT 4) (hpW 4) 1) = some (.bool true, some (.win (rowV 4))) := by kernel_rfl
theorem tRun3_101_2 (ok) : fstW (evDS (pgT s bung dip xs O (tAll 3 101 2) ok) (spGT2 3 0) 2000 60 (.fn 6) (argsT 3) (hpW 3) 1) = some (.bool true, some (.win (rowV 3))) := by kernel_rfl
theorem tRun2_100_2 (ok) : fstW (evDS (pgT s bung dip xs O (tAll 2 100 2) ok) (spGT2 2 0) 2000 60 (.fn 6) (argsT 2) (hpW 2) 1) = some (.bool true, some (.win (rowV 2))) := by kernel_rfl
theorem tRun2_101_2 (ok) : fstW (evDS (pgT s bung dip xs O (tAll 2 101 2) ok) (spGT2 2 0) 2000 60 (.fn 6) (argsT 2) (hpW 2) 1) = some (.bool true, some (.win (rowV 2))) := by kernel_rfl
end
end Sy
end Go.Proofs.Ytpidgcmdimjkoaa
