/- The law GaugeTables, reckoned with symbols: runs, part 3. -/
import Derived.Test.YtpidgcmdimjkoaaVN
set_option linter.unusedVariables false
set_option linter.unusedSimpArgs false
namespace Go.Proofs.Ytpidgcmdimjkoaa
open Go.RowKit
namespace Sy
open Go.RowKit

section
variable (s : ByteArray) (bung dip : Int) (xs : List Int) (O : Obj → Prop)
theorem tRun4_13_2 (ok) : fstW (evDS (pgT s bung dip xs O (tAll 4 13 2) ok) (spGT2 4 13) 2000 60 (.fn 6) (argsT 4) (hpW 4) 1) = some (.bool true, some (.win (rowV 4))) := by kernel_rfl
theorem tRun4_10_2 (ok) : fstW (evDS (pgT s bung dip xs O (tAll 4 10 2) ok) (spGT2 4 10) 2000 60 (.fn 6) (argsT 4) (hpW 4) 1) = some (.bool true, some (.win (rowV 4))) := by kernel_rfl
theorem tRun3_13_2 (ok) : fstW (evDS (pgT s bung dip xs O (tAll 3 13 2) ok) (spGT2 3 13) 2000 60 (.fn 6) (argsT 3) (hpW 3) 1) = some (.bool true, some (.win (rowV 3))) := by kernel_rfl
theorem tRun3_12_2 (ok) : fstW (evDS (pgT s bung dip xs O (tAll 3 12 2) ok) (spGT2 3 12) 2000 60 (.fn 6) (argsT 3) (hpW 3) 1) = some (.bool true, some (.win (rowV 3))) := by kernel_rfl
theorem tRun4_7_2 (ok) : fstW (evDS (pgT s bung dip xs O (tAll 4 7 2) ok) (spGT2 4 7) 2000 60 (.fn 6) (argsT 4) (hpW 4) 1) = some (.bool true, some (.win (rowV 4))) := by kernel_rfl
theorem tRun3_10_2 (ok) : fstW (evDS (pgT s bung dip xs O (tAll 3 10 2) ok) (spGT2 3 10) 2000 60 (.fn 6) (argsT 3) (hpW 3) 1) = some (.bool true, some (.win (rowV 3))) := by kernel_rfl
theorem tRun3_8_2 (ok) : fstW (evDS (pgT s bung dip xs O (tAll 3 8 2) ok) (spGT2 3 8) 2000 60 (.fn 6) (argsT 3) (hpW 3) 1) = some (.bool true, some (.win (rowV 3))) := by kernel_rfl
theorem tRun2_13_2 (ok) : fstW (evDS (pgT s bung dip xs O (tAll 2 13 2) ok) (spGT2 2 13) 2000 60 (.fn 6) (argsT 2) (hpW 2) 1) = some (.bool true, some (.win (rowV 2))) := by kernel_rfl
theorem tRun2_12_2 (ok) : fstW (evDS (pgT s bung dip xs O (tAll 2 12 2) ok) (spGT2 2 12) 2000 60 (.fn 6) (argsT 2) (hpW 2) 1) = some (.bool true, some (.win (rowV 2))) := by kernel_rfl
theorem tRun2_11_2 (ok) : fstW (evDS (pgT s bung dip xs O (tAll 2 11 2) ok) (spGT2 2 11) 2000 60 (.fn 6) (argsT 2) (hpW 2) 1) = some (.bool true, some (.win (rowV 2))) := by kernel_rfl
theorem tRun3_6_2 (ok) : fstW (evDS (pgT s bung dip xs O (tAll 3 6 2) ok) (spGT2 3 6) 2000 60 (.fn 6) (argsT 3) (hpW 3) 1) = some (.bool true, some (.win (rowV 3))) := by kernel_rfl
theorem tRun2_9_2 (ok) : fstW (evDS (pgT s bung dip xs O (tAll 2 9 2) ok) (spGT2 2 9) 2000 60 (.fn 6) (argsT 2) (hpW 2) 1) = some (.bool true, some (.win (rowV 2))) := by kernel_rfl
theorem tRun4_3_2 (ok) : fstW (evDS (pgT s bung dip xs O (tAll 4 3 2) ok) (spGT2 4 3) 2000 60 (.fn 6) (argsT 4) (hpW 4) 1) = some (.bool true, some (.win (rowV 4))) := by kernel_rfl
theorem tRun2_7_2 (ok) : fstW (evDS (pgT s bung dip xs O (tAll 2 7 2) ok) (spGT2 2 7) 2000 60 (.fn 6) (argsT 2) (hpW 2) 1) = some (.bool true, some (.win (rowV 2))) := by kernel_rfl
theorem tRun2_6_2 (ok) : fstW (evDS (pgT s bung dip xs O (tAll 2 6 2) ok) (spGT2 2 6) 2000 60 (.fn 6) (argsT 2) (hpW 2) 1) = some (.bool true, some (.win (rowV 2))) := by kernel_rfl
theorem tRun3_3_2 (ok) : fstW (evDS (pgT s bung dip xs O (tAll 3 3 2) ok) (spGT2 3 3) 2000 60 (.fn 6) (argsT 3) (hpW 3) 1) = some (.bool true, some (.win (rowV 3))) := by kernel_rfl
theorem tRun3_2_2 (ok) : fstW (evDS (pgT s bung dip xs O (tAll 3 2 2) ok) (spGT2 3 2) 2000 60 (.fn 6) (argsT 3) (hpW 3) 1) = some (.bool true, some (.win (rowV 3))) := by kernel_rfl
theorem tRun2_4_2 (ok) : fstW (evDS (pgT s bung dip xs O (tAll 2 4 2) ok) (spGT2 2 4) 2000 60 (.fn 6) (argsT 2) (hpW 2) 1) = some (.bool true, some (.win (rowV 2))) := by kernel_rfl
theorem tRun4_100_2 (ok) : fstW (evDS (pgT s bung dip xs O (tAll 4 100 2) ok) (spGT2 4 0) 2000 60 (.fn 6) (argsT 4) (hpW 4) 1) = some (.bool true, some (.win (rowV 4))) := by kernel_rfl
theorem tRun2_2_2 (ok) : fstW (evDS (pgT s bung dip xs O (tAll 2 2 2) ok) (spGT2 2 2) 2000 60 (.fn 6) (argsT 2) (hpW 2) 1) = some (.bool true, some (.win (rowV 2))) := by kernel_rfl
theorem tRun3_100_2 (ok) : fstW (evDS (pgT s bung dip xs O (tAll 3 100 2) ok) (spGT2 3 0) 2000 60 (.fn 6) (argsT 3) (hpW 3) 1) = some (.bool true, some (.win (rowV 3))) := by kernel_rfl
theorem tRun2_1_2 (ok) : fstW (evDS (pgT s bung dip xs O (tAll 2 1 2) ok) (spGT2 2 1) 2000 60 (.fn 6) (argsT 2) (hpW 2) 1) = some (.bool true, some (.win (rowV 2))) := by kernel_rfl
theorem tBad3_run (ok) : fstW (evDS (pgT s bung dip xs O (tBad 3) ok) (spGTA 3) 2000 60 (.fn 6) (argsT 3) (hpW 3) 1) = some (.bool true, some (.win (rowV 3))) := by kernel_rfl
theorem tBad14_run (ok) : fstW (evDS (pgT s bung dip xs O (tBad 14) ok) (spGTA 14) 2000 60 (.fn 6) (argsT 14) (hpW 14) 1) = some (.bool true, some (.win (rowV 14))) := by kernel_rfl
end
end Sy
end Go.Proofs.Ytpidgcmdimjkoaa
