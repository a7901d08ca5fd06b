/- The law GaugeTables, reckoned with symbols: runs, part 1. -/
import Derived.Test.YtpidgcmdimjkoaaVN
set_option linter.unusedVariables false
set_option linter.unusedSimpArgs false
namespace Go.Proofs.Ytpidgcmdimjkoaa
open Go.RowKit
namespace Sy
open Go.RowKit

section
variable (s : ByteArray) (bung dip : Int) (xs : List Int) (O : Obj → Prop)
theorem tRun4_13_0 (ok) : fstW (evDS (pgT s bung dip xs O (tAll 4 13 0) ok) (spGTT 4 13) 2000 60 (.fn 6) (argsT 4) (hpW 4) 1) = some (.bool true, some (.win (rowV 4))) := by kernel_rfl
theorem tRun4_10_0 (ok) : fstW (evDS (pgT s bung dip xs O (tAll 4 10 0) ok) (spGTT 4 10) 2000 60 (.fn 6) (argsT 4) (hpW 4) 1) = some (.bool true, some (.win (rowV 4))) := by kernel_rfl
theorem tRun3_13_0 (ok) : fstW (evDS (pgT s bung dip xs O (tAll 3 13 0) ok) (spGTT 3 13) 2000 60 (.fn 6) (argsT 3) (hpW 3) 1) = some (.bool true, some (.win (rowV 3))) := by kernel_rfl
theorem tRun3_12_0 (ok) : fstW (evDS (pgT s bung dip xs O (tAll 3 12 0) ok) (spGTT 3 12) 2000 60 (.fn 6) (argsT 3) (hpW 3) 1) = some (.bool true, some (.win (rowV 3))) := by kernel_rfl
theorem tRun4_7_0 (ok) : fstW (evDS (pgT s bung dip xs O (tAll 4 7 0) ok) (spGTT 4 7) 2000 60 (.fn 6) (argsT 4) (hpW 4) 1) = some (.bool true, some (.win (rowV 4))) := by kernel_rfl
theorem tRun3_10_0 (ok) : fstW (evDS (pgT s bung dip xs O (tAll 3 10 0) ok) (spGTT 3 10) 2000 60 (.fn 6) (argsT 3) (hpW 3) 1) = some (.bool true, some (.win (rowV 3))) := by kernel_rfl
theorem tRun3_8_0 (ok) : fstW (evDS (pgT s bung dip xs O (tAll 3 8 0) ok) (spGTT 3 8) 2000 60 (.fn 6) (argsT 3) (hpW 3) 1) = some (.bool true, some (.win (rowV 3))) := by kernel_rfl
theorem tRun2_13_0 (ok) : fstW (evDS (pgT s bung dip xs O (tAll 2 13 0) ok) (spGTT 2 13) 2000 60 (.fn 6) (argsT 2) (hpW 2) 1) = some (.bool true, some (.win (rowV 2))) := by kernel_rfl
theorem tRun2_12_0 (ok) : fstW (evDS (pgT s bung dip xs O (tAll 2 12 0) ok) (spGTT 2 12) 2000 60 (.fn 6) (argsT 2) (hpW 2) 1) = some (.bool true, some (.win (rowV 2))) := by kernel_rfl
theorem tRun2_11_0 (ok) : fstW (evDS (pgT s bung dip xs O (tAll 2 11 0) ok) (spGTT 2 11) 2000 60 (.fn 6) (argsT 2) (hpW 2) 1) = some (.bool true, some (.win (rowV 2))) := by kernel_rfl
theorem tRun3_6_0 (ok) : fstW (evDS (pgT s bung dip xs O (tAll 3 6 0) ok) (spGTT 3 6) 2000 60 (.fn 6) (argsT 3) (hpW 3) 1) = some (.bool true, some (.win (rowV 3))) := by kernel_rfl
theorem tRun2_9_0 (ok) : fstW (evDS (pgT s bung dip xs O (tAll 2 9 0) ok) (spGTT 2 9) 2000 60 (.fn 6) (argsT 2) (hpW 2) 1) = some (.bool true, some (.win (rowV 2))) := by kernel_rfl
theorem tRun4_3_0 (ok) : fstW (evDS (pgT s bung dip xs O (tAll 4 3 0) ok) (spGTT 4 3) 2000 60 (.fn 6) (argsT 4) (hpW 4) 1) = some (.bool true, some (.win (rowV 4))) := by kernel_rfl
theorem tRun2_7_0 (ok) : fstW (evDS (pgT s bung dip xs O (tAll 2 7 0) ok) (spGTT 2 7) 2000 60 (.fn 6) (argsT 2) (hpW 2) 1) = some (.bool true, some (.win (rowV 2))) := by kernel_rfl
theorem tRun2_6_0 (ok) : fstW (evDS (pgT s bung dip xs O (tAll 2 6 0) ok) (spGTT 2 6) 2000 60 (.fn 6) (argsT 2) (hpW 2) 1) = some (.bool true, some (.win (rowV 2))) := by kernel_rfl
theorem tRun3_3_0 (ok) : fstW (evDS (pgT s bung dip xs O (tAll 3 3 0) ok) (spGTT 3 3) 2000 60 (.fn 6) (argsT 3) (hpW 3) 1) = some (.bool true, some (.win (rowV 3))) := by kernel_rfl
theorem tRun3_2_0 (ok) : fstW (evDS (pgT s bung dip xs O (tAll 3 2 0) ok) (spGTT 3 2) 2000 60 (.fn 6) (argsT 3) (hpW 3) 1) = some (.bool true, some (.win (rowV 3))) := by kernel_rfl
theorem tRun2_4_0 (ok) : fstW (evDS (pgT s bung dip xs O (tAll 2 4 0) ok) (spGTT 2 4) 2000 60 (.fn 6) (argsT 2) (hpW 2) 1) = some (.bool true, some (.win (rowV 2))) := by kernel_rfl
theorem tRun4_100_0 (ok) : fstW (evDS (pgT s bung dip xs O (tAll 4 100 0) ok) (spGTT 4 0) 2000 60 (.fn 6) (argsT 4) (hpW 4) 1) = some (.bool true, some (.win (rowV 4))) := by kernel_rfl
theorem tRun2_2_0 (ok) : fstW (evDS (pgT s bung dip xs O (tAll 2 2 0) ok) (spGTT 2 2) 2000 60 (.fn 6) (argsT 2) (hpW 2) 1) = some (.bool true, some (.win (rowV 2))) := by kernel_rfl
theorem tRun3_100_0 (ok) : fstW (evDS (pgT s bung dip xs O (tAll 3 100 0) ok) (spGTT 3 0) 2000 60 (.fn 6) (argsT 3) (hpW 3) 1) = some (.bool true, some (.win (rowV 3))) := by kernel_rfl
theorem tRun2_1_0 (ok) : fstW (evDS (pgT s bung dip xs O (tAll 2 1 0) ok) (spGTT 2 1) 2000 60 (.fn 6) (argsT 2) (hpW 2) 1) = some (.bool true, some (.win (rowV 2))) := by kernel_rfl
theorem tBad1_run (ok) : fstW (evDS (pgT s bung dip xs O (tBad 1) ok) (spGTA 1) 2000 60 (.fn 6) (argsT 1) (hpW 1) 1) = some (.bool true, some (.win (rowV 1))) := by kernel_rfl
theorem tBad4_run (ok) : fstW (evDS (pgT s bung dip xs O (tBad 4) ok) (spGTA 4) 2000 60 (.fn 6) (argsT 4) (hpW 4) 1) = some (.bool true, some (.win (rowV 4))) := by kernel_rfl
end
end Sy
end Go.Proofs.Ytpidgcmdimjkoaa
