/- The law GaugeTables, reckoned with symbols: runs, part 2. -/
import Derived.Test.YtpidgcmdimjkoaaVN
set_option linter.unusedVariables false
set_option linter.unusedSimpArgs false
namespace Go.Proofs.Ytpidgcmdimjkoaa
open Go.RowKit
namespace Sy
open Go.RowKit

section
variable (s : ByteArray) (bung dip : Int) (xs : List Int) (O : Obj → Prop)
theorem tRun4_13_1 (ok) : fstW (evDS (pgT s bung dip xs O (tAll 4 13 1) ok) (spGTT 4 13) 2000 60 (.fn 6) (argsT 4) (hpW 4) 1) = some (.bool true, some (.win (rowV 4))) := by kernel_rfl
theorem tRun4_10_1 (ok) : fstW (evDS (pgT s bung dip xs O (tAll 4 10 1) ok) (spGTT 4 10) 2000 60 (.fn 6) (argsT 4) (hpW 4) 1) = some (.bool true, some (.win (rowV 4))) := by kernel_rfl
theorem tRun3_13_1 (ok) : fstW (evDS (pgT s bung dip xs O (tAll 3 13 1) ok) (spGTT 3 13) 2000 60 (.fn 6) (argsT 3) (hpW 3) 1) = some (.bool true, some (.win (rowV 3))) := by kernel_rfl
theorem tRun3_12_1 (ok) : fstW (evDS (pgT s bung dip xs O (tAll 3 12 1) ok) (spGTT 3 12) 2000 60 (.fn 6) (argsT 3) (hpW 3) 1) = some (.bool true, some (.win (rowV 3))) := by kernel_rfl
theorem tRun4_7_1 (ok) : fstW (evDS (pgT s bung dip xs O (tAll 4 7 1) ok) (spGTT 4 7) 2000 60 (.fn 6) (argsT 4) (hpW 4) 1) = some (.bool true, some (.win (rowV 4))) := by kernel_rfl
theorem tRun3_10_1 (ok) : fstW (evDS (pgT s bung dip xs O (tAll 3 10 1) ok) (spGTT 3 10) 2000 60 (.fn 6) (argsT 3) (hpW 3) 1) = some (.bool true, some (.win (rowV 3))) := by kernel_rfl
theorem tRun3_8_1 (ok) : fstW (evDS (pgT s bung dip xs O (tAll 3 8 1) ok) (spGTT 3 8) 2000 60 (.fn 6) (argsT 3) (hpW 3) 1) = some (.bool true, some (.win (rowV 3))) := by kernel_rfl
theorem tRun2_13_1 (ok) : fstW (evDS (pgT s bung dip xs O (tAll 2 13 1) ok) (spGTT 2 13) 2000 60 (.fn 6) (argsT 2) (hpW 2) 1) = some (.bool true, some (.win (rowV 2))) := by kernel_rfl
theorem tRun2_12_1 (ok) : fstW (evDS (pgT s bung dip xs O (tAll 2 12 1) ok) (spGTT 2 12) 2000 60 (.fn 6) (argsT 2) (hpW 2) 1) = some (.bool true, some (.win (rowV 2))) := by kernel_rfl
theorem tRun2_11_1 (ok) : fstW (evDS (pgT s bung dip xs O (tAll 2 11 1) ok) (spGTT 2 11) 2000 60 (.fn 6) (argsT 2) (hpW 2) 1) = some (.bool true, some (.win (rowV 2))) := by kernel_rfl
theorem tRun3_6_1 (ok) : fstW (evDS (pgT s bung dip xs O (tAll 3 6 1) ok) (spGTT 3 6) 2000 60 (.fn 6) (argsT 3) (hpW 3) 1) = some (.bool true, some (.win (rowV 3))) := by kernel_rfl
theorem tRun2_9_1 (ok) : fstW (evDS (pgT s bung dip xs O (tAll 2 9 1) ok) (spGTT 2 9) 2000 60 (.fn 6) (argsT 2) (hpW 2) 1) = some (.bool true, some (.win (rowV 2))) := by kernel_rfl
theorem tRun4_3_1 (ok) : fstW (evDS (pgT s bung dip xs O (tAll 4 3 1) ok) (spGTT 4 3) 2000 60 (.fn 6) (argsT 4) (hpW 4) 1) = some (.bool true, some (.win (rowV 4))) := by kernel_rfl
theorem tRun2_7_1 (ok) : fstW (evDS (pgT s bung dip xs O (tAll 2 7 1) ok) (spGTT 2 7) 2000 60 (.fn 6) (argsT 2) (hpW 2) 1) = some (.bool true, some (.win (rowV 2))) := by kernel_rfl
theorem tRun2_6_1 (ok) : fstW (evDS (pgT s bung dip xs O (tAll 2 6 1) ok) (spGTT 2 6) 2000 60 (.fn 6) (argsT 2) (hpW 2) 1) = some (.bool true, some (.win (rowV 2))) := by kernel_rfl
theorem tRun3_3_1 (ok) : fstW (evDS (pgT s bung dip xs O (tAll 3 3 1) ok) (spGTT 3 3) 2000 60 (.fn 6) (argsT 3) (hpW 3) 1) = some (.bool true, some (.win (rowV 3))) := by kernel_rfl
theorem tRun3_2_1 (ok) : fstW (evDS (pgT s bung dip xs O (tAll 3 2 1) ok) (spGTT 3 2) 2000 60 (.fn 6) (argsT 3) (hpW 3) 1) = some (.bool true, some (.win (rowV 3))) := by kernel_rfl
theorem tRun2_4_1 (ok) : fstW (evDS (pgT s bung dip xs O (tAll 2 4 1) ok) (spGTT 2 4) 2000 60 (.fn 6) (argsT 2) (hpW 2) 1) = some (.bool true, some (.win (rowV 2))) := by kernel_rfl
theorem tRun4_100_1 (ok) : fstW (evDS (pgT s bung dip xs O (tAll 4 100 1) ok) (spGTT 4 0) 2000 60 (.fn 6) (argsT 4) (hpW 4) 1) = some (.bool true, some (.win (rowV 4))) := by kernel_rfl
theorem tRun2_2_1 (ok) : fstW (evDS (pgT s bung dip xs O (tAll 2 2 1) ok) (spGTT 2 2) 2000 60 (.fn 6) (argsT 2) (hpW 2) 1) = some (.bool true, some (.win (rowV 2))) := by kernel_rfl
theorem tRun3_100_1 (ok) : fstW (evDS (pgT s bung dip xs O (tAll 3 100 1) ok) (spGTT 3 0) 2000 60 (.fn 6) (argsT 3) (hpW 3) 1) = some (.bool true, some (.win (rowV 3))) := by kernel_rfl
theorem tRun2_1_1 (ok) : fstW (evDS (pgT s bung dip xs O (tAll 2 1 1) ok) (spGTT 2 1) 2000 60 (.fn 6) (argsT 2) (hpW 2) 1) = some (.bool true, some (.win (rowV 2))) := by kernel_rfl
theorem tBad2_run (ok) : fstW (evDS (pgT s bung dip xs O (tBad 2) ok) (spGTA 2) 2000 60 (.fn 6) (argsT 2) (hpW 2) 1) = some (.bool true, some (.win (rowV 2))) := by kernel_rfl
theorem tBad13_run (ok) : fstW (evDS (pgT s bung dip xs O (tBad 13) ok) (spGTA 13) 2000 60 (.fn 6) (argsT 13) (hpW 13) 1) = some (.bool true, some (.win (rowV 13))) := by kernel_rfl
end
end Sy
end Go.Proofs.Ytpidgcmdimjkoaa
