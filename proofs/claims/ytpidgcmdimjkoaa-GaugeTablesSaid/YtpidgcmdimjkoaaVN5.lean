/- The law GaugeTables, reckoned with symbols: runs, part 5. -/
import Derived.Test.YtpidgcmdimjkoaaVN
set_option linter.unusedVariables false
set_option linter.unusedSimpArgs false
namespace Go.Proofs.Ytpidgcmdimjkoaa
open Go.RowKit
namespace Sy
open Go.RowKit

section
variable (s : ByteArray) (bung dip : Int) (xs : List Int) (O : Obj → Prop)
theorem tRun4_12_1 (ok) : fstW (evDS (pgT s bung dip xs O (tAll 4 12 1) ok) (spGTT 4 12) 2000 60 (.fn 6) (argsT 4) (hpW 4) 1) = some (.bool true, some (.win (rowV 4))) := by kernel_rfl
theorem tRun4_11_1 (ok) : fstW (evDS (pgT s bung dip xs O (tAll 4 11 1) ok) (spGTT 4 11) 2000 60 (.fn 6) (argsT 4) (hpW 4) 1) = some (.bool true, some (.win (rowV 4))) := by kernel_rfl
theorem tRun4_9_1 (ok) : fstW (evDS (pgT s bung dip xs O (tAll 4 9 1) ok) (spGTT 4 9) 2000 60 (.fn 6) (argsT 4) (hpW 4) 1) = some (.bool true, some (.win (rowV 4))) := by kernel_rfl
theorem tRun4_8_1 (ok) : fstW (evDS (pgT s bung dip xs O (tAll 4 8 1) ok) (spGTT 4 8) 2000 60 (.fn 6) (argsT 4) (hpW 4) 1) = some (.bool true, some (.win (rowV 4))) := by kernel_rfl
theorem tRun3_11_1 (ok) : fstW (evDS (pgT s bung dip xs O (tAll 3 11 1) ok) (spGTT 3 11) 2000 60 (.fn 6) (argsT 3) (hpW 3) 1) = some (.bool true, some (.win (rowV 3))) := by kernel_rfl
theorem tRun3_9_1 (ok) : fstW (evDS (pgT s bung dip xs O (tAll 3 9 1) ok) (spGTT 3 9) 2000 60 (.fn 6) (argsT 3) (hpW 3) 1) = some (.bool true, some (.win (rowV 3))) := by kernel_rfl
theorem tRun4_6_1 (ok) : fstW (evDS (pgT s bung dip xs O (tAll 4 6 1) ok) (spGTT 4 6) 2000 60 (.fn 6) (argsT 4) (hpW 4) 1) = some (.bool true, some (.win (rowV 4))) := by kernel_rfl
theorem tRun4_5_1 (ok) : fstW (evDS (pgT s bung dip xs O (tAll 4 5 1) ok) (spGTT 4 5) 2000 60 (.fn 6) (argsT 4) (hpW 4) 1) = some (.bool true, some (.win (rowV 4))) := by kernel_rfl
theorem tRun3_7_1 (ok) : fstW (evDS (pgT s bung dip xs O (tAll 3 7 1) ok) (spGTT 3 7) 2000 60 (.fn 6) (argsT 3) (hpW 3) 1) = some (.bool true, some (.win (rowV 3))) := by kernel_rfl
theorem tRun4_4_1 (ok) : fstW (evDS (pgT s bung dip xs O (tAll 4 4 1) ok) (spGTT 4 4) 2000 60 (.fn 6) (argsT 4) (hpW 4) 1) = some (.bool true, some (.win (rowV 4))) := by kernel_rfl
theorem tRun2_10_1 (ok) : fstW (evDS (pgT s bung dip xs O (tAll 2 10 1) ok) (spGTT 2 10) 2000 60 (.fn 6) (argsT 2) (hpW 2) 1) = some (.bool true, some (.win (rowV 2))) := by kernel_rfl
theorem tRun3_5_1 (ok) : fstW (evDS (pgT s bung dip xs O (tAll 3 5 1) ok) (spGTT 3 5) 2000 60 (.fn 6) (argsT 3) (hpW 3) 1) = some (.bool true, some (.win (rowV 3))) := by kernel_rfl
theorem tRun2_8_1 (ok) : fstW (evDS (pgT s bung dip xs O (tAll 2 8 1) ok) (spGTT 2 8) 2000 60 (.fn 6) (argsT 2) (hpW 2) 1) = some (.bool true, some (.win (rowV 2))) := by kernel_rfl
theorem tRun3_4_1 (ok) : fstW (evDS (pgT s bung dip xs O (tAll 3 4 1) ok) (spGTT 3 4) 2000 60 (.fn 6) (argsT 3) (hpW 3) 1) = some (.bool true, some (.win (rowV 3))) := by kernel_rfl
theorem tRun4_2_1 (ok) : fstW (evDS (pgT s bung dip xs O (tAll 4 2 1) ok) (spGTT 4 2) 2000 60 (.fn 6) (argsT 4) (hpW 4) 1) = some (.bool true, some (.win (rowV 4))) := by kernel_rfl
theorem tRun2_5_1 (ok) : fstW (evDS (pgT s bung dip xs O (tAll 2 5 1) ok) (spGTT 2 5) 2000 60 (.fn 6) (argsT 2) (hpW 2) 1) = some (.bool true, some (.win (rowV 2))) := by kernel_rfl
theorem tRun4_1_1 (ok) : fstW (evDS (pgT s bung dip xs O (tAll 4 1 1) ok) (spGTT 4 1) 2000 60 (.fn 6) (argsT 4) (hpW 4) 1) = some (.bool true, some (.win (rowV 4))) := by kernel_rfl
theorem tRun2_3_1 (ok) : fstW (evDS (pgT s bung dip xs O (tAll 2 3 1) ok) (spGTT 2 3) 2000 60 (.fn 6) (argsT 2) (hpW 2) 1) = some (.bool true, some (.win (rowV 2))) := by kernel_rfl
theorem tRun3_1_1 (ok) : fstW (evDS (pgT s bung dip xs O (tAll 3 1 1) ok) (spGTT 3 1) 2000 60 (.fn 6) (argsT 3) (hpW 3) 1) = some (.bool true, some (.win (rowV 3))) := by kernel_rfl
theorem tRun4_101_1 (ok) : fstW (evDS (pgT s bung dip xs O (tAll 4 101 1) ok) (spGTT 4 0) 2000 60 (.fn 6) (argsT 4) (hpW 4) 1) = some (.bool true, some (.win (rowV 4))) := by kernel_rfl
theorem tRun3_101_1 (ok) : fstW (evDS (pgT s bung dip xs O (tAll 3 101 1) ok) (spGTT 3 0) 2000 60 (.fn 6) (argsT 3) (hpW 3) 1) = some (.bool true, some (.win (rowV 3))) := by kernel_rfl
theorem tRun2_100_1 (ok) : fstW (evDS (pgT s bung dip xs O (tAll 2 100 1) ok) (spGTT 2 0) 2000 60 (.fn 6) (argsT 2) (hpW 2) 1) = some (.bool true, some (.win (rowV 2))) := by kernel_rfl
theorem tRun2_101_1 (ok) : fstW (evDS (pgT s bung dip xs O (tAll 2 101 1) ok) (spGTT 2 0) 2000 60 (.fn 6) (argsT 2) (hpW 2) 1) = some (.bool true, some (.win (rowV 2))) := by kernel_rfl
end
end Sy
end Go.Proofs.Ytpidgcmdimjkoaa
