/- The law GaugeTables, reckoned with symbols: runs, part 4. -/
import Derived.Test.YtpidgcmdimjkoaaVN
set_option linter.unusedVariables false
set_option linter.unusedSimpArgs false
namespace Go.Proofs.Ytpidgcmdimjkoaa
open Go.RowKit
namespace Sy
open Go.RowKit

section
variable (s : ByteArray) (bung dip : Int) (xs : List Int) (O : Obj → Prop)
theorem tRun4_12_0 (ok) : fstW (evDS (pgT s bung dip xs O (tAll 4 12 0) ok) (spGTT 4 12) 2000 60 (.fn 6) (argsT 4) (hpW 4) 1) = some (.bool true, some (.win (rowV 4))) := by kernel_rfl
theorem tRun4_11_0 (ok) : fstW (evDS (pgT s bung dip xs O (tAll 4 11 0) ok) (spGTT 4 11) 2000 60 (.fn 6) (argsT 4) (hpW 4) 1) = some (.bool true, some (.win (rowV 4))) := by kernel_rfl
theorem tRun4_9_0 (ok) : fstW (evDS (pgT s bung dip xs O (tAll 4 9 0) ok) (spGTT 4 9) 2000 60 (.fn 6) (argsT 4) (hpW 4) 1) = some (.bool true, some (.win (rowV 4))) := by kernel_rfl
theorem tRun4_8_0 (ok) : fstW (evDS (pgT s bung dip xs O (tAll 4 8 0) ok) (spGTT 4 8) 2000 60 (.fn 6) (argsT 4) (hpW 4) 1) = some (.bool true, some (.win (rowV 4))) := by kernel_rfl
theorem tRun3_11_0 (ok) : fstW (evDS (pgT s bung dip xs O (tAll 3 11 0) ok) (spGTT 3 11) 2000 60 (.fn 6) (argsT 3) (hpW 3) 1) = some (.bool true, some (.win (rowV 3))) := by kernel_rfl
theorem tRun3_9_0 (ok) : fstW (evDS (pgT s bung dip xs O (tAll 3 9 0) ok) (spGTT 3 9) 2000 60 (.fn 6) (argsT 3) (hpW 3) 1) = some (.bool true, some (.win (rowV 3))) := by kernel_rfl
theorem tRun4_6_0 (ok) : fstW (evDS (pgT s bung dip xs O (tAll 4 6 0) ok) (spGTT 4 6) 2000 60 (.fn 6) (argsT 4) (hpW 4) 1) = some (.bool true, some (.win (rowV 4))) := by kernel_rfl
theorem tRun4_5_0 (ok) : fstW (evDS (pgT s bung dip xs O (tAll 4 5 0) ok) (spGTT 4 5) 2000 60 (.fn 6) (argsT 4) (hpW 4) 1) = some (.bool true, some (.win (rowV 4))) := by kernel_rfl
theorem tRun3_7_0 (ok) : fstW (evDS (pgT s bung dip xs O (tAll 3 7 0) ok) (spGTT 3 7) 2000 60 (.fn 6) (argsT 3) (hpW 3) 1) = some (.bool true, some (.win (rowV 3))) := by kernel_rfl
theorem tRun4_4_0 (ok) : fstW (evDS (pgT s bung dip xs O (tAll 4 4 0) ok) (spGTT 4 4) 2000 60 (.fn 6) (argsT 4) (hpW 4) 1) = some (.bool true, some (.win (rowV 4))) := by kernel_rfl
theorem tRun2_10_0 (ok) : fstW (evDS (pgT s bung dip xs O (tAll 2 10 0) ok) (spGTT 2 10) 2000 60 (.fn 6) (argsT 2) (hpW 2) 1) = some (.bool true, some (.win (rowV 2))) := by kernel_rfl
theorem tRun3_5_0 (ok) : fstW (evDS (pgT s bung dip xs O (tAll 3 5 0) ok) (spGTT 3 5) 2000 60 (.fn 6) (argsT 3) (hpW 3) 1) = some (.bool true, some (.win (rowV 3))) := by kernel_rfl
theorem tRun2_8_0 (ok) : fstW (evDS (pgT s bung dip xs O (tAll 2 8 0) ok) (spGTT 2 8) 2000 60 (.fn 6) (argsT 2) (hpW 2) 1) = some (.bool true, some (.win (rowV 2))) := by kernel_rfl
theorem tRun3_4_0 (ok) : fstW (evDS (pgT s bung dip xs O (tAll 3 4 0) ok) (spGTT 3 4) 2000 60 (.fn 6) (argsT 3) (hpW 3) 1) = some (.bool true, some (.win (rowV 3))) := by kernel_rfl
theorem tRun4_2_0 (ok) : fstW (evDS (pgT s bung dip xs O (tAll 4 2 0) ok) (spGTT 4 2) 2000 60 (.fn 6) (argsT 4) (hpW 4) 1) = some (.bool true, some (.win (rowV 4))) := by kernel_rfl
theorem tRun2_5_0 (ok) : fstW (evDS (pgT s bung dip xs O (tAll 2 5 0) ok) (spGTT 2 5) 2000 60 (.fn 6) (argsT 2) (hpW 2) 1) = some (.bool true, some (.win (rowV 2))) := by kernel_rfl
theorem tRun4_1_0 (ok) : fstW (evDS (pgT s bung dip xs O (tAll 4 1 0) ok) (spGTT 4 1) 2000 60 (.fn 6) (argsT 4) (hpW 4) 1) = some (.bool true, some (.win (rowV 4))) := by kernel_rfl
theorem tRun2_3_0 (ok) : fstW (evDS (pgT s bung dip xs O (tAll 2 3 0) ok) (spGTT 2 3) 2000 60 (.fn 6) (argsT 2) (hpW 2) 1) = some (.bool true, some (.win (rowV 2))) := by kernel_rfl
theorem tRun3_1_0 (ok) : fstW (evDS (pgT s bung dip xs O (tAll 3 1 0) ok) (spGTT 3 1) 2000 60 (.fn 6) (argsT 3) (hpW 3) 1) = some (.bool true, some (.win (rowV 3))) := by kernel_rfl
theorem tRun4_101_0 (ok) : fstW (evDS (pgT s bung dip xs O (tAll 4 101 0) ok) (spGTT 4 0) 2000 60 (.fn 6) (argsT 4) (hpW 4) 1) = some (.bool true, some (.win (rowV 4))) := by kernel_rfl
theorem tRun3_101_0 (ok) : fstW (evDS (pgT s bung dip xs O (tAll 3 101 0) ok) (spGTT 3 0) 2000 60 (.fn 6) (argsT 3) (hpW 3) 1) = some (.bool true, some (.win (rowV 3))) := by kernel_rfl
theorem tRun2_100_0 (ok) : fstW (evDS (pgT s bung dip xs O (tAll 2 100 0) ok) (spGTT 2 0) 2000 60 (.fn 6) (argsT 2) (hpW 2) 1) = some (.bool true, some (.win (rowV 2))) := by kernel_rfl
theorem tRun2_101_0 (ok) : fstW (evDS (pgT s bung dip xs O (tAll 2 101 0) ok) (spGTT 2 0) 2000 60 (.fn 6) (argsT 2) (hpW 2) 1) = some (.bool true, some (.win (rowV 2))) := by kernel_rfl
end
end Sy
end Go.Proofs.Ytpidgcmdimjkoaa
