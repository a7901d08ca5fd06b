/- The examples of chapter 6. -/
import Derived.Test.YtdejmleboflopaaGreatPV
set_option linter.unusedVariables false
set_option linter.unusedSimpArgs false
namespace Go.Proofs.YtdejmleboflopaaGreat
open Go.RowKit
namespace Sy
open Go.RowKit

set_option maxRecDepth 100000 in
theorem awakeP_run : fstO (evDS pgX0 spNone 2000 60 (.fn 5) [] .leaf 0) = some (.bool true) := by kernel_rfl
theorem awakeP (w : World) : Calls Tryz.prog 5 #[] w fun e w' => e = .returned (.bool true) ∧ Below w.heap.size w w' :=
  run_true (P := pgX0) rfl (by kernel_rfl) ok_spNone awakeP_run (fun M => LRel.nil M) w
end Sy
end Go.Proofs.YtdejmleboflopaaGreat
