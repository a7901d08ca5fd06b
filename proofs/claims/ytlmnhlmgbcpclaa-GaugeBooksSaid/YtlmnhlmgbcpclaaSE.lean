/- The examples with which the laws of chapter 4 begin hold (by the reckoner with symbols). -/
import Derived.Test.YtlmnhlmgbcpclaaProg
import Derived.Test.YtlmnhlmgbcpclaaSZ
namespace Go.Proofs.Ytlmnhlmgbcpclaa
open Go.RowKit
namespace Sy

set_option maxRecDepth 100000 in
theorem awake04_run : fstO (evDS (pg0 Try.prog) spNone 2000 60 (.fn 7) [] .leaf 0) = some (.bool true) := by kernel_rfl
theorem awake04 (w : World) : Calls Try.prog 7 #[] w fun e w' => e = .returned (.bool true) ∧ Below w.heap.size w w' :=
  run_true rfl (by kernel_rfl) ok_spNone awake04_run (fun M => LRel.nil M) w
end Sy
end Go.Proofs.Ytlmnhlmgbcpclaa
