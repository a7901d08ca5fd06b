/- The examples with which the laws of chapter 4 begin hold. -/
import Derived.Test.YtagpaoglcjcaeaaProg
import Derived.Test.YtagpaoglcjcaeaaEV16
namespace Go.Proofs.Ytagpaoglcjcaeaa
open Go.RowKit

set_option maxRecDepth 100000 in
theorem awake04_reckoned : Ev.isTrue (Ev.evF Try.prog 2000 60 15 []) = true := by kernel_rfl
theorem awake04 (w : World) : Calls Try.prog 15 #[] w fun e w' => e = .returned (.bool true) ∧ Below w.heap.size w w' :=
  Ev.reckoned_true (by kernel_rfl) awake04_reckoned w
end Go.Proofs.Ytagpaoglcjcaeaa
