/- The law's examples hold of flor. -/
import Derived.Test.YtbijhcoloajjaaaAU
import Derived.Test.YtbijhcoloajjaaaF7
import Derived.Test.YtbijhcoloajjaaaF9
namespace Go.Proofs.Ytbijhcoloajjaaa
open Go.RowKit

theorem safe33 : isSafe 1500 100 300 1490 33 := by
  unfold isSafe
  decide +kernel
theorem awake_any (w : World) : Calls Try.prog 8 #[] w fun e w' => e = .returned (.bool true) ∧ Below w.heap.size w w' := by
  refine awake_of (fun w => ?_) (fun w => ?_) (fun w => ?_) w
  · exact florAfter_any 1000 1000 1500 1600 200 200 100 200 200 300 100 w
  · exact florSafe_fine 1000 1000 1500 1600 200 200 100 200 200 300 1490 w 33 (by decide +kernel) (by decide) safe33
  · exact florSpirit_fine 900 900 1500 1500 0 0 9500 1700 w (by decide +kernel) (by decide) (by decide +kernel)
end Go.Proofs.Ytbijhcoloajjaaa
