/- FlorTrue: the walk of the law, out of contracts of what it calls. -/
import Derived.Test.YtbijhcoloajjaaaE1
namespace Go.Proofs.Ytbijhcoloajjaaa
open Go.RowKit

set_option linter.unusedVariables false
theorem mul_bd2 (x y a b : Int) (x0 : 0 ≤ x) (x1 : x ≤ a) (y0 : 0 ≤ y) (y1 : y ≤ b) : 0 ≤ x * y ∧ x * y ≤ a * b :=
  ⟨Int.mul_nonneg x0 y0, Int.mul_le_mul x1 y1 y0 (by omega)⟩
end Go.Proofs.Ytbijhcoloajjaaa
