/- flor's own (checked).common: nothing in common. -/
import Derived.Test.YtbijhcoloajjaaaW1
namespace Go.Proofs.Ytbijhcoloajjaaa
open Go.RowKit

end Go.Proofs.Ytbijhcoloajjaaa
