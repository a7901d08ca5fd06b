/- FOR EVERY INPUT THE LAW GaugeCasks ANSWERS TRUE: which casks are right, with a number, and the volume of a cask, or the errors, are as the reference has them. No condition. -/
import Derived.Test.YtagpaoglcjcaeaaRL
import Derived.Test.YtagpaoglcjcaeaaLGaugeCasks
namespace Go.Proofs.Ytagpaoglcjcaeaa
open Go.RowKit

theorem gaugeCasks_holds : Rows.GaugeCasksSaid :=
  GaugeCasks.over (fun s u sa n cp b off f w _ _ hs hx => Sy.casks_any s u sa n cp b off f w hs (fun i j hi hj => (hx i j hi hj).1))
end Go.Proofs.Ytagpaoglcjcaeaa
