/- FOR EVERY INPUT THE LAW GaugeAreas ANSWERS TRUE: the area of a circle up to a level, or the error, is as the reference has it; with one millimetre more it is greater by no more than a strip of the whole width. No condition. -/
import Derived.Test.YtagpaoglcjcaeaaJ5
import Derived.Test.YtagpaoglcjcaeaaEA
import Derived.Test.YtagpaoglcjcaeaaLGaugeAreas
namespace Go.Proofs.Ytagpaoglcjcaeaa
open Go.RowKit

theorem gaugeAreas_holds : Rows.GaugeAreasSaid :=
  GaugeAreas.over (fun R level w _ => areas_all awake04 R level w)
end Go.Proofs.Ytagpaoglcjcaeaa
