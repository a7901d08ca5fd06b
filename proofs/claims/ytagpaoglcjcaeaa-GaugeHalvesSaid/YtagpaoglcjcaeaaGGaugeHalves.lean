/- FOR EVERY INPUT THE LAW GaugeHalves ANSWERS TRUE: a cylinder has up to its middle half of its volume, and its volume lies between those of prisms with three and with four squares of the radius. No condition. -/
import Derived.Test.YtagpaoglcjcaeaaSK
import Derived.Test.YtagpaoglcjcaeaaLGaugeHalves
namespace Go.Proofs.Ytagpaoglcjcaeaa
open Go.RowKit

theorem gaugeHalves_holds : Rows.GaugeHalvesSaid :=
  GaugeHalves.over (fun r l w _ => Sy.half_any r l w)
end Go.Proofs.Ytagpaoglcjcaeaa
