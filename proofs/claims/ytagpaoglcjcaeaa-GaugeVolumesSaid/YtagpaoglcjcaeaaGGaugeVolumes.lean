/- FOR EVERY INPUT THE LAW GaugeVolumes ANSWERS TRUE: the volume of a cask up to a dip, or the errors, is as the reference has it. No condition. -/
import Derived.Test.YtagpaoglcjcaeaaRK
import Derived.Test.YtagpaoglcjcaeaaLGaugeVolumes
namespace Go.Proofs.Ytagpaoglcjcaeaa
open Go.RowKit

theorem gaugeVolumes_holds : Rows.GaugeVolumesSaid :=
  GaugeVolumes.over (fun i s u sa n cp b off f w _ _ hs hx => Sy.vol_any s u i sa n cp b off f w hs (fun i j hi hj => (hx i j hi hj).1))
end Go.Proofs.Ytagpaoglcjcaeaa
