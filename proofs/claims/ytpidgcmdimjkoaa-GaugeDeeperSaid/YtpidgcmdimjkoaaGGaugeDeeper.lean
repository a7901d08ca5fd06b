/- FOR EVERY INPUT THE LAW GaugeDeeper ANSWERS TRUE: deeper is more, wider is less sure. No condition. -/
import Derived.Test.YtpidgcmdimjkoaaDB
import Derived.Test.YtpidgcmdimjkoaaLGaugeDeeper
namespace Go.Proofs.Ytpidgcmdimjkoaa
open Go.RowKit

theorem gaugeDeeper_holds : Rows.GaugeDeeperSaid :=
  GaugeDeeper.over (fun d0 d1 y0 y1 s u sa n cp b off f w _ _ hs hx => Sy.deep_any s u d0 d1 y0 y1 sa n cp b off f w hs (fun i j hi hj => (hx i j hi hj).1))
end Go.Proofs.Ytpidgcmdimjkoaa
