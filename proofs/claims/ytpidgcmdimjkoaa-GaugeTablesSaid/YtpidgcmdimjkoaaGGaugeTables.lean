/- FOR EVERY INPUT THE LAW GaugeTables ANSWERS TRUE: the table of a cask and the gauging by a dip are as specified. No condition. -/
import Derived.Test.YtpidgcmdimjkoaaVP
import Derived.Test.YtpidgcmdimjkoaaLGaugeTables
namespace Go.Proofs.Ytpidgcmdimjkoaa
open Go.RowKit

theorem gaugeTables_holds : Rows.GaugeTablesSaid :=
  GaugeTables.over (fun i j k l s u sa n cp b off f w _ _ hs hx => Sy.tab_any s u i j k l sa n cp b off f w hs (fun i j hi hj => (hx i j hi hj).1))
end Go.Proofs.Ytpidgcmdimjkoaa
