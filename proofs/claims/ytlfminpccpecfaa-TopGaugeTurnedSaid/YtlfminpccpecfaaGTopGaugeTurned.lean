/- FOR EVERY INPUT THE LAW TopGaugeTurned ANSWERS TRUE: what is above is what is below, turned round. No condition. -/
import Derived.Test.YtlfminpccpecfaaTB
import Derived.Test.YtlfminpccpecfaaLTopGaugeTurned
namespace Go.Proofs.Ytlfminpccpecfaa
open Go.RowKit

theorem topGaugeTurned_holds : Rows.TopGaugeTurnedSaid :=
  TopGaugeTurned.over (fun i s u sa n cp b off f w _ _ hs hx => Sy.turn_any s u i sa n cp b off f w hs (fun i j hi hj => (hx i j hi hj).1))
end Go.Proofs.Ytlfminpccpecfaa
