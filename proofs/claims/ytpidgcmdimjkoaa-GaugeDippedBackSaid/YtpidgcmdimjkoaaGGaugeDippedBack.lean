/- FOR EVERY INPUT THE LAW GaugeDippedBack ANSWERS TRUE: a dip is among the dips of each volume between the ends up to it. No condition. -/
import Derived.Test.YtpidgcmdimjkoaaVM
import Derived.Test.YtpidgcmdimjkoaaLGaugeDippedBack
namespace Go.Proofs.Ytpidgcmdimjkoaa
open Go.RowKit

theorem gaugeDippedBack_holds : Rows.GaugeDippedBackSaid :=
  GaugeDippedBack.over (fun i j s u sa n cp b off f w _ _ hs hx => Sy.back_any s u i j sa n cp b off f w hs (fun i j hi hj => (hx i j hi hj).1))
end Go.Proofs.Ytpidgcmdimjkoaa
