/- FOR EVERY INPUT THE LAW GaugeDips ANSWERS TRUE: the dips of a volume, or the errors, are as specified. No condition. -/
import Derived.Test.YtpidgcmdimjkoaaVZ
import Derived.Test.YtpidgcmdimjkoaaLGaugeDips
namespace Go.Proofs.Ytpidgcmdimjkoaa
open Go.RowKit

theorem gaugeDips_holds : Rows.GaugeDipsSaid :=
  GaugeDips.over (fun i s u sa n cp b off f w _ _ hs hx => Sy.dips_any s u i sa n cp b off f w hs (fun i j hi hj => (hx i j hi hj).1))
end Go.Proofs.Ytpidgcmdimjkoaa
