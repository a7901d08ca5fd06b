/- FOR EVERY INPUT THE LAW TopGaugeDips ANSWERS TRUE: dipped gaugings agree. No condition. -/
import Derived.Test.YtpfhfphcmomfdaaDK
import Derived.Test.YtpfhfphcmomfdaaLTopGaugeDips
namespace Go.Proofs.Ytpfhfphcmomfdaa
open Go.RowKit

theorem topGaugeDips_holds : Rows.TopGaugeDipsSaid :=
  TopGaugeDips.over (fun s u dip sa la n cp b off nl cl b' off' f g w ha hb hx hy => Sy.tdips_any s u dip sa la n cp b off nl cl b' off' f g w ha (fun i j hi hj => (hx i j hi hj).1) hb (fun i j hi hj => (hy i j hi hj).1))
end Go.Proofs.Ytpfhfphcmomfdaa
