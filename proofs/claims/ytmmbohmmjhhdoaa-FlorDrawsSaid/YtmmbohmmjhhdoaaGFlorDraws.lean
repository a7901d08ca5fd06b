/- FOR EVERY INPUT THE LAW FlorDraws ANSWERS TRUE: the program's Drawn answers as the reference's for every wine and volume. No condition. -/
import Derived.Test.YtmmbohmmjhhdoaaG0
import Derived.Test.YtmmbohmmjhhdoaaD2
import Derived.Test.YtmmbohmmjhhdoaaF10
namespace Go.Proofs.Ytmmbohmmjhhdoaa
open Go.RowKit

theorem florDraws_holds : Rows.FlorDrawsSaid :=
  FlorDraws.over (draws_walk awake_any florDrawn_wrong florDrawn_break florDrawn_ok)
end Go.Proofs.Ytmmbohmmjhhdoaa
