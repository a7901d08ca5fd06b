/- FOR EVERY INPUT THE LAW FlorDraws ANSWERS TRUE: the program's Drawn answers as the reference's for every wine and volume. No condition. -/
import Derived.Test.YtcpkoapkmjcigaaG0
import Derived.Test.YtcpkoapkmjcigaaD2
import Derived.Test.YtcpkoapkmjcigaaF10
namespace Go.Proofs.Ytcpkoapkmjcigaa
open Go.RowKit

theorem florDraws_holds : Rows.FlorDrawsSaid :=
  FlorDraws.over (draws_walk awake_any florDrawn_wrong florDrawn_break florDrawn_ok)
end Go.Proofs.Ytcpkoapkmjcigaa
