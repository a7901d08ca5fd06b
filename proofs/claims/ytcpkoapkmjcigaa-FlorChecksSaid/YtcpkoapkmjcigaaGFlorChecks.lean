/- FOR EVERY INPUT THE LAW FlorChecks ANSWERS TRUE: the program's CheckWine, CheckRate and CheckLaw answer as the reference's for every wine, rate and law. No condition. -/
import Derived.Test.YtcpkoapkmjcigaaG0
import Derived.Test.YtcpkoapkmjcigaaC2
namespace Go.Proofs.Ytcpkoapkmjcigaa
open Go.RowKit

theorem florChecks_holds : Rows.FlorChecksSaid :=
  Checks.over (checks_walk awake_any florCheckWine_any florCheckRate_any florCheckLaw_any)
end Go.Proofs.Ytcpkoapkmjcigaa
