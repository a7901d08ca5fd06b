/- FOR EVERY INPUT THE LAW FlorDays ANSWERS TRUE: the program's After and LossOf answer as the reference's for every wine, rate and days. No condition. -/
import Derived.Test.YtcpkoapkmjcigaaG0
import Derived.Test.YtcpkoapkmjcigaaLFlorDays
namespace Go.Proofs.Ytcpkoapkmjcigaa
open Go.RowKit

theorem florDays_holds : Rows.FlorDaysSaid :=
  FlorDays.over (fun v0 v1 s0 s1 c0 c1 a0 a1 g0 g1 days w _ => days_walk awake_any florAfter_any florLoss_any v0 v1 s0 s1 c0 c1 a0 a1 g0 g1 days w)
end Go.Proofs.Ytcpkoapkmjcigaa
