/- FOR EVERY INPUT THE LAW FlorTrue ANSWERS TRUE: each true wine and each true rate within the ends give a wine, and a loss, within what the program's After and LossOf tell. No condition. -/
import Derived.Test.YtcpkoapkmjcigaaG0
import Derived.Test.YtcpkoapkmjcigaaLFlorTrue
namespace Go.Proofs.Ytcpkoapkmjcigaa
open Go.RowKit

theorem florTrue_holds : Rows.FlorTrueSaid :=
  FlorTrue.over (fun v0 v1 s0 s1 c0 c1 a0 a1 g0 g1 days t0 t1 t2 t3 t4 w _ => true_walk awake_any florAfter_any florLoss_any v0 v1 s0 s1 c0 c1 a0 a1 g0 g1 days t0 t1 t2 t3 t4 w)
end Go.Proofs.Ytcpkoapkmjcigaa
