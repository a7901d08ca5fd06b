/- FOR EVERY INPUT THE LAW PlanNow ANSWERS TRUE: behind a year with the greatest draw no scale is short, with one decilitre more one is, or a flow is too great. No condition. -/
import Derived.Test.YtbkknabndbhjeaaGreatPH
import Derived.Test.YtbkknabndbhjeaaGreatLPlanNow
namespace Go.Proofs.YtbkknabndbhjeaaGreat
open Go.RowKit

theorem planNow_holds : Rows.PlanNowSaid :=
  PlanNow.over (fun nw sa sb n cp b off m cb b' off' f g w ha hb hx hy =>
    Sy.now_any nw sa sb n cp b off m cb b' off' (fun k => f (k / 4) (k % 4)) (fun k => g (k / 2) (k % 2)) w ha hb
      (fun h => Sy.winP_of (by omega) (fun k hk => (by have h1 := (hx (k / 4) (k % 4) (by omega) (Nat.mod_lt _ (by decide))).1; rwa [show off + k / 4 * 4 + k % 4 = off + k by omega] at h1)))
      (fun h => Sy.winP_of (by omega) (fun k hk => (by have h1 := (hy (k / 2) (k % 2) (by omega) (Nat.mod_lt _ (by decide))).1; rwa [show off' + k / 2 * 2 + k % 2 = off' + k by omega] at h1))))
end Go.Proofs.YtbkknabndbhjeaaGreat
