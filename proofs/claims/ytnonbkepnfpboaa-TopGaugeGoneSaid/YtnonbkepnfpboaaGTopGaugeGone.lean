/- FOR EVERY INPUT THE LAW TopGaugeGone ANSWERS TRUE: what is gone, in the safe case too. No condition. -/
import Derived.Test.YtnonbkepnfpboaaGB
import Derived.Test.YtnonbkepnfpboaaLTopGaugeGone
namespace Go.Proofs.Ytnonbkepnfpboaa
open Go.RowKit

theorem topGaugeGone_holds : Rows.TopGaugeGoneSaid :=
  TopGaugeGone.over (fun V L Mv lo hi tk sa sb nd cd b off nw cw b' off' f g w ha hb hx hy =>
    Sy.gone_any V L Mv (f 0 0) (f 1 0) (g 0 0) (g 0 1) (g 1 0) (g 1 1) lo hi tk nd nw cd cw sa sb b off b' off' w ha hb
      (fun h => Sy.winB_of (n := 2) (g := fun k => f k 0) (by decide) (fun k hk => (by have h1 := (hx k 0 (by omega) (by decide)).1; rwa [show off + k * 1 + 0 = off + k by omega] at h1)))
      (fun h => Sy.winB_of (n := 4) (g := fun k => g (k / 2) (k % 2)) (by decide) (fun k hk => (by have h1 := (hy (k / 2) (k % 2) (by omega) (Nat.mod_lt _ (by decide))).1; rwa [show off' + k / 2 * 2 + k % 2 = off' + k by omega] at h1))))
end Go.Proofs.Ytnonbkepnfpboaa
