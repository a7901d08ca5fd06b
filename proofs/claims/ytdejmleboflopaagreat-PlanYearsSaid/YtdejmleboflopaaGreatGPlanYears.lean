/- FOR EVERY INPUT THE LAW PlanYears ANSWERS TRUE: the ages behind years, the first year and scale that are short, and the greatest draw of one year, or the errors, are as specified. No condition. -/
import Derived.Test.YtdejmleboflopaaGreatYI
import Derived.Test.YtdejmleboflopaaGreatLPlanYears
namespace Go.Proofs.YtdejmleboflopaaGreat
open Go.RowKit

theorem planYears_holds : Rows.PlanYearsSaid :=
  PlanYears.over (fun nw sa sb sd n cp b off m cb b' off' k cd b'' off'' f g h w ha hb hd hx hy hz =>
    Sy.years_any (B := ⟨nw, fun j => f (j / 4) (j % 4), fun j => g (j / 2) (j % 2), fun j => h j 0, n, m, k, off, off', off'', .slice sa n cp, .slice sb m cb, .slice sd k cd, fun _ => 0⟩) (sa := sa) (sb := sb) (sd := sd) (gs := b) (gb := b') (gd := b'') (cp := cp) (cb := cb) (cd := cd)
      ⟨rfl, rfl, rfl, ha, hb, hd,
      (fun h0 => by
        have h0 : 0 < n := h0
        exact Sy.winP_of (by show 0 < 4 * n; omega) (fun j hj => (by have hj : j < 4 * n := hj; have h1 := (hx (j / 4) (j % 4) (by omega) (Nat.mod_lt _ (by decide))).1; rwa [show off + j / 4 * 4 + j % 4 = off + j by omega] at h1))),
      (fun h0 => by
        have h0 : 0 < m := h0
        exact Sy.winP_of (by show 0 < 2 * m; omega) (fun j hj => (by have hj : j < 2 * m := hj; have h1 := (hy (j / 2) (j % 2) (by omega) (Nat.mod_lt _ (by decide))).1; rwa [show off' + j / 2 * 2 + j % 2 = off' + j by omega] at h1))),
      (fun h0 => by
        have h0 : 0 < k := h0
        exact Sy.winP_of h0 (fun j hj => (by have hj : j < k := hj; have h1 := (hz j 0 hj (by decide)).1; rwa [show off'' + j * 1 + 0 = off'' + j by omega] at h1)))⟩)
end Go.Proofs.YtdejmleboflopaaGreat
