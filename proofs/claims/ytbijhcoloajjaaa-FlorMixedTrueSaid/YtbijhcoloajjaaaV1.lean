/- The reference's Over: a loop over spells. -/
import Derived.Test.YtbijhcoloajjaaaU2
import Derived.Test.YtbijhcoloajjaaaR4
import Derived.Test.YtbijhcoloajjaaaE3
namespace Go.Proofs.Ytbijhcoloajjaaa
open Go.RowKit

theorem aftR_val (x : Wn) (r : Sp) (h : x.task r = 0) : aftR x.v0 x.v1 x.s0 x.s1 x.c0 x.c1 r.a0 r.a1 r.g0 r.g1 r.d = .tuple #[(aftWin x r).val, .int .i64 (aftErr x r)] := by
  rw [← aft_val]
  have h2 : ¬ (taskE x.v0 x.v1 x.s0 x.s1 x.c0 x.c1 r.a0 r.a1 r.g0 r.g1 r.d != 0) = true := by
    have h3 : taskE x.v0 x.v1 x.s0 x.s1 x.c0 x.c1 r.a0 r.a1 r.g0 r.g1 r.d = 0 := h
    rw [h3]; decide
  rw [aftF, if_neg h2]
end Go.Proofs.Ytbijhcoloajjaaa
