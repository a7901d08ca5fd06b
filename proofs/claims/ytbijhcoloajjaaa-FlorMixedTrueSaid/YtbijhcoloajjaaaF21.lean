/- flor's Over, in one contract. -/
import Derived.Test.YtbijhcoloajjaaaF20
import Derived.Test.YtbijhcoloajjaaaF7
namespace Go.Proofs.Ytbijhcoloajjaaa
open Go.RowKit

theorem aft_any : AftC := fun x r w => by
  have := florAfter_any x.v0 x.v1 x.s0 x.s1 x.c0 x.c1 r.a0 r.a1 r.g0 r.g1 r.d w
  rw [aft_val] at this
  exact this
def ovErr (x : Wn) (n : Nat) : Int := firstE x.err (unlE (decide ((n : Int) ≤ 20)) 8) 0
def ovVal (f : Nat → Sp) (n : Nat) (x : Wn) : Value := if (ovErr x n != 0) = true then .tuple #[Wn.zero.val, .int .i64 0, .int .i64 (ovErr x n)] else .tuple #[(overW f n 0 x).val, .int .i64 (overN f n 0 x), .int .i64 (overE f n 0 x)]
end Go.Proofs.Ytbijhcoloajjaaa
