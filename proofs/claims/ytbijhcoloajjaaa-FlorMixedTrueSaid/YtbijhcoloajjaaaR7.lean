/- Contracts of the reference of chapter 3: common, LegalIs. -/
import Derived.Test.YtbijhcoloajjaaaR5
namespace Go.Proofs.Ytbijhcoloajjaaa
open Go.RowKit

def mx (a b : Int) : Int := if a < b then b else a
def mn (a b : Int) : Int := if b < a then b else a
/-- what LegalIs answers of a right wine and a right law -/
def lgR (s0 s1 c0 c1 p0 p1 q0 q1 : Int) : Int := if mn s1 p1 < mx s0 p0 ∨ mn c1 q1 < mx c0 q0 then 0 else if (mx s0 p0 = s0 ∧ mn s1 p1 = s1) ∧ mx c0 q0 = c0 ∧ mn c1 q1 = c1 then 2 else 1
end Go.Proofs.Ytbijhcoloajjaaa
