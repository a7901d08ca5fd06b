/- Contracts of the reference of chapter 3: common, LegalIs. -/
import Derived.Test.YtpccfjdgnmmfoaaR5
namespace Go.Proofs.Ytpccfjdgnmmfoaa
open Go.RowKit

def mx (a b : Int) : Int := if a < b then b else a
def mn (a b : Int) : Int := if b < a then b else a
theorem common_any (a0 a1 b0 b1 : Int) (w : World) :
    Calls Try.prog 71 #[.agg #[.int .i64 a0, .int .i64 a1], .agg #[.int .i64 b0, .int .i64 b1]] w fun e w' => e = .returned (.agg #[.int .i64 (mx a0 b0), .int .i64 (mn a1 b1)]) ∧ Below w.heap.size w w' := by
  go_enter Try.func71, Try.ntmps71
  go_wp2
  all_goals go_returns
  all_goals refine ⟨?_, by go_grown⟩
  all_goals (by_cases p : a0 < b0 <;> by_cases q : b1 < a1 <;> simp [mx, mn, p, q] <;> omega)
/-- what LegalIs answers of a right wine and a right law -/
def lgR (s0 s1 c0 c1 p0 p1 q0 q1 : Int) : Int := if mn s1 p1 < mx s0 p0 ∨ mn c1 q1 < mx c0 q0 then 0 else if (mx s0 p0 = s0 ∧ mn s1 p1 = s1) ∧ mx c0 q0 = c0 ∧ mn c1 q1 = c1 then 2 else 1
end Go.Proofs.Ytpccfjdgnmmfoaa
