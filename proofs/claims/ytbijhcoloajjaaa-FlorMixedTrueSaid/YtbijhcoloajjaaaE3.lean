/- FlorDays and FlorTrue: their walks, closed: out of the contracts of flor.After, flor.LossOf and awake alone. -/
import Derived.Test.YtbijhcoloajjaaaE2
import Derived.Test.YtbijhcoloajjaaaR4
import Derived.Test.YtbijhcoloajjaaaD1
import Derived.Test.YtbijhcoloajjaaaK3
import Derived.Test.YtbijhcoloajjaaaTT
namespace Go.Proofs.Ytbijhcoloajjaaa
open Go.RowKit

theorem daysE_zero {n : Int} : daysE n = 0 ↔ 0 ≤ n ∧ n ≤ 365 := by
  unfold daysE
  constructor
  · intro h
    split at h
    · rename_i hc; simpa [inB_iff] using hc
    · omega
  · intro h; rw [if_pos (by simpa [inB_iff] using h)]
theorem rateE_zero {a0 a1 g0 g1 : Int} : rateE a0 a1 g0 g1 = 0 ↔ (0 ≤ a0 ∧ a0 ≤ a1 ∧ a1 ≤ 2000) ∧ (0 ≤ g0 ∧ g0 ≤ g1 ∧ g1 ≤ 2000) := by
  rw [rateE, firstE_zero, rangeE_zero, rangeE_zero]; simp
theorem taskE_zero {v0 v1 s0 s1 c0 c1 a0 a1 g0 g1 days : Int} : taskE v0 v1 s0 s1 c0 c1 a0 a1 g0 g1 days = 0 ↔ ((0 ≤ v0 ∧ v0 ≤ v1 ∧ v1 ≤ 100000) ∧ (0 ≤ s0 ∧ s0 ≤ s1 ∧ s1 ≤ 10000) ∧ (0 ≤ c0 ∧ c0 ≤ c1 ∧ c1 ≤ 100000)) ∧ ((0 ≤ a0 ∧ a0 ≤ a1 ∧ a1 ≤ 2000) ∧ (0 ≤ g0 ∧ g0 ≤ g1 ∧ g1 ≤ 2000)) ∧ (0 ≤ days ∧ days ≤ 365) := by
  rw [taskE, firstE_zero, wineE_zero, rateE_zero, daysE_zero]
/-- what flor.After answers -/
def aftF (v0 v1 s0 s1 c0 c1 a0 a1 g0 g1 days : Int) : Value := if (taskE v0 v1 s0 s1 c0 c1 a0 a1 g0 g1 days != 0) = true then .tuple #[.agg #[.int .i64 0, .int .i64 0, .int .i64 0, .int .i64 0, .int .i64 0, .int .i64 0], .int .i64 (taskE v0 v1 s0 s1 c0 c1 a0 a1 g0 g1 days)] else aftR v0 v1 s0 s1 c0 c1 a0 a1 g0 g1 days
/-- what flor.LossOf answers -/
def lossF (v0 v1 s0 s1 c0 c1 a0 a1 g0 g1 days : Int) : Value := if (taskE v0 v1 s0 s1 c0 c1 a0 a1 g0 g1 days != 0) = true then .tuple #[.agg #[.int .i64 0, .int .i64 0], .int .i64 (taskE v0 v1 s0 s1 c0 c1 a0 a1 g0 g1 days)] else .tuple #[.agg #[.int .i64 (fl (v0 * a0 * days) 1000000), .int .i64 (ce (v1 * a1 * days) 1000000)], .int .i64 0]
theorem fl_bd {n d : Int} (h : 0 ≤ n) (hd : 0 < d) : 0 ≤ fl n d ∧ fl n d ≤ n :=
  ⟨Int.ediv_nonneg h (by omega), Int.ediv_le_self _ h⟩
theorem ce_bd {n d : Int} (h : 0 ≤ n) (hd : 0 < d) : 0 ≤ ce n d ∧ ce n d ≤ n := by
  have h1 : -n ≤ (-n) / d := by
    rw [Int.le_ediv_iff_mul_le hd, Int.neg_mul]
    have := Int.mul_le_mul_of_nonneg_left (show 1 ≤ d by omega) h
    omega
  have h2 : (-n) / d ≤ 0 := by
    have := Int.ediv_le_ediv hd (show -n ≤ 0 by omega)
    rwa [Int.zero_ediv] at this
  unfold ce; omega
end Go.Proofs.Ytbijhcoloajjaaa
