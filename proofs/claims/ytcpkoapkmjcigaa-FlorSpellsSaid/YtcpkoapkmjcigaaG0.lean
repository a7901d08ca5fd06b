/- The law's examples hold of flor. -/
import Derived.Test.YtcpkoapkmjcigaaA1
import Derived.Test.YtcpkoapkmjcigaaF7
import Derived.Test.YtcpkoapkmjcigaaF9
namespace Go.Proofs.Ytcpkoapkmjcigaa
open Go.RowKit

theorem safe33 : isSafe 1500 100 300 1490 33 := by
  unfold isSafe
  decide +kernel
theorem awake_any (w : World) : Calls Try.prog 20 #[] w fun e w' => e = .returned (.bool true) ∧ Below w.heap.size w w' := by
  refine awake_of (fun w => ?_) (fun w => ?_) (fun w => ?_) w
  · exact florAfter_any 1000 1000 1500 1600 200 200 100 200 200 300 100 w
  · exact florSafe_fine 1000 1000 1500 1600 200 200 100 200 200 300 1490 w 33 (by decide +kernel) (by decide) safe33
  · exact florSpirit_fine 900 900 1500 1500 0 0 9500 1700 w (by decide +kernel) (by decide) (by decide +kernel)
theorem florLoss_any (v0 v1 s0 s1 c0 c1 a0 a1 g0 g1 days : Int) (w : World) :
    Calls Try.prog 28 #[.agg #[.int .i64 v0, .int .i64 v1, .int .i64 s0, .int .i64 s1, .int .i64 c0, .int .i64 c1], .agg #[.int .i64 a0, .int .i64 a1, .int .i64 g0, .int .i64 g1], .int .i64 days] w fun e w' => e = .returned (lossF v0 v1 s0 s1 c0 c1 a0 a1 g0 g1 days) ∧ Below w.heap.size w w' := by
  by_cases hd : (taskE v0 v1 s0 s1 c0 c1 a0 a1 g0 g1 days != 0) = true
  · rw [lossF, if_pos hd]
    exact florLoss_wrong v0 v1 s0 s1 c0 c1 a0 a1 g0 g1 days w hd
  rw [lossF, if_neg hd]
  have hz : taskE v0 v1 s0 s1 c0 c1 a0 a1 g0 g1 days = 0 := by simpa using hd
  have hf : (firstE (wineE v0 v1 s0 s1 c0 c1) (rateE a0 a1 g0 g1) (daysE days) != 0) = false := by have hz2 : firstE (wineE v0 v1 s0 s1 c0 c1) (rateE a0 a1 g0 g1) (daysE days) = 0 := hz; rw [hz2]; rfl
  obtain ⟨⟨⟨V0, V1, V2⟩, ⟨S0, S1, S2⟩, ⟨C0, C1, C2⟩⟩, ⟨⟨A0, A1, A2⟩, ⟨G0, G1, G2⟩⟩, D0, D1⟩ := taskE_zero.1 hz
  have := florLoss_right v0 v1 s0 s1 c0 c1 a0 a1 g0 g1 days w hf (by omega) (by omega) (by omega) (by omega) (by omega) (by omega) (by omega) (by omega) (by omega) (by omega)
  rw [← Int.mul_assoc, ← Int.mul_assoc] at this
  exact this
end Go.Proofs.Ytcpkoapkmjcigaa
