/- GaugeAreas' walk, out of the examples. -/
import Derived.Test.YtpidgcmdimjkoaaJ4
namespace Go.Proofs.Ytpidgcmdimjkoaa
open Go.RowKit

theorem rtUp_bd2 {n M : Int} (h0 : 0 ≤ n) (h1 : n ≤ M * M) (hM : 0 ≤ M) : 0 ≤ rtUp n ∧ rtUp n ≤ M := by
  have h := rt_bd h0 h1 hM
  have hr := isRt_rt h0
  unfold rtUp
  split
  · omega
  · rename_i e
    refine ⟨by omega, ?_⟩
    rcases Int.lt_or_eq_of_le h.2 with h2 | h2
    · omega
    · exfalso
      have := hr.2.1
      rw [h2] at this e
      omega
theorem rt_le_up (n : Int) : rt n ≤ rtUp n := by unfold rtUp; split <;> omega
theorem ar_le (R : Int) : ∀ i, arLo R i ≤ arHi R i
  | 0 => Int.le_refl _
  | i + 1 => by
    have h1 := ar_le R i
    have h2 := rt_le_up (sqW R (-R + i))
    have h3 := rt_le_up (sqW R (-R + i + 1))
    rw [arLo, arHi]
    omega
theorem ar_step {R : Int} (hR : 0 ≤ R) (i : Nat) (hi : (i : Int) < 2 * R) : (0 ≤ arLo R (i + 1) - arLo R i ∧ arLo R (i + 1) - arLo R i ≤ 2 * R) ∧ (0 ≤ arHi R (i + 1) - arHi R i ∧ arHi R (i + 1) - arHi R i ≤ 2 * R) := by
  have b0 := sqW_bd (y := -R + i) hR (by omega) (by omega)
  have b1 := sqW_bd (y := -R + i + 1) hR (by omega) (by omega)
  have e : 4 * (R * R) = (2 * R) * (2 * R) := by rw [Int.mul_assoc 2 R, Int.mul_left_comm R 2 R, ← Int.mul_assoc 2 2]; rfl
  rw [e] at b0 b1
  have c0 := rt_bd b0.1 b0.2 (by omega)
  have c1 := rt_bd b1.1 b1.2 (by omega)
  have d0 := rtUp_bd2 b0.1 b0.2 (by omega)
  have d1 := rtUp_bd2 b1.1 b1.2 (by omega)
  rw [arLo, arHi]
  omega
end Go.Proofs.Ytpidgcmdimjkoaa
