/- Enclosures of quotients, step by step: what is behind a step lies in what is told of it. -/
import Derived.Test.YtbijhcoloajjaaaTT
namespace Go.Proofs.Ytbijhcoloajjaaa
open Go.RowKit

theorem stepLo {lo n s G1 G F F0 : Int} (lo0 : 0 ≤ lo) (n0 : 0 ≤ n) (h : lo * n ≤ s) (g1 : 0 ≤ G1) (gg : G1 ≤ G) (s0 : 0 ≤ s) (f0 : 0 < F0) (ff : F ≤ F0) : fl (lo * G1) F0 * (n * F) ≤ s * G := by
  have hq := fl_mul (lo * G1) F0 f0
  have q0 : 0 ≤ fl (lo * G1) F0 := Int.ediv_nonneg (Int.mul_nonneg lo0 g1) (by omega)
  have h1 : fl (lo * G1) F0 * F ≤ fl (lo * G1) F0 * F0 := Int.mul_le_mul_of_nonneg_left ff q0
  have h2 : n * (fl (lo * G1) F0 * F) ≤ n * (lo * G1) := Int.mul_le_mul_of_nonneg_left (by omega) n0
  have h3 : lo * n * G1 ≤ s * G1 := Int.mul_le_mul_of_nonneg_right h g1
  have h4 : s * G1 ≤ s * G := Int.mul_le_mul_of_nonneg_left gg s0
  have e1 : fl (lo * G1) F0 * (n * F) = n * (fl (lo * G1) F0 * F) := by simp only [Int.mul_left_comm]
  have e2 : n * (lo * G1) = lo * n * G1 := by simp only [Int.mul_comm, Int.mul_left_comm]
  omega
theorem stepHi {hi n s G0 G F F1 : Int} (hi0 : 0 ≤ hi) (n0 : 0 ≤ n) (h : s ≤ hi * n) (g0 : 0 ≤ G) (gg : G ≤ G0) (f1 : 0 < F1) (ff : F1 ≤ F) : s * G ≤ ce (hi * G0) F1 * (n * F) := by
  have hq := ce_mul (hi * G0) F1 f1
  have k0 : 0 ≤ hi * G0 := Int.mul_nonneg hi0 (by omega)
  have q0 : 0 ≤ ce (hi * G0) F1 := by
    rcases Int.lt_or_le (ce (hi * G0) F1) 0 with hn | hn
    · have := Int.mul_neg_of_neg_of_pos hn f1
      omega
    · exact hn
  have h1 : ce (hi * G0) F1 * F1 ≤ ce (hi * G0) F1 * F := Int.mul_le_mul_of_nonneg_left ff q0
  have h2 : n * (hi * G0) ≤ n * (ce (hi * G0) F1 * F) := Int.mul_le_mul_of_nonneg_left (by omega) n0
  have h3 : s * G ≤ hi * n * G := Int.mul_le_mul_of_nonneg_right h g0
  have h4 : hi * n * G ≤ hi * n * G0 := Int.mul_le_mul_of_nonneg_left gg (Int.mul_nonneg hi0 n0)
  have e1 : ce (hi * G0) F1 * (n * F) = n * (ce (hi * G0) F1 * F) := by simp only [Int.mul_left_comm]
  have e2 : n * (hi * G0) = hi * n * G0 := by simp only [Int.mul_comm, Int.mul_left_comm]
  omega
end Go.Proofs.Ytbijhcoloajjaaa
