/- The mathematics of FlorRatesBack: the rates of what a wine becomes hold its rate. -/
import Derived.Test.YtpccfjdgnmmfoaaT1
namespace Go.Proofs.Ytpccfjdgnmmfoaa

theorem fl_at_most {n d m : Int} (hd : 0 < d) (h : n ≤ m * d) : fl n d ≤ m := by
  unfold fl
  exact Int.ediv_le_of_le_mul hd h
theorem ce_at_least {n d m : Int} (hd : 0 < d) (h : m * d ≤ n) : m ≤ ce n d := by
  unfold ce
  have : (-n) / d ≤ -m := Int.ediv_le_of_le_mul hd (by rw [Int.neg_mul]; omega)
  omega
/-- the rate's least end: what is left is at least v times (1 less the rate) -/
theorem back_lo {v e a days : Int} (hv : 0 < v) (hd : 0 < days) (h : v * lft a days ≤ e * 1000000) : fl (1000000 * (v - e)) (v * days) ≤ a := by
  refine fl_at_most (Int.mul_pos hv hd) ?_
  have e1 : v * lft a days = 1000000 * v - a * (v * days) := by
    unfold lft
    rw [Int.mul_sub, ← Int.mul_assoc v a days, Int.mul_comm v a, Int.mul_assoc, Int.mul_comm v 1000000]
  rw [Int.mul_sub]
  omega
theorem back_hi {v e a days : Int} (hv : 0 < v) (hd : 0 < days) (h : e * 1000000 ≤ v * lft a days) : a ≤ ce (1000000 * (v - e)) (v * days) := by
  refine ce_at_least (Int.mul_pos hv hd) ?_
  have e1 : v * lft a days = 1000000 * v - a * (v * days) := by
    unfold lft
    rw [Int.mul_sub, ← Int.mul_assoc v a days, Int.mul_comm v a, Int.mul_assoc, Int.mul_comm v 1000000]
  rw [Int.mul_sub]
  omega
theorem alc_lo {v0 s0 v1 s1 e1 e3 L0 L1 G : Int} (a0 : 0 ≤ v0) (a1 : v0 ≤ v1) (b0 : 0 ≤ s0) (b1 : s0 ≤ s1) (hL : 0 < L1) (hLL : L1 ≤ L0) (hG : 0 ≤ G) (z1 : 0 ≤ e1) (z3 : 0 ≤ e3)
    (h1 : v1 * L0 ≤ e1 * 1000000) (h3 : s1 * G ≤ e3 * L1) : v0 * s0 * G ≤ e1 * e3 * 1000000 := by
  have p : v1 * L0 * (s1 * G) ≤ e1 * 1000000 * (e3 * L1) := Int.mul_le_mul h1 h3 (Int.mul_nonneg (by omega) hG) (by omega)
  have q : e1 * 1000000 * (e3 * L1) ≤ e1 * 1000000 * (e3 * L0) := Int.mul_le_mul_of_nonneg_left (Int.mul_le_mul_of_nonneg_left hLL z3) (by omega)
  have r : v1 * s1 * G * L0 ≤ e1 * e3 * 1000000 * L0 := by
    have x1 : v1 * L0 * (s1 * G) = v1 * s1 * G * L0 := by
      rw [Int.mul_assoc v1 L0, Int.mul_left_comm L0 s1 G, ← Int.mul_assoc v1 s1, Int.mul_comm L0 G, ← Int.mul_assoc (v1 * s1)]
    have x2 : e1 * 1000000 * (e3 * L0) = e1 * e3 * 1000000 * L0 := by
      rw [Int.mul_assoc e1 1000000, Int.mul_left_comm 1000000 e3 L0, ← Int.mul_assoc e1 e3, ← Int.mul_assoc (e1 * e3)]
    rw [← x1, ← x2]; exact Int.le_trans p q
  have s : v1 * s1 * G ≤ e1 * e3 * 1000000 := Int.le_of_mul_le_mul_right r (by omega)
  have t : v0 * s0 * G ≤ v1 * s1 * G := Int.mul_le_mul_of_nonneg_right (Int.mul_le_mul a1 b1 b0 (by omega)) hG
  omega
theorem alc_hi {v0 s0 v1 s1 e0 e2 L0 L1 G : Int} (a0 : 0 ≤ v0) (a1 : v0 ≤ v1) (b0 : 0 ≤ s0) (b1 : s0 ≤ s1) (hL : 0 < L1) (hLL : L1 ≤ L0) (hG : 0 ≤ G) (z2 : 0 ≤ e2)
    (h0 : e0 * 1000000 ≤ v0 * L1) (h2 : e2 * L0 ≤ s0 * G) : e0 * e2 * 1000000 ≤ v1 * s1 * G := by
  have p : e0 * 1000000 * (e2 * L0) ≤ v0 * L1 * (s0 * G) := Int.mul_le_mul h0 h2 (Int.mul_nonneg z2 (by omega)) (Int.mul_nonneg a0 (by omega))
  have q : v0 * L1 * (s0 * G) ≤ v0 * L0 * (s0 * G) := Int.mul_le_mul_of_nonneg_right (Int.mul_le_mul_of_nonneg_left hLL a0) (Int.mul_nonneg b0 hG)
  have r : e0 * e2 * 1000000 * L0 ≤ v0 * s0 * G * L0 := by
    have x1 : v0 * L0 * (s0 * G) = v0 * s0 * G * L0 := by
      rw [Int.mul_assoc v0 L0, Int.mul_left_comm L0 s0 G, ← Int.mul_assoc v0 s0, Int.mul_comm L0 G, ← Int.mul_assoc (v0 * s0)]
    have x2 : e0 * 1000000 * (e2 * L0) = e0 * e2 * 1000000 * L0 := by
      rw [Int.mul_assoc e0 1000000, Int.mul_left_comm 1000000 e2 L0, ← Int.mul_assoc e0 e2, ← Int.mul_assoc (e0 * e2)]
    rw [← x1, ← x2]; exact Int.le_trans p q
  have s : e0 * e2 * 1000000 ≤ v0 * s0 * G := Int.le_of_mul_le_mul_right r (by omega)
  have t : v0 * s0 * G ≤ v1 * s1 * G := Int.mul_le_mul_of_nonneg_right (Int.mul_le_mul a1 b1 b0 (by omega)) hG
  omega
end Go.Proofs.Ytpccfjdgnmmfoaa
