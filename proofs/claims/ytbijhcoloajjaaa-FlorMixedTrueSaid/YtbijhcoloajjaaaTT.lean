import Derived.Test.YtbijhcoloajjaaaR3
/- The mathematics of FlorTrue: no Go in sight. -/
namespace Go.Proofs.Ytbijhcoloajjaaa

theorem fl_mul (n d : Int) (hd : 0 < d) : fl n d * d ≤ n := by
  unfold fl
  have h1 := Int.emod_add_mul_ediv n d
  have h2 := Int.emod_nonneg n (by omega : d ≠ 0)
  rw [Int.mul_comm]; omega
theorem ce_mul (n d : Int) (hd : 0 < d) : n ≤ ce n d * d := by
  have := fl_mul (-n) d hd
  unfold fl at this
  unfold ce
  rw [Int.neg_mul]; omega
/-- n / d ≤ m / e, told of the floor of the first -/
theorem fl_le (n d m e : Int) (hd : 0 < d) (he : 0 < e) (h : n * e ≤ m * d) : fl n d * e ≤ m := by
  have h1 := fl_mul n d hd
  have h2 : fl n d * e * d ≤ m * d := by
    calc fl n d * e * d = fl n d * d * e := by rw [Int.mul_assoc, Int.mul_comm e d, Int.mul_assoc]
      _ ≤ n * e := Int.mul_le_mul_of_nonneg_right h1 (by omega)
      _ ≤ m * d := h
  exact Int.le_of_mul_le_mul_right h2 hd
theorem ce_ge (n d m e : Int) (hd : 0 < d) (he : 0 < e) (h : m * d ≤ n * e) : m ≤ ce n d * e := by
  have h1 := ce_mul n d hd
  have h2 : m * d ≤ ce n d * e * d := by
    calc m * d ≤ n * e := h
      _ ≤ ce n d * d * e := Int.mul_le_mul_of_nonneg_right h1 (by omega)
      _ = ce n d * e * d := by rw [Int.mul_assoc, Int.mul_comm d e, Int.mul_assoc]
  exact Int.le_of_mul_le_mul_right h2 hd
/-- products of numbers that are not below 0 -/
theorem mul_le4 {a b c d : Int} (h1 : a ≤ c) (h2 : b ≤ d) (ha : 0 ≤ c) (hb : 0 ≤ b) : a * b ≤ c * d := Int.mul_le_mul h1 h2 hb ha
theorem mul_le6 {a b c a' b' c' : Int} (h1 : a ≤ a') (h2 : b ≤ b') (h3 : c ≤ c') (ha : 0 ≤ a) (hb : 0 ≤ b) (hc : 0 ≤ c) : a * b * c ≤ a' * b' * c' :=
  mul_le4 (mul_le4 h1 h2 (by omega) hb) h3 (Int.mul_nonneg (by omega) (by omega)) hc
theorem lft_le {a f days : Int} (h : a ≤ f) (d0 : 0 ≤ days) : 1000000 - f * days ≤ lft a days := by
  have := Int.mul_le_mul_of_nonneg_right h d0
  unfold lft; omega
theorem lft_ge {a f days : Int} (h : f ≤ a) (d0 : 0 ≤ days) : lft a days ≤ 1000000 - f * days := by
  have := Int.mul_le_mul_of_nonneg_right h d0
  unfold lft; omega

section
variable (v0 v1 s0 s1 c0 c1 a0 a1 g0 g1 days v s c x y : Int) (d0 : 0 ≤ days) (d1 : days ≤ 366)
  (V0 : 0 ≤ v0) (V1 : v0 ≤ v) (V2 : v ≤ v1) (S0 : 0 ≤ s0) (S1 : s0 ≤ s) (S2 : s ≤ s1) (C0 : 0 ≤ c0) (C1 : c0 ≤ c) (C2 : c ≤ c1)
  (X0 : 0 ≤ a0) (X1 : a0 ≤ x) (X2 : x ≤ a1) (X3 : a1 ≤ 2000) (Y0 : 0 ≤ g0) (Y1 : g0 ≤ y) (Y2 : y ≤ g1) (Y3 : g1 ≤ 2000)
include V0 V1 V2 X0 X1 X2 d0
theorem loss_in : fl (v0 * a0 * days) 1000000 * 1000000 ≤ v * (x * days) ∧ v * (x * days) ≤ ce (v1 * a1 * days) 1000000 * 1000000 := by
  rw [← Int.mul_assoc]
  exact ⟨fl_le _ _ _ _ (by omega) (by omega) (by rw [Int.mul_comm (v0 * a0 * days), Int.mul_comm (v * x * days)]; exact Int.mul_le_mul_of_nonneg_left (mul_le6 V1 X1 (Int.le_refl _) V0 X0 d0) (by omega)),
    ce_ge _ _ _ _ (by omega) (by omega) (by rw [Int.mul_comm (v1 * a1 * days), Int.mul_comm (v * x * days)]; exact Int.mul_le_mul_of_nonneg_left (mul_le6 V2 X2 (Int.le_refl _) (by omega) (by omega) d0) (by omega))⟩
include d1 X3
theorem vol_in : fl (v0 * lft a1 days) 1000000 * 1000000 ≤ v * (1000000 - x * days) ∧ v * (1000000 - x * days) ≤ ce (v1 * lft a0 days) 1000000 * 1000000 := by
  have p0 := lft_ge X2 d0
  have p1 := lft_le X1 d0
  have q := lft_bd a1 days (by omega) X3 d0 d1
  exact ⟨fl_le _ _ _ _ (by omega) (by omega) (Int.mul_le_mul_of_nonneg_right (mul_le4 V1 p0 (by omega) (by omega)) (by omega)),
    ce_ge _ _ _ _ (by omega) (by omega) (Int.mul_le_mul_of_nonneg_right (mul_le4 V2 p1 (by omega) (by omega)) (by omega))⟩
include C0 C1 C2
omit V0 V1 V2 in
theorem sugar_in : fl (c0 * 1000000) (lft a0 days) * (1000000 - x * days) ≤ c * 1000000 ∧ c * 1000000 ≤ ce (c1 * 1000000) (lft a1 days) * (1000000 - x * days) := by
  have p0 := lft_ge X2 d0
  have p1 := lft_le X1 d0
  have q := lft_bd a1 days (by omega) X3 d0 d1
  have q0 := lft_bd a0 days X0 (by omega) d0 d1
  exact ⟨fl_le _ _ _ _ (by omega) (by omega) (mul_le4 (Int.mul_le_mul_of_nonneg_right C1 (by omega)) p1 (by omega) (by omega)),
    ce_ge _ _ _ _ (by omega) (by omega) (mul_le4 (Int.mul_le_mul_of_nonneg_right C2 (by omega)) p0 (by omega) (by omega))⟩
include S0 S1 S2 Y0 Y1 Y2 Y3
omit V0 V1 V2 C0 C1 C2 in
theorem strength_in : fl (s0 * lft g1 days) (lft a0 days) * (1000000 - x * days) ≤ s * (1000000 - y * days) ∧ s * (1000000 - y * days) ≤ ce (s1 * lft g0 days) (lft a1 days) * (1000000 - x * days) := by
  have p0 := lft_ge X2 d0
  have p1 := lft_le X1 d0
  have r0 := lft_ge Y2 d0
  have r1 := lft_le Y1 d0
  have q := lft_bd a1 days (by omega) X3 d0 d1
  have q0 := lft_bd a0 days X0 (by omega) d0 d1
  have q1 := lft_bd g1 days (by omega) Y3 d0 d1
  have q2 := lft_bd g0 days Y0 (by omega) d0 d1
  exact ⟨fl_le _ _ _ _ (by omega) (by omega) (mul_le4 (mul_le4 S1 r0 (by omega) (by omega)) p1 (Int.mul_nonneg (by omega) (by omega)) (by omega)),
    ce_ge _ _ _ _ (by omega) (by omega) (mul_le4 (mul_le4 S2 r1 (by omega) (by omega)) p0 (Int.mul_nonneg (by omega) (by omega)) (by omega))⟩
end
end Go.Proofs.Ytbijhcoloajjaaa

/- The mathematics of FlorRatesBack: the rates of what a wine becomes hold its rate. -/
namespace Go.Proofs.Ytbijhcoloajjaaa

theorem fl_at_most {n d m : Int} (hd : 0 < d) (h : n ≤ m * d) : fl n d ≤ m := by
  unfold fl
  exact Int.ediv_le_of_le_mul hd h
theorem ce_at_least {n d m : Int} (hd : 0 < d) (h : m * d ≤ n) : m ≤ ce n d := by
  unfold ce
  have : (-n) / d ≤ -m := Int.ediv_le_of_le_mul hd (by rw [Int.neg_mul]; omega)
  omega
/-- the rate's least end: what is left is at least v times (1 less the rate) -/
theorem back_lo {v e a days : Int} (hv : 0 < v) (hd : 0 < days) (h : v * lft a days ≤ e * 1000000) : fl (1000000 * (v - e)) (v * days) ≤ a := by
  refine fl_at_most (Int.mul_pos hv hd) ?_
  have e1 : v * lft a days = 1000000 * v - a * (v * days) := by
    unfold lft
    rw [Int.mul_sub, ← Int.mul_assoc v a days, Int.mul_comm v a, Int.mul_assoc, Int.mul_comm v 1000000]
  rw [Int.mul_sub]
  omega
theorem back_hi {v e a days : Int} (hv : 0 < v) (hd : 0 < days) (h : e * 1000000 ≤ v * lft a days) : a ≤ ce (1000000 * (v - e)) (v * days) := by
  refine ce_at_least (Int.mul_pos hv hd) ?_
  have e1 : v * lft a days = 1000000 * v - a * (v * days) := by
    unfold lft
    rw [Int.mul_sub, ← Int.mul_assoc v a days, Int.mul_comm v a, Int.mul_assoc, Int.mul_comm v 1000000]
  rw [Int.mul_sub]
  omega
theorem alc_lo {v0 s0 v1 s1 e1 e3 L0 L1 G : Int} (a0 : 0 ≤ v0) (a1 : v0 ≤ v1) (b0 : 0 ≤ s0) (b1 : s0 ≤ s1) (hL : 0 < L1) (hLL : L1 ≤ L0) (hG : 0 ≤ G) (z1 : 0 ≤ e1) (z3 : 0 ≤ e3)
    (h1 : v1 * L0 ≤ e1 * 1000000) (h3 : s1 * G ≤ e3 * L1) : v0 * s0 * G ≤ e1 * e3 * 1000000 := by
  have p : v1 * L0 * (s1 * G) ≤ e1 * 1000000 * (e3 * L1) := Int.mul_le_mul h1 h3 (Int.mul_nonneg (by omega) hG) (by omega)
  have q : e1 * 1000000 * (e3 * L1) ≤ e1 * 1000000 * (e3 * L0) := Int.mul_le_mul_of_nonneg_left (Int.mul_le_mul_of_nonneg_left hLL z3) (by omega)
  have r : v1 * s1 * G * L0 ≤ e1 * e3 * 1000000 * L0 := by
    have x1 : v1 * L0 * (s1 * G) = v1 * s1 * G * L0 := by
      rw [Int.mul_assoc v1 L0, Int.mul_left_comm L0 s1 G, ← Int.mul_assoc v1 s1, Int.mul_comm L0 G, ← Int.mul_assoc (v1 * s1)]
    have x2 : e1 * 1000000 * (e3 * L0) = e1 * e3 * 1000000 * L0 := by
      rw [Int.mul_assoc e1 1000000, Int.mul_left_comm 1000000 e3 L0, ← Int.mul_assoc e1 e3, ← Int.mul_assoc (e1 * e3)]
    rw [← x1, ← x2]; exact Int.le_trans p q
  have s : v1 * s1 * G ≤ e1 * e3 * 1000000 := Int.le_of_mul_le_mul_right r (by omega)
  have t : v0 * s0 * G ≤ v1 * s1 * G := Int.mul_le_mul_of_nonneg_right (Int.mul_le_mul a1 b1 b0 (by omega)) hG
  omega
theorem alc_hi {v0 s0 v1 s1 e0 e2 L0 L1 G : Int} (a0 : 0 ≤ v0) (a1 : v0 ≤ v1) (b0 : 0 ≤ s0) (b1 : s0 ≤ s1) (hL : 0 < L1) (hLL : L1 ≤ L0) (hG : 0 ≤ G) (z2 : 0 ≤ e2)
    (h0 : e0 * 1000000 ≤ v0 * L1) (h2 : e2 * L0 ≤ s0 * G) : e0 * e2 * 1000000 ≤ v1 * s1 * G := by
  have p : e0 * 1000000 * (e2 * L0) ≤ v0 * L1 * (s0 * G) := Int.mul_le_mul h0 h2 (Int.mul_nonneg z2 (by omega)) (Int.mul_nonneg a0 (by omega))
  have q : v0 * L1 * (s0 * G) ≤ v0 * L0 * (s0 * G) := Int.mul_le_mul_of_nonneg_right (Int.mul_le_mul_of_nonneg_left hLL a0) (Int.mul_nonneg b0 hG)
  have r : e0 * e2 * 1000000 * L0 ≤ v0 * s0 * G * L0 := by
    have x1 : v0 * L0 * (s0 * G) = v0 * s0 * G * L0 := by
      rw [Int.mul_assoc v0 L0, Int.mul_left_comm L0 s0 G, ← Int.mul_assoc v0 s0, Int.mul_comm L0 G, ← Int.mul_assoc (v0 * s0)]
    have x2 : e0 * 1000000 * (e2 * L0) = e0 * e2 * 1000000 * L0 := by
      rw [Int.mul_assoc e0 1000000, Int.mul_left_comm 1000000 e2 L0, ← Int.mul_assoc e0 e2, ← Int.mul_assoc (e0 * e2)]
    rw [← x1, ← x2]; exact Int.le_trans p q
  have s : e0 * e2 * 1000000 ≤ v0 * s0 * G := Int.le_of_mul_le_mul_right r (by omega)
  have t : v0 * s0 * G ≤ v1 * s1 * G := Int.mul_le_mul_of_nonneg_right (Int.mul_le_mul a1 b1 b0 (by omega)) hG
  omega
end Go.Proofs.Ytbijhcoloajjaaa
