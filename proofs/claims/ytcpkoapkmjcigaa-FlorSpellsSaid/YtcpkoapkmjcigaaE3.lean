/- FlorDays and FlorTrue: their walks, closed: out of the contracts of flor.After, flor.LossOf and awake alone. -/
import Derived.Test.YtcpkoapkmjcigaaE2
import Derived.Test.YtcpkoapkmjcigaaR4
import Derived.Test.YtcpkoapkmjcigaaD1
import Derived.Test.YtcpkoapkmjcigaaK3
import Derived.Test.YtcpkoapkmjcigaaT1
namespace Go.Proofs.Ytcpkoapkmjcigaa
open Go.RowKit

theorem daysE_zero {n : Int} : daysE n = 0 ↔ 0 ≤ n ∧ n ≤ 365 := by
  unfold daysE
  constructor
  · intro h
    split at h
    · rename_i hc; simpa [inB_iff] using hc
    · omega
  · intro h; rw [if_pos (by simpa [inB_iff] using h)]
theorem rateE_zero {a0 a1 g0 g1 : Int} : rateE a0 a1 g0 g1 = 0 ↔ (0 ≤ a0 ∧ a0 ≤ a1 ∧ a1 ≤ 2000) ∧ (0 ≤ g0 ∧ g0 ≤ g1 ∧ g1 ≤ 2000) := by
  rw [rateE, firstE_zero, rangeE_zero, rangeE_zero]; simp
theorem taskE_zero {v0 v1 s0 s1 c0 c1 a0 a1 g0 g1 days : Int} : taskE v0 v1 s0 s1 c0 c1 a0 a1 g0 g1 days = 0 ↔ ((0 ≤ v0 ∧ v0 ≤ v1 ∧ v1 ≤ 100000) ∧ (0 ≤ s0 ∧ s0 ≤ s1 ∧ s1 ≤ 10000) ∧ (0 ≤ c0 ∧ c0 ≤ c1 ∧ c1 ≤ 100000)) ∧ ((0 ≤ a0 ∧ a0 ≤ a1 ∧ a1 ≤ 2000) ∧ (0 ≤ g0 ∧ g0 ≤ g1 ∧ g1 ≤ 2000)) ∧ (0 ≤ days ∧ days ≤ 365) := by
  rw [taskE, firstE_zero, wineE_zero, rateE_zero, daysE_zero]
/-- what flor.After answers -/
def aftF (v0 v1 s0 s1 c0 c1 a0 a1 g0 g1 days : Int) : Value := if (taskE v0 v1 s0 s1 c0 c1 a0 a1 g0 g1 days != 0) = true then .tuple #[.agg #[.int .i64 0, .int .i64 0, .int .i64 0, .int .i64 0, .int .i64 0, .int .i64 0], .int .i64 (taskE v0 v1 s0 s1 c0 c1 a0 a1 g0 g1 days)] else aftR v0 v1 s0 s1 c0 c1 a0 a1 g0 g1 days
/-- what flor.LossOf answers -/
def lossF (v0 v1 s0 s1 c0 c1 a0 a1 g0 g1 days : Int) : Value := if (taskE v0 v1 s0 s1 c0 c1 a0 a1 g0 g1 days != 0) = true then .tuple #[.agg #[.int .i64 0, .int .i64 0], .int .i64 (taskE v0 v1 s0 s1 c0 c1 a0 a1 g0 g1 days)] else .tuple #[.agg #[.int .i64 (fl (v0 * a0 * days) 1000000), .int .i64 (ce (v1 * a1 * days) 1000000)], .int .i64 0]
theorem days_walk (hA : ∀ w : World, Calls Try.prog 20 #[] w fun e w' => e = .returned (.bool true) ∧ Below w.heap.size w w')
    (hF : ∀ (v0 v1 s0 s1 c0 c1 a0 a1 g0 g1 days : Int) (w : World), Calls Try.prog 27 #[.agg #[.int .i64 v0, .int .i64 v1, .int .i64 s0, .int .i64 s1, .int .i64 c0, .int .i64 c1], .agg #[.int .i64 a0, .int .i64 a1, .int .i64 g0, .int .i64 g1], .int .i64 days] w fun e w' => e = .returned (aftF v0 v1 s0 s1 c0 c1 a0 a1 g0 g1 days) ∧ Below w.heap.size w w')
    (hL : ∀ (v0 v1 s0 s1 c0 c1 a0 a1 g0 g1 days : Int) (w : World), Calls Try.prog 28 #[.agg #[.int .i64 v0, .int .i64 v1, .int .i64 s0, .int .i64 s1, .int .i64 c0, .int .i64 c1], .agg #[.int .i64 a0, .int .i64 a1, .int .i64 g0, .int .i64 g1], .int .i64 days] w fun e w' => e = .returned (lossF v0 v1 s0 s1 c0 c1 a0 a1 g0 g1 days) ∧ Below w.heap.size w w')
    (v0 v1 s0 s1 c0 c1 a0 a1 g0 g1 days : Int) (w : World) : Calls Try.prog 4 #[.agg #[.int .i64 v0, .int .i64 v1, .int .i64 s0, .int .i64 s1, .int .i64 c0, .int .i64 c1], .agg #[.int .i64 a0, .int .i64 a1, .int .i64 g0, .int .i64 g1], .int .i64 days] w fun e w' => e = .returned (.bool true) ∧ Below w.heap.size w w' := by
  have kF := hF v0 v1 s0 s1 c0 c1 a0 a1 g0 g1 days
  have kL := hL v0 v1 s0 s1 c0 c1 a0 a1 g0 g1 days
  by_cases hd : (taskE v0 v1 s0 s1 c0 c1 a0 a1 g0 g1 days != 0) = true
  · rw [aftF, if_pos hd] at kF
    rw [lossF, if_pos hd] at kL
    exact days_wrong _ _ _ _ _ _ _ _ _ _ _ _ w hd hA kF kL (taskErr_any v0 v1 s0 s1 c0 c1 a0 a1 g0 g1 days)
  have hz : taskE v0 v1 s0 s1 c0 c1 a0 a1 g0 g1 days = 0 := by simpa using hd
  obtain ⟨⟨⟨V0, V1, V2⟩, ⟨S0, S1, S2⟩, ⟨C0, C1, C2⟩⟩, ⟨⟨A0, A1, A2⟩, ⟨G0, G1, G2⟩⟩, D0, D1⟩ := taskE_zero.1 hz
  have hT : ∀ w : World, Calls Try.prog 29 #[.agg #[.int .i64 v0, .int .i64 v1, .int .i64 s0, .int .i64 s1, .int .i64 c0, .int .i64 c1], .agg #[.int .i64 a0, .int .i64 a1, .int .i64 g0, .int .i64 g1], .int .i64 days] w fun e w' => e = .returned (.int .i64 0) ∧ Below w.heap.size w w' := by
    intro w; have := taskErr_any v0 v1 s0 s1 c0 c1 a0 a1 g0 g1 days w; rwa [hz] at this
  have eL : lossF v0 v1 s0 s1 c0 c1 a0 a1 g0 g1 days = .tuple #[.agg #[.int .i64 (fl (v0 * a0 * days) 1000000), .int .i64 (ce (v1 * a1 * days) 1000000)], .int .i64 0] := if_neg hd
  have eF : aftF v0 v1 s0 s1 c0 c1 a0 a1 g0 g1 days = aftR v0 v1 s0 s1 c0 c1 a0 a1 g0 g1 days := if_neg hd
  rw [eL] at kL
  rw [eF] at kF
  have hA2 := after_any v0 v1 s0 s1 c0 c1 a0 a1 g0 g1 days
  have hL2 := lossOf_any v0 v1 s0 s1 c0 c1 a0 a1 g0 g1 days
  by_cases hl : 10000 < ce (s1 * lft g0 days) (lft a1 days) ∨ 100000 < ce (c1 * 1000000) (lft a1 days)
  · have eR : aftR v0 v1 s0 s1 c0 c1 a0 a1 g0 g1 days = .tuple #[.agg #[.int .i64 0, .int .i64 0, .int .i64 0, .int .i64 0, .int .i64 0, .int .i64 0], .int .i64 8] := if_pos hl
    rw [eR] at kF hA2
    exact days_right v0 v1 s0 s1 c0 c1 a0 a1 g0 g1 days _ _ _ _ _ _ 8 _ _ w hA kF kL hT (fun w => hA2 w (by omega) (by omega) (by omega) (by omega) (by omega) (by omega) (by omega) (by omega) (by omega) (by omega) (by omega) (by omega) (by omega) (by omega) (by omega) (by omega) (by omega) (by omega) (by omega) (by omega) (by omega) (by omega)) (fun w => hL2 w (by omega) (by omega) (by omega) (by omega) (by omega) (by omega) (by omega) (by omega) (by omega) (by omega))
  · have eR : aftR v0 v1 s0 s1 c0 c1 a0 a1 g0 g1 days = .tuple #[.agg #[.int .i64 (fl (v0 * lft a1 days) 1000000), .int .i64 (ce (v1 * lft a0 days) 1000000), .int .i64 (fl (s0 * lft g1 days) (lft a0 days)), .int .i64 (ce (s1 * lft g0 days) (lft a1 days)), .int .i64 (fl (c0 * 1000000) (lft a0 days)), .int .i64 (ce (c1 * 1000000) (lft a1 days))], .int .i64 0] := if_neg hl
    rw [eR] at kF hA2
    exact days_right v0 v1 s0 s1 c0 c1 a0 a1 g0 g1 days _ _ _ _ _ _ 0 _ _ w hA kF kL hT (fun w => hA2 w (by omega) (by omega) (by omega) (by omega) (by omega) (by omega) (by omega) (by omega) (by omega) (by omega) (by omega) (by omega) (by omega) (by omega) (by omega) (by omega) (by omega) (by omega) (by omega) (by omega) (by omega) (by omega)) (fun w => hL2 w (by omega) (by omega) (by omega) (by omega) (by omega) (by omega) (by omega) (by omega) (by omega) (by omega))
theorem fl_bd {n d : Int} (h : 0 ≤ n) (hd : 0 < d) : 0 ≤ fl n d ∧ fl n d ≤ n :=
  ⟨Int.ediv_nonneg h (by omega), Int.ediv_le_self _ h⟩
theorem ce_bd {n d : Int} (h : 0 ≤ n) (hd : 0 < d) : 0 ≤ ce n d ∧ ce n d ≤ n := by
  have h1 : -n ≤ (-n) / d := by
    rw [Int.le_ediv_iff_mul_le hd, Int.neg_mul]
    have := Int.mul_le_mul_of_nonneg_left (show 1 ≤ d by omega) h
    omega
  have h2 : (-n) / d ≤ 0 := by
    have := Int.ediv_le_ediv hd (show -n ≤ 0 by omega)
    rwa [Int.zero_ediv] at this
  unfold ce; omega
set_option maxHeartbeats 1000000 in
theorem true_walk (hA : ∀ w : World, Calls Try.prog 20 #[] w fun e w' => e = .returned (.bool true) ∧ Below w.heap.size w w')
    (hF : ∀ (v0 v1 s0 s1 c0 c1 a0 a1 g0 g1 days : Int) (w : World), Calls Try.prog 27 #[.agg #[.int .i64 v0, .int .i64 v1, .int .i64 s0, .int .i64 s1, .int .i64 c0, .int .i64 c1], .agg #[.int .i64 a0, .int .i64 a1, .int .i64 g0, .int .i64 g1], .int .i64 days] w fun e w' => e = .returned (aftF v0 v1 s0 s1 c0 c1 a0 a1 g0 g1 days) ∧ Below w.heap.size w w')
    (hL : ∀ (v0 v1 s0 s1 c0 c1 a0 a1 g0 g1 days : Int) (w : World), Calls Try.prog 28 #[.agg #[.int .i64 v0, .int .i64 v1, .int .i64 s0, .int .i64 s1, .int .i64 c0, .int .i64 c1], .agg #[.int .i64 a0, .int .i64 a1, .int .i64 g0, .int .i64 g1], .int .i64 days] w fun e w' => e = .returned (lossF v0 v1 s0 s1 c0 c1 a0 a1 g0 g1 days) ∧ Below w.heap.size w w')
    (v0 v1 s0 s1 c0 c1 a0 a1 g0 g1 days t0 t1 t2 t3 t4 : Int) (w : World) : Calls Try.prog 5 #[.agg #[.int .i64 v0, .int .i64 v1, .int .i64 s0, .int .i64 s1, .int .i64 c0, .int .i64 c1], .agg #[.int .i64 a0, .int .i64 a1, .int .i64 g0, .int .i64 g1], .agg #[.int .i64 days, .int .i64 t0, .int .i64 t1, .int .i64 t2, .int .i64 t3, .int .i64 t4]] w fun e w' => e = .returned (.bool true) ∧ Below w.heap.size w w' := by
  have kF := hF v0 v1 s0 s1 c0 c1 a0 a1 g0 g1 days
  have kL := hL v0 v1 s0 s1 c0 c1 a0 a1 g0 g1 days
  by_cases hd : (taskE v0 v1 s0 s1 c0 c1 a0 a1 g0 g1 days != 0) = true
  · exact true_wrong v0 v1 s0 s1 c0 c1 a0 a1 g0 g1 days t0 t1 t2 t3 t4 _ w hd hA (taskErr_any v0 v1 s0 s1 c0 c1 a0 a1 g0 g1 days)
  have hz : taskE v0 v1 s0 s1 c0 c1 a0 a1 g0 g1 days = 0 := by simpa using hd
  obtain ⟨⟨⟨V0, V1, V2⟩, ⟨S0, S1, S2⟩, ⟨C0, C1, C2⟩⟩, ⟨⟨A0, A1, A2⟩, ⟨G0, G1, G2⟩⟩, D0, D1⟩ := taskE_zero.1 hz
  have hT : ∀ w : World, Calls Try.prog 29 #[.agg #[.int .i64 v0, .int .i64 v1, .int .i64 s0, .int .i64 s1, .int .i64 c0, .int .i64 c1], .agg #[.int .i64 a0, .int .i64 a1, .int .i64 g0, .int .i64 g1], .int .i64 days] w fun e w' => e = .returned (.int .i64 0) ∧ Below w.heap.size w w' := by
    intro w; have := taskErr_any v0 v1 s0 s1 c0 c1 a0 a1 g0 g1 days w; rwa [hz] at this
  have eL : lossF v0 v1 s0 s1 c0 c1 a0 a1 g0 g1 days = .tuple #[.agg #[.int .i64 (fl (v0 * a0 * days) 1000000), .int .i64 (ce (v1 * a1 * days) 1000000)], .int .i64 0] := if_neg hd
  have eF : aftF v0 v1 s0 s1 c0 c1 a0 a1 g0 g1 days = aftR v0 v1 s0 s1 c0 c1 a0 a1 g0 g1 days := if_neg hd
  rw [eL] at kL
  rw [eF] at kF
  obtain ⟨v, hv⟩ : ∃ z, v0 + t0 % (v1 - v0 + 1) = z := ⟨_, rfl⟩
  obtain ⟨V3, V4⟩ := pick_bd v0 v1 t0 (by omega)
  rw [hv] at V3 V4
  have pv : ∀ w : World, Calls Try.prog 32 #[.agg #[.int .i64 v0, .int .i64 v1], .int .i64 t0] w fun e w' => e = .returned (.int .i64 v) ∧ Below w.heap.size w w' := by
    intro w; have := pick_any v0 v1 t0 w (by omega) (by omega) (by omega); rwa [hv] at this
  clear hv
  obtain ⟨s, hs⟩ : ∃ z, s0 + t1 % (s1 - s0 + 1) = z := ⟨_, rfl⟩
  obtain ⟨S3, S4⟩ := pick_bd s0 s1 t1 (by omega)
  rw [hs] at S3 S4
  have ps : ∀ w : World, Calls Try.prog 32 #[.agg #[.int .i64 s0, .int .i64 s1], .int .i64 t1] w fun e w' => e = .returned (.int .i64 s) ∧ Below w.heap.size w w' := by
    intro w; have := pick_any s0 s1 t1 w (by omega) (by omega) (by omega); rwa [hs] at this
  clear hs
  obtain ⟨c, hc⟩ : ∃ z, c0 + t2 % (c1 - c0 + 1) = z := ⟨_, rfl⟩
  obtain ⟨C3, C4⟩ := pick_bd c0 c1 t2 (by omega)
  rw [hc] at C3 C4
  have pc : ∀ w : World, Calls Try.prog 32 #[.agg #[.int .i64 c0, .int .i64 c1], .int .i64 t2] w fun e w' => e = .returned (.int .i64 c) ∧ Below w.heap.size w w' := by
    intro w; have := pick_any c0 c1 t2 w (by omega) (by omega) (by omega); rwa [hc] at this
  clear hc
  obtain ⟨x, hx⟩ : ∃ z, a0 + t3 % (a1 - a0 + 1) = z := ⟨_, rfl⟩
  obtain ⟨A3, A4⟩ := pick_bd a0 a1 t3 (by omega)
  rw [hx] at A3 A4
  have px : ∀ w : World, Calls Try.prog 32 #[.agg #[.int .i64 a0, .int .i64 a1], .int .i64 t3] w fun e w' => e = .returned (.int .i64 x) ∧ Below w.heap.size w w' := by
    intro w; have := pick_any a0 a1 t3 w (by omega) (by omega) (by omega); rwa [hx] at this
  clear hx
  obtain ⟨y, hy⟩ : ∃ z, g0 + t4 % (g1 - g0 + 1) = z := ⟨_, rfl⟩
  obtain ⟨G3, G4⟩ := pick_bd g0 g1 t4 (by omega)
  rw [hy] at G3 G4
  have py : ∀ w : World, Calls Try.prog 32 #[.agg #[.int .i64 g0, .int .i64 g1], .int .i64 t4] w fun e w' => e = .returned (.int .i64 y) ∧ Below w.heap.size w w' := by
    intro w; have := pick_any g0 g1 t4 w (by omega) (by omega) (by omega); rwa [hy] at this
  clear hy
  obtain ⟨B0, B1⟩ := lft_bd a0 days (by omega) (by omega) D0 (by omega)
  obtain ⟨B2, B3⟩ := lft_bd a1 days (by omega) (by omega) D0 (by omega)
  obtain ⟨B4, B5⟩ := lft_bd g0 days (by omega) (by omega) D0 (by omega)
  obtain ⟨B6, B7⟩ := lft_bd g1 days (by omega) (by omega) D0 (by omega)
  obtain ⟨F0, F1⟩ := mul_bd x days 2000 366 (by omega) (by omega) D0 (by omega)
  obtain ⟨F2, F3⟩ := mul_bd y days 2000 366 (by omega) (by omega) D0 (by omega)
  have M0 := mul_bd v (x * days) 100000 732000 (by omega) (by omega) F0 F1
  have M1 := mul_bd v0 a0 100000 2000 (by omega) (by omega) (by omega) (by omega)
  have M2 := mul_bd v1 a1 100000 2000 (by omega) (by omega) (by omega) (by omega)
  have N1 := mul_bd (v0 * a0) days 200000000 366 M1.1 M1.2 D0 (by omega)
  have N2 := mul_bd (v1 * a1) days 200000000 366 M2.1 M2.2 D0 (by omega)
  obtain ⟨L1, L2⟩ := loss_in v0 v1 a0 a1 days v x D0 V0 V3 V4 A0 A3 A4
  have O1 := fl_bd N1.1 (show (0 : Int) < 1000000 by omega)
  have O2 := ce_bd N2.1 (show (0 : Int) < 1000000 by omega)
  have b1 := fun w => between_yes (v * (x * days)) 1000000 _ _ w (by omega) (by omega) (by omega) (by omega) (by omega) (by omega) (by omega) (by omega) L1 L2
  by_cases hl : 10000 < ce (s1 * lft g0 days) (lft a1 days) ∨ 100000 < ce (c1 * 1000000) (lft a1 days)
  · have eR : aftR v0 v1 s0 s1 c0 c1 a0 a1 g0 g1 days = .tuple #[.agg #[.int .i64 0, .int .i64 0, .int .i64 0, .int .i64 0, .int .i64 0, .int .i64 0], .int .i64 8] := if_pos hl
    rw [eR] at kF
    exact true_large v0 v1 s0 s1 c0 c1 a0 a1 g0 g1 days t0 t1 t2 t3 t4 _ _ _ _ _ _ _ _ v s c x y w hA D0 (by omega) (by omega) (by omega) (by omega) (by omega) (by omega) (by omega) (by omega) (by omega) (by omega) (by omega) hT kF kL pv ps pc px py b1
  · have eR : aftR v0 v1 s0 s1 c0 c1 a0 a1 g0 g1 days = .tuple #[.agg #[.int .i64 (fl (v0 * lft a1 days) 1000000), .int .i64 (ce (v1 * lft a0 days) 1000000), .int .i64 (fl (s0 * lft g1 days) (lft a0 days)), .int .i64 (ce (s1 * lft g0 days) (lft a1 days)), .int .i64 (fl (c0 * 1000000) (lft a0 days)), .int .i64 (ce (c1 * 1000000) (lft a1 days))], .int .i64 0] := if_neg hl
    rw [eR] at kF
    have Q0 := mul_bd v (1000000 - x * days) 100000 1000000 (by omega) (by omega) (by omega) (by omega)
    have Q1 := mul_bd s (1000000 - y * days) 10000 1000000 (by omega) (by omega) (by omega) (by omega)
    have R0 := mul_bd (v0) (lft a1 days) 100000 1000000 (by omega) (by omega) (by omega) (by omega)
    have R1 := mul_bd (v1) (lft a0 days) 100000 1000000 (by omega) (by omega) (by omega) (by omega)
    have R2 := mul_bd (s0) (lft g1 days) 10000 1000000 (by omega) (by omega) (by omega) (by omega)
    have R3 := mul_bd (s1) (lft g0 days) 10000 1000000 (by omega) (by omega) (by omega) (by omega)
    obtain ⟨b2L, b2U⟩ := vol_in v0 v1 a0 a1 days v x D0 (by omega) V0 V3 V4 A0 A3 A4 A2
    have b21 := fl_bd (n := v0 * lft a1 days) (d := 1000000) (by omega) (by omega)
    have b22 := ce_bd (n := v1 * lft a0 days) (d := 1000000) (by omega) (by omega)
    have b2 := fun w => between_yes (v * (1000000 - x * days)) (1000000) _ _ w (by omega) (by omega) (by omega) (by omega) (by omega) (by omega) (by omega) (by omega) b2L b2U
    obtain ⟨b3L, b3U⟩ := strength_in s0 s1 a0 a1 g0 g1 days s x y D0 (by omega) S0 S3 S4 A0 A3 A4 A2 G0 G3 G4 G2
    have b31 := fl_bd (n := s0 * lft g1 days) (d := lft a0 days) (by omega) (by omega)
    have b32 := ce_bd (n := s1 * lft g0 days) (d := lft a1 days) (by omega) (by omega)
    have b3 := fun w => between_yes (s * (1000000 - y * days)) ((1000000 - x * days)) _ _ w (by omega) (by omega) (by omega) (by omega) (by omega) (by omega) (by omega) (by omega) b3L b3U
    obtain ⟨b4L, b4U⟩ := sugar_in c0 c1 a0 a1 days c x D0 (by omega) C0 C3 C4 A0 A3 A4 A2
    have b41 := fl_bd (n := c0 * 1000000) (d := lft a0 days) (by omega) (by omega)
    have b42 := ce_bd (n := c1 * 1000000) (d := lft a1 days) (by omega) (by omega)
    have b4 := fun w => between_yes (c * 1000000) ((1000000 - x * days)) _ _ w (by omega) (by omega) (by omega) (by omega) (by omega) (by omega) (by omega) (by omega) b4L b4U
    exact true_fine v0 v1 s0 s1 c0 c1 a0 a1 g0 g1 days t0 t1 t2 t3 t4 _ _ _ _ _ _ _ _ v s c x y w hA D0 (by omega) (by omega) (by omega) (by omega) (by omega) (by omega) (by omega) (by omega) (by omega) (by omega) (by omega) hT kF kL pv ps pc px py b1 b2 b3 b4
end Go.Proofs.Ytcpkoapkmjcigaa
