/- FOR EVERY INPUT THE LAW TopFlorSpells ANSWERS TRUE: a true wine that loses by true rates in one spell, and by others in the next one, lies in what the program's Over tells behind both. No condition. -/
import Derived.Test.YtcpkoapkmjcigaaG0
import Derived.Test.YtcpkoapkmjcigaaU3
import Derived.Test.YtcpkoapkmjcigaaLTopFlorSpells
namespace Go.Proofs.Ytcpkoapkmjcigaa
open Go.RowKit

theorem fawake_any (w : World) : Calls Try.prog 63 #[] w fun e w' => e = .returned (.bool true) ∧ Below w.heap.size w w' := by
  refine fawake_of (fun w => ?_) (fun w => ?_) w
  · exact florAfter_any 1000 1000 1500 1600 200 200 100 200 200 300 100 w
  · exact florSafe_fine 1000 1000 1500 1600 200 200 100 200 200 300 1490 w 33 (by decide +kernel) (by decide) safe33
theorem fbet (n d lo hi : Int) (h0 : 0 ≤ n) (h1 : n ≤ 1000000000000000000) (hd : 0 < d) (hd1 : d ≤ 1000000000000) (l0 : 0 ≤ lo) (l1 : lo ≤ hi) (u1 : hi ≤ 100000) (a : lo * d ≤ n) (b : n ≤ hi * d) :
    ∀ w : World, Calls Try.prog 66 #[.int .i64 n, .int .i64 d, .agg #[.int .i64 lo, .int .i64 hi]] w fun e w' => e = .returned (.bool true) ∧ Below w.heap.size w w' := fun w =>
  fbetween_yes n d lo hi w (by omega) h1 hd (by omega) (by omega) (by omega) (by omega) (by omega) a b
set_option maxRecDepth 100000 in
set_option maxHeartbeats 4000000 in
theorem spells_walk (v0 v1 s0 s1 c0 c1 p0 p1 p2 p3 p4 q0 q1 q2 q3 q4 b0 b1 b2 b3 t0 t1 t2 t3 t4 : Int) (w : World) :
    Calls Try.prog 17 #[.agg #[.int .i64 v0, .int .i64 v1, .int .i64 s0, .int .i64 s1, .int .i64 c0, .int .i64 c1], .agg #[.int .i64 p0, .int .i64 p1, .int .i64 p2, .int .i64 p3, .int .i64 p4, .int .i64 q0, .int .i64 q1, .int .i64 q2, .int .i64 q3, .int .i64 q4, .int .i64 b0, .int .i64 b1, .int .i64 b2, .int .i64 b3], .agg #[.int .i64 t0, .int .i64 t1, .int .i64 t2, .int .i64 t3, .int .i64 t4]] w fun e w' => e = .returned (.bool true) ∧ Below w.heap.size w w' := by
  by_cases hz : wineE v0 v1 s0 s1 c0 c1 = 0 ∧ rateE p0 p1 p2 p3 = 0 ∧ rateE q0 q1 q2 q3 = 0 ∧ daysE p4 = 0 ∧ daysE q4 = 0
  case neg =>
    refine spells_out fawake_any v0 v1 s0 s1 c0 c1 p0 p1 p2 p3 p4 q0 q1 q2 q3 q4 b0 b1 b2 b3 t0 t1 t2 t3 t4 w ?_
    simp only [bne_iff_ne, ne_eq]
    by_cases h0 : wineE v0 v1 s0 s1 c0 c1 = 0
    case neg => exact .inl h0
    by_cases h1 : rateE p0 p1 p2 p3 = 0
    case neg => exact .inr (.inl h1)
    by_cases h2 : rateE q0 q1 q2 q3 = 0
    case neg => exact .inr (.inr (.inl h2))
    by_cases h3 : daysE p4 = 0
    case neg => exact .inr (.inr (.inr (.inl h3)))
    by_cases h4 : daysE q4 = 0
    case neg => exact .inr (.inr (.inr (.inr (h4))))
    exact absurd ⟨h0, h1, h2, h3, h4⟩ hz
  obtain ⟨z0, z1, z2, z3, z4⟩ := hz
  have k0 : (wineE v0 v1 s0 s1 c0 c1 != 0) = false := by rw [z0]; rfl
  have k1 : (rateE p0 p1 p2 p3 != 0) = false := by rw [z1]; rfl
  have k2 : (rateE q0 q1 q2 q3 != 0) = false := by rw [z2]; rfl
  have k3 : (daysE p4 != 0) = false := by rw [z3]; rfl
  have k4 : (daysE q4 != 0) = false := by rw [z4]; rfl
  have hx : (⟨v0, v1, s0, s1, c0, c1⟩ : Wn).task ⟨p0, p1, p2, p3, p4⟩ = 0 := task_of z0 z1 z3
  rcases over_two hx (q := ⟨q0, q1, q2, q3, q4⟩) z2 z4 with ⟨n, hv, n0, n1⟩ | ⟨hv, ht, hl⟩
  · have hO : ∀ (b : Nat) (w : World), w.cell? ⟨b, 0, none⟩ = some (.int .i64 p0) → w.cell? ⟨b, 1, none⟩ = some (.int .i64 p1) → w.cell? ⟨b, 2, none⟩ = some (.int .i64 p2) → w.cell? ⟨b, 3, none⟩ = some (.int .i64 p3) → w.cell? ⟨b, 4, none⟩ = some (.int .i64 p4) → w.cell? ⟨b, 5, none⟩ = some (.int .i64 q0) → w.cell? ⟨b, 6, none⟩ = some (.int .i64 q1) → w.cell? ⟨b, 7, none⟩ = some (.int .i64 q2) → w.cell? ⟨b, 8, none⟩ = some (.int .i64 q3) → w.cell? ⟨b, 9, none⟩ = some (.int .i64 q4) → Calls Try.prog 44 #[.agg #[.int .i64 v0, .int .i64 v1, .int .i64 s0, .int .i64 s1, .int .i64 c0, .int .i64 c1], .slice (some ⟨b, 0, none⟩) 2 2] w fun e w' => e = .returned (.tuple #[.agg #[.int .i64 0, .int .i64 0, .int .i64 0, .int .i64 0, .int .i64 0, .int .i64 0], .int .i64 n, .int .i64 8]) ∧ Below w.heap.size w w' := fun b w cl0 cl1 cl2 cl3 cl4 cl5 cl6 cl7 cl8 cl9 => by
      have := over_any (two ⟨p0, p1, p2, p3, p4⟩ ⟨q0, q1, q2, q3, q4⟩) ⟨v0, v1, s0, s1, c0, c1⟩ 2 2 b 0 w (by omega) (by
        intro k j hk hj
        match k, j, hk, hj with
        | 0, 0, _, _ => exact cl0
        | 0, 1, _, _ => exact cl1
        | 0, 2, _, _ => exact cl2
        | 0, 3, _, _ => exact cl3
        | 0, 4, _, _ => exact cl4
        | 1, 0, _, _ => exact cl5
        | 1, 1, _, _ => exact cl6
        | 1, 2, _, _ => exact cl7
        | 1, 3, _, _ => exact cl8
        | 1, 4, _, _ => exact cl9)
      rw [hv] at this
      exact this
    refine spells_large fawake_any v0 v1 s0 s1 c0 c1 p0 p1 p2 p3 p4 q0 q1 q2 q3 q4 b0 b1 b2 b3 t0 t1 t2 t3 t4 n w k0 k1 k2 k3 k4 hO (fun w => ?_)
    have := within_any n 0 1 w
    rw [show inB n 0 1 = true by unfold inB; simp; omega] at this
    exact this
  obtain ⟨⟨⟨V0, V1, V2⟩, ⟨S0, S1, S2⟩, ⟨C0, C1, C2⟩⟩, ⟨⟨A0, A1, A2⟩, ⟨G0, G1, G2⟩⟩, D0, D1⟩ := task_zero hx
  obtain ⟨-, ⟨⟨P0, P1, P2⟩, ⟨Q0, Q1, Q2⟩⟩, E0, E1⟩ := task_zero ht
  dsimp only at V0 V1 V2 S0 S1 S2 C0 C1 C2 A0 A1 A2 G0 G1 G2 D0 D1 P0 P1 P2 Q0 Q1 Q2 E0 E1
  obtain ⟨i0, j0⟩ := pick_bd v0 v1 t0 (by omega)
  have hp0 := fun w => fpick_any v0 v1 t0 w (by omega) (by omega) (by omega)
  obtain ⟨pv, hpv⟩ : ∃ r, v0 + t0 % (v1 - v0 + 1) = r := ⟨_, rfl⟩
  rw [hpv] at i0 j0
  simp only [hpv] at hp0
  obtain ⟨i1, j1⟩ := pick_bd s0 s1 t1 (by omega)
  have hp1 := fun w => fpick_any s0 s1 t1 w (by omega) (by omega) (by omega)
  obtain ⟨ps, hps⟩ : ∃ r, s0 + t1 % (s1 - s0 + 1) = r := ⟨_, rfl⟩
  rw [hps] at i1 j1
  simp only [hps] at hp1
  obtain ⟨i2, j2⟩ := pick_bd c0 c1 t2 (by omega)
  have hp2 := fun w => fpick_any c0 c1 t2 w (by omega) (by omega) (by omega)
  obtain ⟨pc, hpc⟩ : ∃ r, c0 + t2 % (c1 - c0 + 1) = r := ⟨_, rfl⟩
  rw [hpc] at i2 j2
  simp only [hpc] at hp2
  obtain ⟨i3, j3⟩ := pick_bd p0 p1 b0 (by omega)
  have hp3 := fun w => fpick_any p0 p1 b0 w (by omega) (by omega) (by omega)
  obtain ⟨f0, hf0⟩ : ∃ r, p0 + b0 % (p1 - p0 + 1) = r := ⟨_, rfl⟩
  rw [hf0] at i3 j3
  simp only [hf0] at hp3
  obtain ⟨i4, j4⟩ := pick_bd p2 p3 b1 (by omega)
  have hp4 := fun w => fpick_any p2 p3 b1 w (by omega) (by omega) (by omega)
  obtain ⟨y0, hy0⟩ : ∃ r, p2 + b1 % (p3 - p2 + 1) = r := ⟨_, rfl⟩
  rw [hy0] at i4 j4
  simp only [hy0] at hp4
  obtain ⟨i5, j5⟩ := pick_bd q0 q1 b2 (by omega)
  have hp5 := fun w => fpick_any q0 q1 b2 w (by omega) (by omega) (by omega)
  obtain ⟨f1, hf1⟩ : ∃ r, q0 + b2 % (q1 - q0 + 1) = r := ⟨_, rfl⟩
  rw [hf1] at i5 j5
  simp only [hf1] at hp5
  obtain ⟨i6, j6⟩ := pick_bd q2 q3 b3 (by omega)
  have hp6 := fun w => fpick_any q2 q3 b3 w (by omega) (by omega) (by omega)
  obtain ⟨y1, hy1⟩ : ∃ r, q2 + b3 % (q3 - q2 + 1) = r := ⟨_, rfl⟩
  rw [hy1] at i6 j6
  simp only [hy1] at hp6
  have en0 : Encl ⟨v0, v1, s0, s1, c0, c1⟩ pv 1 ps 1 pc 1 := ⟨⟨by show v0 * 1 ≤ pv; omega, by show pv ≤ v1 * 1; omega⟩, ⟨by show s0 * 1 ≤ ps; omega, by show ps ≤ s1 * 1; omega⟩, ⟨by show c0 * 1 ≤ pc; omega, by show pc ≤ c1 * 1; omega⟩⟩
  obtain ⟨u0, u1⟩ := mul_bd f0 p4 2000 365 (by omega) (by omega) D0 D1
  obtain ⟨u2, u3⟩ := mul_bd y0 p4 2000 365 (by omega) (by omega) D0 D1
  obtain ⟨u4, u5⟩ := mul_bd f1 q4 2000 365 (by omega) (by omega) E0 E1
  obtain ⟨u6, u7⟩ := mul_bd y1 q4 2000 365 (by omega) (by omega) E0 E1
  have en1 := encl_step (f := f0) (g := y0) hx en0 (by omega) (by omega) (by omega) (by omega) (by omega) (by omega) i3 j3 i4 j4
  dsimp only at en1
  obtain ⟨m0, hm0⟩ : ∃ m, f0 * p4 = m := ⟨_, rfl⟩
  obtain ⟨m1, hm1⟩ : ∃ m, y0 * p4 = m := ⟨_, rfl⟩
  obtain ⟨m2, hm2⟩ : ∃ m, f1 * q4 = m := ⟨_, rfl⟩
  obtain ⟨m3, hm3⟩ : ∃ m, y1 * q4 = m := ⟨_, rfl⟩
  rw [hm0] at u0 u1
  rw [hm1] at u2 u3
  rw [hm2] at u4 u5
  rw [hm3] at u6 u7
  rw [hm0, hm1] at en1
  have w0 : ∀ z a : Int, 0 ≤ z → 0 ≤ a → 0 ≤ z * a := fun _ _ h1 h2 => Int.mul_nonneg h1 h2
  have en2 := encl_step (f := f1) (g := y1) ht en1 (w0 _ _ (by omega) (by omega)) (by omega) (w0 _ _ (by omega) (by omega)) (w0 _ _ (by omega) (by omega)) (by omega) (w0 _ _ (by omega) (by omega)) i5 j5 i6 j6
  dsimp only at en2
  rw [hm2, hm3] at en2
  obtain ⟨⟨R0, R1, R2⟩, ⟨T0, T1, T2⟩, ⟨Z0, Z1, Z2⟩⟩ := wineE_zero.1 (behind_right ht hl)
  obtain ⟨⟨x0, x1⟩, ⟨x2, x3⟩, ⟨x4, x5⟩⟩ := en2
  obtain ⟨⟨e0, e1, e2, e3, e4, e5⟩, hy⟩ : ∃ y, ((⟨v0, v1, s0, s1, c0, c1⟩ : Wn).behind ⟨p0, p1, p2, p3, p4⟩).behind ⟨q0, q1, q2, q3, q4⟩ = y := ⟨_, rfl⟩
  rw [hy] at hv R0 R1 R2 T0 T1 T2 Z0 Z1 Z2 x0 x1 x2 x3 x4 x5
  dsimp only [Wn.val] at hv R0 R1 R2 T0 T1 T2 Z0 Z1 Z2 x0 x1 x2 x3 x4 x5
  simp only [Int.one_mul, Int.mul_assoc] at x0 x1 x2 x3 x4 x5
  rw [show (1000000 : Int) * 1000000 = 1000000000000 by decide] at x0 x1 x4 x5
  obtain ⟨n0, n1⟩ := mul_bd (1000000 - m0) (1000000 - m2) 1000000 1000000 (by omega) (by omega) (by omega) (by omega)
  obtain ⟨n2, n3⟩ := mul_bd (1000000 - m1) (1000000 - m3) 1000000 1000000 (by omega) (by omega) (by omega) (by omega)
  have n4 : 0 < (1000000 - m0) * (1000000 - m2) := Int.mul_pos (by omega) (by omega)
  obtain ⟨LL, hLL⟩ : ∃ m, (1000000 - m0) * (1000000 - m2) = m := ⟨_, rfl⟩
  obtain ⟨GG, hGG⟩ : ∃ m, (1000000 - m1) * (1000000 - m3) = m := ⟨_, rfl⟩
  rw [hLL] at n0 n1 n4 x0 x1 x2 x3 x4 x5
  rw [hGG] at n2 n3 x2 x3
  obtain ⟨r0, r1⟩ := mul_bd pv LL 100000 1000000000000 (by omega) (by omega) (by omega) (by omega)
  obtain ⟨r2, r3⟩ := mul_bd ps GG 10000 1000000000000 (by omega) (by omega) (by omega) (by omega)
  have hO : ∀ (b : Nat) (w : World), w.cell? ⟨b, 0, none⟩ = some (.int .i64 p0) → w.cell? ⟨b, 1, none⟩ = some (.int .i64 p1) → w.cell? ⟨b, 2, none⟩ = some (.int .i64 p2) → w.cell? ⟨b, 3, none⟩ = some (.int .i64 p3) → w.cell? ⟨b, 4, none⟩ = some (.int .i64 p4) → w.cell? ⟨b, 5, none⟩ = some (.int .i64 q0) → w.cell? ⟨b, 6, none⟩ = some (.int .i64 q1) → w.cell? ⟨b, 7, none⟩ = some (.int .i64 q2) → w.cell? ⟨b, 8, none⟩ = some (.int .i64 q3) → w.cell? ⟨b, 9, none⟩ = some (.int .i64 q4) → Calls Try.prog 44 #[.agg #[.int .i64 v0, .int .i64 v1, .int .i64 s0, .int .i64 s1, .int .i64 c0, .int .i64 c1], .slice (some ⟨b, 0, none⟩) 2 2] w fun e w' => e = .returned (.tuple #[.agg #[.int .i64 e0, .int .i64 e1, .int .i64 e2, .int .i64 e3, .int .i64 e4, .int .i64 e5], .int .i64 0, .int .i64 0]) ∧ Below w.heap.size w w' := fun b w cl0 cl1 cl2 cl3 cl4 cl5 cl6 cl7 cl8 cl9 => by
    have := over_any (two ⟨p0, p1, p2, p3, p4⟩ ⟨q0, q1, q2, q3, q4⟩) ⟨v0, v1, s0, s1, c0, c1⟩ 2 2 b 0 w (by omega) (by
      intro k j hk hj
      match k, j, hk, hj with
      | 0, 0, _, _ => exact cl0
      | 0, 1, _, _ => exact cl1
      | 0, 2, _, _ => exact cl2
      | 0, 3, _, _ => exact cl3
      | 0, 4, _, _ => exact cl4
      | 1, 0, _, _ => exact cl5
      | 1, 1, _, _ => exact cl6
      | 1, 2, _, _ => exact cl7
      | 1, 3, _, _ => exact cl8
      | 1, 4, _, _ => exact cl9)
    rw [hv] at this
    exact this
  exact spells_fine fawake_any v0 v1 s0 s1 c0 c1 p0 p1 p2 p3 p4 q0 q1 q2 q3 q4 b0 b1 b2 b3 t0 t1 t2 t3 t4 e0 e1 e2 e3 e4 e5 pv ps pc f0 f1 y0 y1 m0 m1 m2 m3 (1000000 - m0) (1000000 - m1) (1000000 - m2) (1000000 - m3) (1000000 - m0) (1000000 - m1) LL GG (pv * LL) (ps * GG) (pc * 1000000000000) w k0 k1 k2 k3 k4 hO hp0 hp1 hp2 hp3 hp4 hp5 hp6
    (by rw [hm0]; exact IntWalk.i64_in _ (by omega)) (IntWalk.i64_in _ (by omega)) (IntWalk.i64_in _ (by omega)) (by rw [hm1]; exact IntWalk.i64_in _ (by omega)) (IntWalk.i64_in _ (by omega)) (IntWalk.i64_in _ (by omega)) (by rw [hm2]; exact IntWalk.i64_in _ (by omega)) (IntWalk.i64_in _ (by omega)) (by rw [hLL]; exact IntWalk.i64_in _ (by omega)) (by rw [hm3]; exact IntWalk.i64_in _ (by omega)) (IntWalk.i64_in _ (by omega)) (by rw [hGG]; exact IntWalk.i64_in _ (by omega)) (IntWalk.i64_in _ (by omega)) (IntWalk.i64_in _ (by omega)) (IntWalk.i64_in _ (by omega))
    (fbet _ _ _ _ (by omega) (by omega) (by omega) (by omega) R0 R1 R2 x0 x1) (fbet _ _ _ _ (by omega) (by omega) (by omega) (by omega) T0 T1 (by omega) x2 x3) (fbet _ _ _ _ (by omega) (by omega) (by omega) (by omega) Z0 Z1 Z2 x4 x5)
theorem topFlorSpells_holds : Rows.TopFlorSpellsSaid :=
  TopFlorSpells.over (fun v0 v1 s0 s1 c0 c1 p0 p1 p2 p3 p4 q0 q1 q2 q3 q4 b0 b1 b2 b3 t0 t1 t2 t3 t4 w _ => spells_walk v0 v1 s0 s1 c0 c1 p0 p1 p2 p3 p4 q0 q1 q2 q3 q4 b0 b1 b2 b3 t0 t1 t2 t3 t4 w)
end Go.Proofs.Ytcpkoapkmjcigaa
