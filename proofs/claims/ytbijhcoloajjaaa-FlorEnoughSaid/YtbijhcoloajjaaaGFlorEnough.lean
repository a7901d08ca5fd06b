/- FOR EVERY INPUT THE LAW FlorEnough ANSWERS TRUE: with the greater number of decilitres that are told the fortified wine surely has the target, with one less it does not surely have it; with less than the lesser number none has it. No condition. -/
import Derived.Test.YtbijhcoloajjaaaZE
import Derived.Test.YtbijhcoloajjaaaLFlorEnough
namespace Go.Proofs.Ytbijhcoloajjaaa
open Go.RowKit

set_option maxHeartbeats 1000000 in
theorem reach_any (v o n st tg : Int) (w : World) (v0 : 0 ≤ v) (v1 : v ≤ 100000) (o0 : 0 ≤ o) (o1 : o ≤ 10000) (n0 : 0 ≤ n) (n1 : n ≤ 100000) (s0 : 0 ≤ st) (s1 : st ≤ 10000) (t0 : 0 ≤ tg) (t1 : tg ≤ 10000) :
    Calls Try.prog 22 #[.int .i64 v, .int .i64 o, .int .i64 n, .int .i64 st, .int .i64 tg] w fun e w' => e = .returned (.bool (decide (tg * (v + n) ≤ v * o + n * st))) ∧ w = w' := by
  obtain ⟨p0, p1⟩ := mul_bd v o 100000 10000 v0 v1 o0 o1
  obtain ⟨q0, q1⟩ := mul_bd n st 100000 10000 n0 n1 s0 s1
  obtain ⟨r0, r1⟩ := mul_bd tg (v + n) 10000 200000 t0 t1 (by omega) (by omega)
  go_enter Try.func22, Try.ntmps22
  go_wp2
  go_ret
  exact ⟨rfl, rfl⟩
theorem ce_pred (n d : Int) (hd : 0 < d) : (ce n d - 1) * d < n := by
  have h1 := Int.mul_ediv_add_emod (-n) d
  have h2 := Int.emod_nonneg (-n) (show d ≠ 0 by omega)
  have h3 := Int.emod_lt_of_pos (-n) hd
  have e : ce n d = -((-n) / d) := rfl
  rw [e]
  generalize (-n) / d = q at *
  have : (-q - 1) * d = -(d * q) - d := by rw [Int.sub_mul, Int.neg_mul, Int.one_mul, Int.mul_comm q d]
  omega
theorem nd_reach {v s st tg : Int} (h0 : 0 ≤ v) (ht : tg < st) : tg * (v + ndE v s st tg) ≤ v * s + ndE v s st tg * st := nd_enough h0 (Int.le_refl _) ht
theorem nd_less {v s st tg : Int} (ht : tg < st) (hn : ndE v s st tg ≠ 0) : ¬ tg * (v + (ndE v s st tg - 1)) ≤ v * s + (ndE v s st tg - 1) * st := by
  unfold ndE at hn ⊢
  split
  · rename_i h; rw [if_pos h] at hn; exact absurd rfl hn
  · have h2 := ce_pred (v * (tg - s)) (st - tg) (by omega)
    generalize ce (v * (tg - s)) (st - tg) - 1 = N at *
    have e1 : v * (tg - s) = v * tg - v * s := Int.mul_sub _ _ _
    have e2 : N * (st - tg) = N * st - N * tg := Int.mul_sub _ _ _
    rw [Int.mul_add, Int.mul_comm tg v, Int.mul_comm tg N]
    omega
theorem nd_mono {v v1 s s1 st tg : Int} (h0 : 0 ≤ v) (h1 : v ≤ v1) (hs : s ≤ s1) (ht : tg < st) : ndE v s1 st tg ≤ ndE v1 s st tg := by
  by_cases h : tg ≤ s1
  · have : ndE v s1 st tg = 0 := if_pos h
    rw [this]
    exact nd_nonneg (by omega) ht
  · have e1 : ndE v s1 st tg = ce (v * (tg - s1)) (st - tg) := if_neg h
    have e2 : ndE v1 s st tg = ce (v1 * (tg - s)) (st - tg) := if_neg (by omega)
    rw [e1, e2]
    refine ce_le (by omega) ?_
    have h2 := ce_mul (v1 * (tg - s)) (st - tg) (by omega)
    have h3 : v * (tg - s1) ≤ v1 * (tg - s) := Int.mul_le_mul h1 (by omega) (by omega) (by omega)
    omega
theorem reach_is {v o n st tg : Int} {b : Bool} (v0 : 0 ≤ v) (v1 : v ≤ 100000) (o0 : 0 ≤ o) (o1 : o ≤ 10000) (n0 : 0 ≤ n) (n1 : n ≤ 100000) (s0 : 0 ≤ st) (s1 : st ≤ 10000) (t0 : 0 ≤ tg) (t1 : tg ≤ 10000) (h : decide (tg * (v + n) ≤ v * o + n * st) = b) :
    ∀ w : World, Calls Try.prog 22 #[.int .i64 v, .int .i64 o, .int .i64 n, .int .i64 st, .int .i64 tg] w fun e w' => e = .returned (.bool b) ∧ Below w.heap.size w w' := fun w => by
  have := still_call (reach_any v o n st tg w v0 v1 o0 o1 n0 n1 s0 s1 t0 t1)
  rw [h] at this
  exact this
theorem mixR_two {y : Wn} {n st tg : Int} (hy : y.err = 0) (h0 : 0 ≤ st) (h2 : st ≤ 10000) (ht : tg < st) (hn : n = ndE y.v1 y.s0 st tg) (hn0 : 0 ≤ n) (h5 : n ≤ 100000) :
    ∃ z0 z1 z2 z3 z4 z5 ef, mixR (twoW y (spW n st)) 2 = .tuple #[.agg #[.int .i64 z0, .int .i64 z1, .int .i64 z2, .int .i64 z3, .int .i64 z4, .int .i64 z5], .int .i64 ef] ∧ (ef = 8 ∨ ef = 25 ∨ (ef = 0 ∧ tg ≤ z2)) := by
  have hv := two_right hy (spW_right hn0 h5 h0 h2)
  have hB : mixB (twoW y (spW n st)) 2 0 = 0 := mixB_zero 2 0 fun j _ hj => hv j (by omega)
  have hstr := fort_strong (st := st) (tg := tg) hy h2 ht
  rw [← hn] at hstr
  by_cases h6 : mixV (twoW y (spW n st)) 2 = 0
  · exact ⟨_, _, _, _, _, _, _, by rw [mixR, if_neg (by rw [hB]; decide), if_neg (by rw [h6]; decide)], .inr (.inr ⟨rfl, hstr⟩)⟩
  · exact ⟨_, _, _, _, _, _, _, by rw [mixR, if_neg (by rw [hB]; decide), if_pos h6], by rcases mixV_cases (twoW y (spW n st)) 2 with h | h | h <;> omega⟩
set_option maxRecDepth 100000 in
set_option maxHeartbeats 2000000 in
theorem enough_walk (v0 v1 s0 s1 c0 c1 st tg : Int) (w : World) :
    Calls Try.prog 6 #[.agg #[.int .i64 v0, .int .i64 v1, .int .i64 s0, .int .i64 s1, .int .i64 c0, .int .i64 c1], .int .i64 st, .int .i64 tg] w fun e w' => e = .returned (.bool true) ∧ Below w.heap.size w w' := by
  by_cases hz : wineE v0 v1 s0 s1 c0 c1 = 0 ∧ strE st = 0 ∧ strE tg = 0
  case neg =>
    refine enough_out v0 v1 s0 s1 c0 c1 st tg w awake_any ?_
    simp only [bne_iff_ne, ne_eq]
    by_cases h0 : wineE v0 v1 s0 s1 c0 c1 = 0
    case neg => exact .inl h0
    by_cases h1 : strE st = 0
    case neg => exact .inr (.inl h1)
    by_cases h2 : strE tg = 0
    case neg => exact .inr (.inr h2)
    exact absurd ⟨h0, h1, h2⟩ hz
  obtain ⟨z0, z1, z2⟩ := hz
  have k0 : (wineE v0 v1 s0 s1 c0 c1 != 0) = false := by rw [z0]; rfl
  have k1 : (strE st != 0) = false := by rw [z1]; rfl
  have k2 : (strE tg != 0) = false := by rw [z2]; rfl
  have hf : (firstE (wineE v0 v1 s0 s1 c0 c1) (strE st) (strE tg) != 0) = false := by rw [firstE_zero.2 ⟨z0, z1, z2⟩]; rfl
  rw [strE_zero] at z1 z2
  by_cases h4 : st ≤ tg
  · exact enough_none v0 v1 s0 s1 c0 c1 st tg _ w awake_any k0 k1 k2 (fun w => florSpirit_zero v0 v1 s0 s1 c0 c1 st tg w hf h4) (by decide)
  have h4 : tg < st := by omega
  by_cases h5 : 100000 < ndE v1 s0 st tg
  · exact enough_none v0 v1 s0 s1 c0 c1 st tg _ w awake_any k0 k1 k2 (fun w => florSpirit_large v0 v1 s0 s1 c0 c1 st tg w hf h4 h5) (by decide)
  have h5 : ndE v1 s0 st tg ≤ 100000 := by omega
  obtain ⟨⟨V0, V1, V2⟩, ⟨S0, S1, S2⟩, -⟩ := wineE_zero.1 z0
  have hS := fun w => florSpirit_fine v0 v1 s0 s1 c0 c1 st tg w hf h4 h5
  have g1 := nd_nonneg (v1 := v1) (s := s0) (st := st) (tg := tg) (by omega) h4
  have g0 := nd_nonneg (v1 := v0) (s := s1) (st := st) (tg := tg) (by omega) h4
  have l0 := nd_mono (v := v0) (v1 := v1) (s := s0) (s1 := s1) (st := st) (tg := tg) V0 V1 S1 h4
  obtain ⟨y0, y1, y2, y3, y4, y5, ef, hm, he⟩ := mixR_two (y := ⟨v0, v1, s0, s1, c0, c1⟩) (n := ndE v1 s0 st tg) (st := st) (tg := tg) z0 z1.1 z1.2 h4 rfl g1 h5
  have hF := fun w => fortified_any ⟨v0, v1, s0, s1, c0, c1⟩ (ndE v1 s0 st tg) st w
  rw [hm] at hF
  have e1 := nd_reach (v := v1) (s := s0) (st := st) (tg := tg) (by omega) h4
  have e3 := nd_reach (v := v0) (s := s1) (st := st) (tg := tg) V0 h4
  have i2 := fun h => nd_less (v := v1) (s := s0) (st := st) (tg := tg) h4 h
  have i4 := fun h => nd_less (v := v0) (s := s1) (st := st) (tg := tg) h4 h
  generalize ndE v1 s0 st tg = n1 at *
  generalize ndE v0 s1 st tg = n0 at *
  have hN : ∀ w : World, Calls Try.prog 14 #[.int .i64 n0, .int .i64 0, .int .i64 n1] w fun e w' => e = .returned (.bool true) ∧ w = w' := fun w => by
    have := within_any n0 0 n1 w
    rw [inB_yes g0 l0] at this
    exact this
  have hR1 := reach_is (v := v1) (o := s0) (n := n1) (st := st) (tg := tg) (by omega) V2 S0 (by omega) g1 h5 z1.1 z1.2 z2.1 z2.2 (decide_eq_true e1)
  have hR3 := reach_is (v := v0) (o := s1) (n := n0) (st := st) (tg := tg) V0 (by omega) (by omega) S2 g0 (by omega) z1.1 z1.2 z2.1 z2.2 (decide_eq_true e3)
  by_cases q1 : n1 = 0
  · have q0 : n0 = 0 := by omega
    subst q0
    subst q1
    exact enough_tt v0 v1 s0 s1 c0 c1 st tg y0 y1 y2 y3 y4 y5 ef w awake_any k0 k1 k2 hS hN hR1 hR3 hF he
  have hR2 := reach_is (v := v1) (o := s0) (n := n1 - 1) (st := st) (tg := tg) (by omega) V2 S0 (by omega) (by omega) (by omega) z1.1 z1.2 z2.1 z2.2 (decide_eq_false (i2 q1))
  by_cases q0 : n0 = 0
  · subst q0
    exact enough_ft v0 v1 s0 s1 c0 c1 st tg n1 y0 y1 y2 y3 y4 y5 ef w awake_any k0 k1 k2 hS hN h5 g1 hR1 hR2 hR3 hF (by simpa using q1) he
  have hR4 := reach_is (v := v0) (o := s1) (n := n0 - 1) (st := st) (tg := tg) V0 (by omega) (by omega) S2 (by omega) (by omega) z1.1 z1.2 z2.1 z2.2 (decide_eq_false (i4 q0))
  exact enough_ff v0 v1 s0 s1 c0 c1 st tg n0 n1 y0 y1 y2 y3 y4 y5 ef w awake_any k0 k1 k2 hS hN h5 g1 g0 l0 hR1 hR2 hR3 hR4 hF (by simpa using q1) (by simpa using q0) he
theorem florEnough_holds : Rows.FlorEnoughSaid :=
  FlorEnough.over (fun v0 v1 s0 s1 c0 c1 st tg w _ => enough_walk v0 v1 s0 s1 c0 c1 st tg w)
end Go.Proofs.Ytbijhcoloajjaaa
