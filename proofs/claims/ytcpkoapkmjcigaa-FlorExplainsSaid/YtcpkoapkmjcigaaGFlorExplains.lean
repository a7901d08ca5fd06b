/- FOR EVERY INPUT THE LAW FlorExplains ANSWERS TRUE: the program's Explains answers as the reference's for every rate and two measurements. No condition. -/
import Derived.Test.YtcpkoapkmjcigaaG0
import Derived.Test.YtcpkoapkmjcigaaF15
import Derived.Test.YtcpkoapkmjcigaaLFlorExplains
namespace Go.Proofs.Ytcpkoapkmjcigaa
open Go.RowKit

set_option maxHeartbeats 2000000 in
theorem expl_lm (a0 a1 g0 g1 da v0 v1 s0 s1 c0 c1 db u0 u1 r0 r1 q0 q1 n d : Int) (w : World)
    (hA : ∀ w : World, Calls Try.prog 20 #[] w fun e w' => e = .returned (.bool true) ∧ Below w.heap.size w w')
    (h1 : ∀ w : World, Calls Try.prog 40 #[.agg #[.int .i64 a0, .int .i64 a1, .int .i64 g0, .int .i64 g1], .agg #[.int .i64 da, .int .i64 v0, .int .i64 v1, .int .i64 s0, .int .i64 s1, .int .i64 c0, .int .i64 c1], .agg #[.int .i64 db, .int .i64 u0, .int .i64 u1, .int .i64 r0, .int .i64 r1, .int .i64 q0, .int .i64 q1]] w fun e w' => e = .returned (.tuple #[.int .i64 n, .int .i64 d]) ∧ Below w.heap.size w w')
    (h2 : ∀ w : World, Calls Try.prog 41 #[.agg #[.int .i64 a0, .int .i64 a1, .int .i64 g0, .int .i64 g1], .agg #[.int .i64 da, .int .i64 v0, .int .i64 v1, .int .i64 s0, .int .i64 s1, .int .i64 c0, .int .i64 c1], .agg #[.int .i64 db, .int .i64 u0, .int .i64 u1, .int .i64 r0, .int .i64 r1, .int .i64 q0, .int .i64 q1]] w fun e w' => e = .returned (.tuple #[.int .i64 n, .int .i64 d]) ∧ Below w.heap.size w w') :
    Calls Try.prog 8 #[.agg #[.int .i64 a0, .int .i64 a1, .int .i64 g0, .int .i64 g1], .agg #[.int .i64 da, .int .i64 v0, .int .i64 v1, .int .i64 s0, .int .i64 s1, .int .i64 c0, .int .i64 c1], .agg #[.int .i64 db, .int .i64 u0, .int .i64 u1, .int .i64 r0, .int .i64 r1, .int .i64 q0, .int .i64 q1]] w fun e w' => e = .returned (.bool true) ∧ Below w.heap.size w w' := by
  have HA := Lib.hid hA
  have H1 := Lib.hid h1
  have H2 := Lib.hid h2
  clear hA h1 h2
  go_enter Try.func8, Try.ntmps8
  go_upto_region 3 with (go_at_call 20; refine (HA.out _).mono ?_; rintro e w1 ⟨rfl, hb1⟩)
  refine nameWorld (fun w' => w'.cell? ⟨w.heap.size, 0, none⟩ = some (.int .i64 a0) ∧ w'.cell? ⟨w.heap.size, 1, none⟩ = some (.int .i64 a1) ∧ w'.cell? ⟨w.heap.size, 2, none⟩ = some (.int .i64 g0) ∧ w'.cell? ⟨w.heap.size, 3, none⟩ = some (.int .i64 g1) ∧ w'.cell? ⟨w.heap.size + 1, 0, none⟩ = some (.int .i64 da) ∧ w'.cell? ⟨w.heap.size + 1, 1, none⟩ = some (.int .i64 v0) ∧ w'.cell? ⟨w.heap.size + 1, 2, none⟩ = some (.int .i64 v1) ∧ w'.cell? ⟨w.heap.size + 1, 3, none⟩ = some (.int .i64 s0) ∧ w'.cell? ⟨w.heap.size + 1, 4, none⟩ = some (.int .i64 s1) ∧ w'.cell? ⟨w.heap.size + 1, 5, none⟩ = some (.int .i64 c0) ∧ w'.cell? ⟨w.heap.size + 1, 6, none⟩ = some (.int .i64 c1) ∧ w'.cell? ⟨w.heap.size + 1 + 1, 0, none⟩ = some (.int .i64 db) ∧ w'.cell? ⟨w.heap.size + 1 + 1, 1, none⟩ = some (.int .i64 u0) ∧ w'.cell? ⟨w.heap.size + 1 + 1, 2, none⟩ = some (.int .i64 u1) ∧ w'.cell? ⟨w.heap.size + 1 + 1, 3, none⟩ = some (.int .i64 r0) ∧ w'.cell? ⟨w.heap.size + 1 + 1, 4, none⟩ = some (.int .i64 r1) ∧ w'.cell? ⟨w.heap.size + 1 + 1, 5, none⟩ = some (.int .i64 q0) ∧ w'.cell? ⟨w.heap.size + 1 + 1, 6, none⟩ = some (.int .i64 q1) ∧ Below w.heap.size w w') (by refine ⟨?_, ?_, ?_, ?_, ?_, ?_, ?_, ?_, ?_, ?_, ?_, ?_, ?_, ?_, ?_, ?_, ?_, ?_, ?_⟩ <;> first | (exact keepC (by assumption) (by go_cell)) | (exact belowSeq (by assumption) (by (go_grown; done))) | (exact keepZ (by assumption) (by go_size))) (fun wc hc => ?_)
  obtain ⟨x0, x1, x2, x3, x4, x5, x6, x7, x8, x9, x10, x11, x12, x13, x14, x15, x16, x17, hB⟩ := hc
  clear hb1
  go_wp2_with (first | (go_at_call 40; (with_reducible refine Calls.mono (H1.out _) ?_); rintro e w2 ⟨rfl, hb2⟩; have y0 := keepC hb2 x0; have y1 := keepC hb2 x1; have y2 := keepC hb2 x2; have y3 := keepC hb2 x3; have y4 := keepC hb2 x4; have y5 := keepC hb2 x5; have y6 := keepC hb2 x6; have y7 := keepC hb2 x7; have y8 := keepC hb2 x8; have y9 := keepC hb2 x9; have y10 := keepC hb2 x10; have y11 := keepC hb2 x11; have y12 := keepC hb2 x12; have y13 := keepC hb2 x13; have y14 := keepC hb2 x14; have y15 := keepC hb2 x15; have y16 := keepC hb2 x16; have y17 := keepC hb2 x17; have hB2 := belowSeq hb2 hB) | (go_at_call 41; (with_reducible refine Calls.mono (H2.out _) ?_); rintro e w3 ⟨rfl, hb3⟩; have z0 := keepC hb3 y0; have z1 := keepC hb3 y1; have z2 := keepC hb3 y2; have z3 := keepC hb3 y3; have z4 := keepC hb3 y4; have z5 := keepC hb3 y5; have z6 := keepC hb3 y6; have z7 := keepC hb3 y7; have z8 := keepC hb3 y8; have z9 := keepC hb3 y9; have z10 := keepC hb3 y10; have z11 := keepC hb3 y11; have z12 := keepC hb3 y12; have z13 := keepC hb3 y13; have z14 := keepC hb3 y14; have z15 := keepC hb3 y15; have z16 := keepC hb3 y16; have z17 := keepC hb3 y17; have hB3 := belowSeq hb3 hB2))
  go_ret
  exact ⟨rfl, hB3⟩
theorem measE_zero {d v0 v1 s0 s1 c0 c1 : Int} : measE d v0 v1 s0 s1 c0 c1 = 0 ↔ (0 ≤ d ∧ d ≤ 100000) ∧ wineE v0 v1 s0 s1 c0 c1 = 0 := by
  rw [measE, firstE_zero]
  have : numE d 0 100000 = 0 ↔ 0 ≤ d ∧ d ≤ 100000 := by
    unfold numE; cases h : inB d 0 100000
    · simp [inB_no] at h ⊢; omega
    · simp [inB_iff] at h ⊢; omega
  simp [this]
theorem betR_zero {da db : Int} : betR da db = 0 ↔ 0 < db - da ∧ db - da ≤ 365 := by
  unfold betR
  by_cases h1 : db ≤ da <;> by_cases h2 : 365 < db - da <;> simp [h1, h2] <;> omega
set_option maxHeartbeats 1000000 in
theorem refExpl_fine (a0 a1 g0 g1 da v0 v1 s0 s1 c0 c1 db u0 u1 r0 r1 q0 q1 e0 e1 e2 e3 e4 e5 : Int) (hd : (firstE (rateE a0 a1 g0 g1) (measR da v0 v1 s0 s1 c0 c1) (measR db u0 u1 r0 r1 q0 q1) != 0) = false) (da0 : 0 ≤ da) (da1 : da ≤ 100000) (db0 : 0 ≤ db) (db1 : db ≤ 100000) (hb : ∀ w : World, Calls Try.prog 92 #[.agg #[.int .i64 da, .int .i64 v0, .int .i64 v1, .int .i64 s0, .int .i64 s1, .int .i64 c0, .int .i64 c1], .agg #[.int .i64 db, .int .i64 u0, .int .i64 u1, .int .i64 r0, .int .i64 r1, .int .i64 q0, .int .i64 q1]] w fun e w' => e = .returned (.int .i64 0) ∧ Below w.heap.size w w') (h1 : ∀ w : World, Calls Try.prog 30 #[.agg #[.int .i64 v0, .int .i64 v1, .int .i64 s0, .int .i64 s1, .int .i64 c0, .int .i64 c1], .agg #[.int .i64 a0, .int .i64 a1, .int .i64 g0, .int .i64 g1], .int .i64 (db - da)] w fun e w' => e = .returned (.tuple #[.agg #[.int .i64 e0, .int .i64 e1, .int .i64 e2, .int .i64 e3, .int .i64 e4, .int .i64 e5], .int .i64 0]) ∧ Below w.heap.size w w') (w : World) :
    Calls Try.prog 41 #[.agg #[.int .i64 a0, .int .i64 a1, .int .i64 g0, .int .i64 g1], .agg #[.int .i64 da, .int .i64 v0, .int .i64 v1, .int .i64 s0, .int .i64 s1, .int .i64 c0, .int .i64 c1], .agg #[.int .i64 db, .int .i64 u0, .int .i64 u1, .int .i64 r0, .int .i64 r1, .int .i64 q0, .int .i64 q1]] w fun e w' => e = .returned (.tuple #[.int .i64 (ans3 e0 e1 e2 e3 e4 e5 u0 u1 r0 r1 q0 q1), .int .i64 0]) ∧ Below w.heap.size w w' := by
  by_cases k0 : mn e1 u1 < mx e0 u0
  · rw [ans3, if_pos k0]
    exact refExpl_no a0 a1 g0 g1 da v0 v1 s0 s1 c0 c1 db u0 u1 r0 r1 q0 q1 w hd da0 da1 db0 db1 e0 e1 e2 e3 e4 e5 (mx e0 u0) (mn e1 u1) (mx e2 r0) (mn e3 r1) (mx e4 q0) (mn e5 q1) hb h1 (fun w => common_no0 e0 e1 e2 e3 e4 e5 u0 u1 r0 r1 q0 q1 w _ _ _ _ _ _ rfl rfl rfl rfl rfl rfl k0)
  by_cases k1 : mn e3 r1 < mx e2 r0
  · rw [ans3, if_neg k0, if_pos k1]
    exact refExpl_no a0 a1 g0 g1 da v0 v1 s0 s1 c0 c1 db u0 u1 r0 r1 q0 q1 w hd da0 da1 db0 db1 e0 e1 e2 e3 e4 e5 (mx e0 u0) (mn e1 u1) (mx e2 r0) (mn e3 r1) (mx e4 q0) (mn e5 q1) hb h1 (fun w => common_no1 e0 e1 e2 e3 e4 e5 u0 u1 r0 r1 q0 q1 w _ _ _ _ _ _ rfl rfl rfl rfl rfl rfl (by omega) k1)
  by_cases k2 : mn e5 q1 < mx e4 q0
  · rw [ans3, if_neg k0, if_neg k1, if_pos k2]
    exact refExpl_no a0 a1 g0 g1 da v0 v1 s0 s1 c0 c1 db u0 u1 r0 r1 q0 q1 w hd da0 da1 db0 db1 e0 e1 e2 e3 e4 e5 (mx e0 u0) (mn e1 u1) (mx e2 r0) (mn e3 r1) (mx e4 q0) (mn e5 q1) hb h1 (fun w => common_no2 e0 e1 e2 e3 e4 e5 u0 u1 r0 r1 q0 q1 w _ _ _ _ _ _ rfl rfl rfl rfl rfl rfl (by omega) (by omega) k2)
  have hc := fun w => common_yes e0 e1 e2 e3 e4 e5 u0 u1 r0 r1 q0 q1 w _ _ _ _ _ _ rfl rfl rfl rfl rfl rfl (by omega) (by omega) (by omega)
  rw [ans3, if_neg k0, if_neg k1, if_neg k2]
  rcases Classical.em (mx e0 u0 = e0) with kk0 | kk0
  rotate_left
  · have hi : inR e0 e1 u0 u1 = false := by
      rw [mx_eq] at kk0
      simp only [inR, Bool.and_eq_false_iff, decide_eq_false_iff_not]
      omega
    have hv : (if inR e4 e5 q0 q1 = true then (if inR e2 e3 r0 r1 = true then (if inR e0 e1 u0 u1 = true then (2 : Int) else 1) else 1) else 1) = 1 := by rw [hi]; simp
    rw [hv]
    exact refExpl_maybe0 a0 a1 g0 g1 da v0 v1 s0 s1 c0 c1 db u0 u1 r0 r1 q0 q1 w hd da0 da1 db0 db1 e0 e1 e2 e3 e4 e5 (mx e0 u0) (mn e1 u1) (mx e2 r0) (mn e3 r1) (mx e4 q0) (mn e5 q1) (by simpa using kk0) hb h1 hc
  rcases Classical.em (mn e1 u1 = e1) with kk1 | kk1
  rotate_left
  · have hi : inR e0 e1 u0 u1 = false := by
      rw [mn_eq] at kk1
      simp only [inR, Bool.and_eq_false_iff, decide_eq_false_iff_not]
      omega
    rw [kk0] at hc
    have hv : (if inR e4 e5 q0 q1 = true then (if inR e2 e3 r0 r1 = true then (if inR e0 e1 u0 u1 = true then (2 : Int) else 1) else 1) else 1) = 1 := by rw [hi]; simp
    rw [hv]
    exact refExpl_maybe1 a0 a1 g0 g1 da v0 v1 s0 s1 c0 c1 db u0 u1 r0 r1 q0 q1 w hd da0 da1 db0 db1 e0 e1 e2 e3 e4 e5 (mx e0 u0) (mn e1 u1) (mx e2 r0) (mn e3 r1) (mx e4 q0) (mn e5 q1) (by simpa using kk1) hb h1 hc
  rcases Classical.em (mx e2 r0 = e2) with kk2 | kk2
  rotate_left
  · have hi : inR e2 e3 r0 r1 = false := by
      rw [mx_eq] at kk2
      simp only [inR, Bool.and_eq_false_iff, decide_eq_false_iff_not]
      omega
    rw [kk0] at hc
    rw [kk1] at hc
    have hv : (if inR e4 e5 q0 q1 = true then (if inR e2 e3 r0 r1 = true then (if inR e0 e1 u0 u1 = true then (2 : Int) else 1) else 1) else 1) = 1 := by rw [hi]; simp
    rw [hv]
    exact refExpl_maybe2 a0 a1 g0 g1 da v0 v1 s0 s1 c0 c1 db u0 u1 r0 r1 q0 q1 w hd da0 da1 db0 db1 e0 e1 e2 e3 e4 e5 (mx e0 u0) (mn e1 u1) (mx e2 r0) (mn e3 r1) (mx e4 q0) (mn e5 q1) (by simpa using kk2) hb h1 hc
  rcases Classical.em (mn e3 r1 = e3) with kk3 | kk3
  rotate_left
  · have hi : inR e2 e3 r0 r1 = false := by
      rw [mn_eq] at kk3
      simp only [inR, Bool.and_eq_false_iff, decide_eq_false_iff_not]
      omega
    rw [kk0] at hc
    rw [kk1] at hc
    rw [kk2] at hc
    have hv : (if inR e4 e5 q0 q1 = true then (if inR e2 e3 r0 r1 = true then (if inR e0 e1 u0 u1 = true then (2 : Int) else 1) else 1) else 1) = 1 := by rw [hi]; simp
    rw [hv]
    exact refExpl_maybe3 a0 a1 g0 g1 da v0 v1 s0 s1 c0 c1 db u0 u1 r0 r1 q0 q1 w hd da0 da1 db0 db1 e0 e1 e2 e3 e4 e5 (mx e0 u0) (mn e1 u1) (mx e2 r0) (mn e3 r1) (mx e4 q0) (mn e5 q1) (by simpa using kk3) hb h1 hc
  rcases Classical.em (mx e4 q0 = e4) with kk4 | kk4
  rotate_left
  · have hi : inR e4 e5 q0 q1 = false := by
      rw [mx_eq] at kk4
      simp only [inR, Bool.and_eq_false_iff, decide_eq_false_iff_not]
      omega
    rw [kk0] at hc
    rw [kk1] at hc
    rw [kk2] at hc
    rw [kk3] at hc
    have hv : (if inR e4 e5 q0 q1 = true then (if inR e2 e3 r0 r1 = true then (if inR e0 e1 u0 u1 = true then (2 : Int) else 1) else 1) else 1) = 1 := by rw [hi]; simp
    rw [hv]
    exact refExpl_maybe4 a0 a1 g0 g1 da v0 v1 s0 s1 c0 c1 db u0 u1 r0 r1 q0 q1 w hd da0 da1 db0 db1 e0 e1 e2 e3 e4 e5 (mx e0 u0) (mn e1 u1) (mx e2 r0) (mn e3 r1) (mx e4 q0) (mn e5 q1) (by simpa using kk4) hb h1 hc
  rcases Classical.em (mn e5 q1 = e5) with kk5 | kk5
  rotate_left
  · have hi : inR e4 e5 q0 q1 = false := by
      rw [mn_eq] at kk5
      simp only [inR, Bool.and_eq_false_iff, decide_eq_false_iff_not]
      omega
    rw [kk0] at hc
    rw [kk1] at hc
    rw [kk2] at hc
    rw [kk3] at hc
    rw [kk4] at hc
    have hv : (if inR e4 e5 q0 q1 = true then (if inR e2 e3 r0 r1 = true then (if inR e0 e1 u0 u1 = true then (2 : Int) else 1) else 1) else 1) = 1 := by rw [hi]; simp
    rw [hv]
    exact refExpl_maybe5 a0 a1 g0 g1 da v0 v1 s0 s1 c0 c1 db u0 u1 r0 r1 q0 q1 w hd da0 da1 db0 db1 e0 e1 e2 e3 e4 e5 (mx e0 u0) (mn e1 u1) (mx e2 r0) (mn e3 r1) (mx e4 q0) (mn e5 q1) (by simpa using kk5) hb h1 hc
  have i0 : inR e0 e1 u0 u1 = true := by
    rw [mx_eq] at kk0
    rw [mn_eq] at kk1
    simp only [inR, Bool.and_eq_true, decide_eq_true_eq]
    exact ⟨kk0, kk1⟩
  have i1 : inR e2 e3 r0 r1 = true := by
    rw [mx_eq] at kk2
    rw [mn_eq] at kk3
    simp only [inR, Bool.and_eq_true, decide_eq_true_eq]
    exact ⟨kk2, kk3⟩
  have i2 : inR e4 e5 q0 q1 = true := by
    rw [mx_eq] at kk4
    rw [mn_eq] at kk5
    simp only [inR, Bool.and_eq_true, decide_eq_true_eq]
    exact ⟨kk4, kk5⟩
  rw [kk0] at hc
  rw [kk1] at hc
  rw [kk2] at hc
  rw [kk3] at hc
  rw [kk4] at hc
  rw [kk5] at hc
  rw [i2, i1, i0]
  exact refExpl_yes a0 a1 g0 g1 da v0 v1 s0 s1 c0 c1 db u0 u1 r0 r1 q0 q1 w hd da0 da1 db0 db1 e0 e1 e2 e3 e4 e5 (mx e0 u0) (mn e1 u1) (mx e2 r0) (mn e3 r1) (mx e4 q0) (mn e5 q1) hb h1 hc
theorem expl_both (a0 a1 g0 g1 da v0 v1 s0 s1 c0 c1 db u0 u1 r0 r1 q0 q1 : Int) : ∃ n d : Int, (∀ w : World, Calls Try.prog 40 #[.agg #[.int .i64 a0, .int .i64 a1, .int .i64 g0, .int .i64 g1], .agg #[.int .i64 da, .int .i64 v0, .int .i64 v1, .int .i64 s0, .int .i64 s1, .int .i64 c0, .int .i64 c1], .agg #[.int .i64 db, .int .i64 u0, .int .i64 u1, .int .i64 r0, .int .i64 r1, .int .i64 q0, .int .i64 q1]] w fun e w' => e = .returned (.tuple #[.int .i64 n, .int .i64 d]) ∧ Below w.heap.size w w') ∧ (∀ w : World, Calls Try.prog 41 #[.agg #[.int .i64 a0, .int .i64 a1, .int .i64 g0, .int .i64 g1], .agg #[.int .i64 da, .int .i64 v0, .int .i64 v1, .int .i64 s0, .int .i64 s1, .int .i64 c0, .int .i64 c1], .agg #[.int .i64 db, .int .i64 u0, .int .i64 u1, .int .i64 r0, .int .i64 r1, .int .i64 q0, .int .i64 q1]] w fun e w' => e = .returned (.tuple #[.int .i64 n, .int .i64 d]) ∧ Below w.heap.size w w') := by
  have hm1 := measR_eq da v0 v1 s0 s1 c0 c1
  have hm2 := measR_eq db u0 u1 r0 r1 q0 q1
  by_cases hA : firstE (rateE a0 a1 g0 g1) (measE da v0 v1 s0 s1 c0 c1) (measE db u0 u1 r0 r1 q0 q1) = 0
  rotate_left
  · have e1 : first4 (rateE a0 a1 g0 g1) (measE da v0 v1 s0 s1 c0 c1) (measE db u0 u1 r0 r1 q0 q1) (betE da db) = firstE (rateE a0 a1 g0 g1) (measE da v0 v1 s0 s1 c0 c1) (measE db u0 u1 r0 r1 q0 q1) := by rw [first4, if_pos hA]
    have e2 : firstE (rateE a0 a1 g0 g1) (measR da v0 v1 s0 s1 c0 c1) (measR db u0 u1 r0 r1 q0 q1) = firstE (rateE a0 a1 g0 g1) (measE da v0 v1 s0 s1 c0 c1) (measE db u0 u1 r0 r1 q0 q1) := by rw [hm1, hm2]
    refine ⟨0, firstE (rateE a0 a1 g0 g1) (measE da v0 v1 s0 s1 c0 c1) (measE db u0 u1 r0 r1 q0 q1), fun w => ?_, fun w => ?_⟩
    · have := florExpl_err a0 a1 g0 g1 da v0 v1 s0 s1 c0 c1 db u0 u1 r0 r1 q0 q1 w (by rw [e1]; simpa using hA)
      rwa [e1] at this
    · have := refExpl_err a0 a1 g0 g1 da v0 v1 s0 s1 c0 c1 db u0 u1 r0 r1 q0 q1 w (by rw [e2]; simpa using hA)
      rwa [e2] at this
  have hR : (firstE (rateE a0 a1 g0 g1) (measR da v0 v1 s0 s1 c0 c1) (measR db u0 u1 r0 r1 q0 q1) != 0) = false := by rw [hm1, hm2, hA]; rfl
  have hz := hA
  rw [firstE_zero, rateE_zero, measE_zero, measE_zero] at hz
  obtain ⟨⟨⟨A0, A1, A2⟩, ⟨G0, G1, G2⟩⟩, ⟨⟨da0, da1⟩, W1⟩, ⟨db0, db1⟩, W2⟩ := hz
  rw [wineE_zero] at W1 W2
  obtain ⟨⟨V0, V1, V2⟩, ⟨S0, S1, S2⟩, ⟨C0, C1, C2⟩⟩ := W1
  have hbe := betE_eq da db da0 da1 db0 db1
  have hB := fun w => betweenErr_any da v0 v1 s0 s1 c0 c1 db u0 u1 r0 r1 q0 q1 w da0 da1 db0 db1
  by_cases hb : betR da db = 0
  rotate_left
  · have e1 : first4 (rateE a0 a1 g0 g1) (measE da v0 v1 s0 s1 c0 c1) (measE db u0 u1 r0 r1 q0 q1) (betE da db) = betR da db := by rw [first4, if_neg (by simpa using hA), hbe]
    refine ⟨0, betR da db, fun w => ?_, fun w => ?_⟩
    · have := florExpl_err a0 a1 g0 g1 da v0 v1 s0 s1 c0 c1 db u0 u1 r0 r1 q0 q1 w (by rw [e1]; simpa using hb)
      rwa [e1] at this
    · exact refExpl_between a0 a1 g0 g1 da v0 v1 s0 s1 c0 c1 db u0 u1 r0 r1 q0 q1 w hR _ (by simpa using hb) hB
  have hF : (first4 (rateE a0 a1 g0 g1) (measE da v0 v1 s0 s1 c0 c1) (measE db u0 u1 r0 r1 q0 q1) (betE da db) != 0) = false := by rw [first4, if_neg (by simpa using hA), hbe, hb]; rfl
  rw [hb] at hB
  obtain ⟨D0, D1⟩ := betR_zero.1 hb
  have h52 : ∀ w : World, Calls Try.prog 77 #[.agg #[.int .i64 v0, .int .i64 v1, .int .i64 s0, .int .i64 s1, .int .i64 c0, .int .i64 c1], .agg #[.int .i64 a0, .int .i64 a1, .int .i64 g0, .int .i64 g1], .int .i64 (db - da)] w fun e w' => e = .returned (aftR v0 v1 s0 s1 c0 c1 a0 a1 g0 g1 (db - da)) ∧ Below w.heap.size w w' := fun w => chkAfter_any v0 v1 s0 s1 c0 c1 a0 a1 g0 g1 (db - da) w (by omega) (by omega) (by omega) (by omega) (by omega) (by omega) (by omega) (by omega) (by omega) (by omega) (by omega) (by omega) (by omega) (by omega) (by omega) (by omega) (by omega) (by omega) (by omega) (by omega) (by omega) (by omega)
  have h23 : ∀ w : World, Calls Try.prog 30 #[.agg #[.int .i64 v0, .int .i64 v1, .int .i64 s0, .int .i64 s1, .int .i64 c0, .int .i64 c1], .agg #[.int .i64 a0, .int .i64 a1, .int .i64 g0, .int .i64 g1], .int .i64 (db - da)] w fun e w' => e = .returned (aftR v0 v1 s0 s1 c0 c1 a0 a1 g0 g1 (db - da)) ∧ Below w.heap.size w w' := fun w => after_any v0 v1 s0 s1 c0 c1 a0 a1 g0 g1 (db - da) w (by omega) (by omega) (by omega) (by omega) (by omega) (by omega) (by omega) (by omega) (by omega) (by omega) (by omega) (by omega) (by omega) (by omega) (by omega) (by omega) (by omega) (by omega) (by omega) (by omega) (by omega) (by omega)
  by_cases hl : 10000 < ce (s1 * lft g0 (db - da)) (lft a1 (db - da)) ∨ 100000 < ce (c1 * 1000000) (lft a1 (db - da))
  · have eR : aftR v0 v1 s0 s1 c0 c1 a0 a1 g0 g1 (db - da) = .tuple #[.agg #[.int .i64 0, .int .i64 0, .int .i64 0, .int .i64 0, .int .i64 0, .int .i64 0], .int .i64 8] := if_pos hl
    rw [eR] at h52 h23
    exact ⟨0, 8, fun w => florExpl_large a0 a1 g0 g1 da v0 v1 s0 s1 c0 c1 db u0 u1 r0 r1 q0 q1 w hF da0 da1 db0 db1 8 rfl h52, fun w => refExpl_large a0 a1 g0 g1 da v0 v1 s0 s1 c0 c1 db u0 u1 r0 r1 q0 q1 w hR da0 da1 db0 db1 8 rfl hB h23⟩
  · have eR : aftR v0 v1 s0 s1 c0 c1 a0 a1 g0 g1 (db - da) = .tuple #[.agg #[.int .i64 (fl (v0 * lft a1 (db - da)) 1000000), .int .i64 (ce (v1 * lft a0 (db - da)) 1000000), .int .i64 (fl (s0 * lft g1 (db - da)) (lft a0 (db - da))), .int .i64 (ce (s1 * lft g0 (db - da)) (lft a1 (db - da))), .int .i64 (fl (c0 * 1000000) (lft a0 (db - da))), .int .i64 (ce (c1 * 1000000) (lft a1 (db - da)))], .int .i64 0] := if_neg hl
    rw [eR] at h52 h23
    exact ⟨_, 0, fun w => florExpl_fine a0 a1 g0 g1 da v0 v1 s0 s1 c0 c1 db u0 u1 r0 r1 q0 q1 w hF da0 da1 db0 db1 _ _ _ _ _ _ h52, fun w => refExpl_fine a0 a1 g0 g1 da v0 v1 s0 s1 c0 c1 db u0 u1 r0 r1 q0 q1 _ _ _ _ _ _ hR da0 da1 db0 db1 hB h23 w⟩
theorem florExplains_holds : Rows.FlorExplainsSaid :=
  FlorExplains.over (fun a0 a1 g0 g1 da v0 v1 s0 s1 c0 c1 db u0 u1 r0 r1 q0 q1 w _ => by
    obtain ⟨n, d, h1, h2⟩ := expl_both a0 a1 g0 g1 da v0 v1 s0 s1 c0 c1 db u0 u1 r0 r1 q0 q1
    exact expl_lm a0 a1 g0 g1 da v0 v1 s0 s1 c0 c1 db u0 u1 r0 r1 q0 q1 n d w awake_any h1 h2)
end Go.Proofs.Ytcpkoapkmjcigaa
