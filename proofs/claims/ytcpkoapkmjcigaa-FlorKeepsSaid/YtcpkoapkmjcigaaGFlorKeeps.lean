/- FOR EVERY INPUT THE LAW FlorKeeps ANSWERS TRUE: the program's SafeDays and LegalIs answer as the reference's for every wine, rate and law. No condition. -/
import Derived.Test.YtcpkoapkmjcigaaG0
import Derived.Test.YtcpkoapkmjcigaaF12
import Derived.Test.YtcpkoapkmjcigaaLFlorKeeps
namespace Go.Proofs.Ytcpkoapkmjcigaa
open Go.RowKit

set_option maxHeartbeats 2000000 in
theorem keeps_lm (v0 v1 s0 s1 c0 c1 a0 a1 g0 g1 p0 p1 q0 q1 n d k c : Int) (w : World)
    (hA : ∀ w : World, Calls Try.prog 20 #[] w fun e w' => e = .returned (.bool true) ∧ Below w.heap.size w w')
    (h1 : ∀ w : World, Calls Try.prog 36 #[.agg #[.int .i64 v0, .int .i64 v1, .int .i64 s0, .int .i64 s1, .int .i64 c0, .int .i64 c1], .agg #[.int .i64 a0, .int .i64 a1, .int .i64 g0, .int .i64 g1], .int .i64 p0] w fun e w' => e = .returned (.tuple #[.int .i64 n, .int .i64 d]) ∧ Below w.heap.size w w')
    (h2 : ∀ w : World, Calls Try.prog 37 #[.agg #[.int .i64 v0, .int .i64 v1, .int .i64 s0, .int .i64 s1, .int .i64 c0, .int .i64 c1], .agg #[.int .i64 p0, .int .i64 p1, .int .i64 q0, .int .i64 q1]] w fun e w' => e = .returned (.tuple #[.int .i64 k, .int .i64 c]) ∧ Below w.heap.size w w')
    (h3 : ∀ w : World, Calls Try.prog 38 #[.agg #[.int .i64 v0, .int .i64 v1, .int .i64 s0, .int .i64 s1, .int .i64 c0, .int .i64 c1], .agg #[.int .i64 a0, .int .i64 a1, .int .i64 g0, .int .i64 g1], .int .i64 p0] w fun e w' => e = .returned (.tuple #[.int .i64 n, .int .i64 d]) ∧ Below w.heap.size w w')
    (h4 : ∀ w : World, Calls Try.prog 39 #[.agg #[.int .i64 v0, .int .i64 v1, .int .i64 s0, .int .i64 s1, .int .i64 c0, .int .i64 c1], .agg #[.int .i64 p0, .int .i64 p1, .int .i64 q0, .int .i64 q1]] w fun e w' => e = .returned (.tuple #[.int .i64 k, .int .i64 c]) ∧ Below w.heap.size w w') :
    Calls Try.prog 7 #[.agg #[.int .i64 v0, .int .i64 v1, .int .i64 s0, .int .i64 s1, .int .i64 c0, .int .i64 c1], .agg #[.int .i64 a0, .int .i64 a1, .int .i64 g0, .int .i64 g1], .agg #[.int .i64 p0, .int .i64 p1, .int .i64 q0, .int .i64 q1]] w fun e w' => e = .returned (.bool true) ∧ Below w.heap.size w w' := by
  have HA := Lib.hid hA
  have H1 := Lib.hid h1
  have H2 := Lib.hid h2
  have H3 := Lib.hid h3
  have H4 := Lib.hid h4
  clear hA h1 h2 h3 h4
  go_enter Try.func7, Try.ntmps7
  go_upto_region 3 with (go_at_call 20; refine (HA.out _).mono ?_; rintro e w1 ⟨rfl, hb1⟩)
  refine nameWorld (fun w' => w'.cell? ⟨w.heap.size, 0, none⟩ = some (.int .i64 v0) ∧ w'.cell? ⟨w.heap.size, 1, none⟩ = some (.int .i64 v1) ∧ w'.cell? ⟨w.heap.size, 2, none⟩ = some (.int .i64 s0) ∧ w'.cell? ⟨w.heap.size, 3, none⟩ = some (.int .i64 s1) ∧ w'.cell? ⟨w.heap.size, 4, none⟩ = some (.int .i64 c0) ∧ w'.cell? ⟨w.heap.size, 5, none⟩ = some (.int .i64 c1) ∧ w'.cell? ⟨w.heap.size + 1, 0, none⟩ = some (.int .i64 a0) ∧ w'.cell? ⟨w.heap.size + 1, 1, none⟩ = some (.int .i64 a1) ∧ w'.cell? ⟨w.heap.size + 1, 2, none⟩ = some (.int .i64 g0) ∧ w'.cell? ⟨w.heap.size + 1, 3, none⟩ = some (.int .i64 g1) ∧ w'.cell? ⟨w.heap.size + 1 + 1, 0, none⟩ = some (.int .i64 p0) ∧ w'.cell? ⟨w.heap.size + 1 + 1, 1, none⟩ = some (.int .i64 p1) ∧ w'.cell? ⟨w.heap.size + 1 + 1, 2, none⟩ = some (.int .i64 q0) ∧ w'.cell? ⟨w.heap.size + 1 + 1, 3, none⟩ = some (.int .i64 q1) ∧ Below w.heap.size w w') (by refine ⟨?_, ?_, ?_, ?_, ?_, ?_, ?_, ?_, ?_, ?_, ?_, ?_, ?_, ?_, ?_⟩ <;> first | (exact keepC (by assumption) (by go_cell)) | (exact belowSeq (by assumption) (by (go_grown; done))) | (exact keepZ (by assumption) (by go_size))) (fun wc hc => ?_)
  obtain ⟨x0, x1, x2, x3, x4, x5, x6, x7, x8, x9, x10, x11, x12, x13, hB⟩ := hc
  clear hb1
  go_wp2_with (first | (go_at_call 36; (with_reducible refine Calls.mono (H1.out _) ?_); rintro e w2 ⟨rfl, hb2⟩; have y0 := keepC hb2 x0; have y1 := keepC hb2 x1; have y2 := keepC hb2 x2; have y3 := keepC hb2 x3; have y4 := keepC hb2 x4; have y5 := keepC hb2 x5; have y6 := keepC hb2 x6; have y7 := keepC hb2 x7; have y8 := keepC hb2 x8; have y9 := keepC hb2 x9; have y10 := keepC hb2 x10; have y11 := keepC hb2 x11; have y12 := keepC hb2 x12; have y13 := keepC hb2 x13; have hB2 := belowSeq hb2 hB) | (go_at_call 37; (with_reducible refine Calls.mono (H2.out _) ?_); rintro e w3 ⟨rfl, hb3⟩; have z0 := keepC hb3 y0; have z1 := keepC hb3 y1; have z2 := keepC hb3 y2; have z3 := keepC hb3 y3; have z4 := keepC hb3 y4; have z5 := keepC hb3 y5; have z6 := keepC hb3 y6; have z7 := keepC hb3 y7; have z8 := keepC hb3 y8; have z9 := keepC hb3 y9; have z10 := keepC hb3 y10; have z11 := keepC hb3 y11; have z12 := keepC hb3 y12; have z13 := keepC hb3 y13; have hB3 := belowSeq hb3 hB2) | (go_at_call 38; (with_reducible refine Calls.mono (H3.out _) ?_); rintro e w4 ⟨rfl, hb4⟩; have t0 := keepC hb4 z0; have t1 := keepC hb4 z1; have t2 := keepC hb4 z2; have t3 := keepC hb4 z3; have t4 := keepC hb4 z4; have t5 := keepC hb4 z5; have t6 := keepC hb4 z6; have t7 := keepC hb4 z7; have t8 := keepC hb4 z8; have t9 := keepC hb4 z9; have t10 := keepC hb4 z10; have t11 := keepC hb4 z11; have t12 := keepC hb4 z12; have t13 := keepC hb4 z13; have hB4 := belowSeq hb4 hB3) | (go_at_call 39; (with_reducible refine Calls.mono (H4.out _) ?_); rintro e w5 ⟨rfl, hb5⟩; have u0 := keepC hb5 t0; have u1 := keepC hb5 t1; have u2 := keepC hb5 t2; have u3 := keepC hb5 t3; have u4 := keepC hb5 t4; have u5 := keepC hb5 t5; have u6 := keepC hb5 t6; have u7 := keepC hb5 t7; have u8 := keepC hb5 t8; have u9 := keepC hb5 t9; have u10 := keepC hb5 t10; have u11 := keepC hb5 t11; have u12 := keepC hb5 t12; have u13 := keepC hb5 t13; have hB5 := belowSeq hb5 hB4))
  go_ret
  exact ⟨rfl, hB5⟩
theorem keeps_walk (v0 v1 s0 s1 c0 c1 a0 a1 g0 g1 p0 p1 q0 q1 : Int) (w : World) : Calls Try.prog 7 #[.agg #[.int .i64 v0, .int .i64 v1, .int .i64 s0, .int .i64 s1, .int .i64 c0, .int .i64 c1], .agg #[.int .i64 a0, .int .i64 a1, .int .i64 g0, .int .i64 g1], .agg #[.int .i64 p0, .int .i64 p1, .int .i64 q0, .int .i64 q1]] w fun e w' => e = .returned (.bool true) ∧ Below w.heap.size w w' := by
  have hS : ∃ n d : Int, (∀ w : World, Calls Try.prog 36 #[.agg #[.int .i64 v0, .int .i64 v1, .int .i64 s0, .int .i64 s1, .int .i64 c0, .int .i64 c1], .agg #[.int .i64 a0, .int .i64 a1, .int .i64 g0, .int .i64 g1], .int .i64 p0] w fun e w' => e = .returned (.tuple #[.int .i64 n, .int .i64 d]) ∧ Below w.heap.size w w') ∧ (∀ w : World, Calls Try.prog 38 #[.agg #[.int .i64 v0, .int .i64 v1, .int .i64 s0, .int .i64 s1, .int .i64 c0, .int .i64 c1], .agg #[.int .i64 a0, .int .i64 a1, .int .i64 g0, .int .i64 g1], .int .i64 p0] w fun e w' => e = .returned (.tuple #[.int .i64 n, .int .i64 d]) ∧ Below w.heap.size w w') := by
    cases h : (firstE (wineE v0 v1 s0 s1 c0 c1) (rateE a0 a1 g0 g1) (strE p0) != 0)
    · by_cases hl : s0 < p0
      · exact ⟨_, _, fun w => florSafe_break v0 v1 s0 s1 c0 c1 a0 a1 g0 g1 p0 w h hl, fun w => safe_break v0 v1 s0 s1 c0 c1 a0 a1 g0 g1 p0 w h hl⟩
      · obtain ⟨n, hn⟩ := safe_exists s0 a0 g1 p0
        exact ⟨_, _, fun w => florSafe_fine v0 v1 s0 s1 c0 c1 a0 a1 g0 g1 p0 w n h (by omega) hn, fun w => safe_fine v0 v1 s0 s1 c0 c1 a0 a1 g0 g1 p0 w n h (by omega) hn⟩
    · exact ⟨_, _, fun w => florSafe_wrong v0 v1 s0 s1 c0 c1 a0 a1 g0 g1 p0 w h, fun w => safe_wrong v0 v1 s0 s1 c0 c1 a0 a1 g0 g1 p0 w h⟩
  have hL : ∃ k c : Int, (∀ w : World, Calls Try.prog 37 #[.agg #[.int .i64 v0, .int .i64 v1, .int .i64 s0, .int .i64 s1, .int .i64 c0, .int .i64 c1], .agg #[.int .i64 p0, .int .i64 p1, .int .i64 q0, .int .i64 q1]] w fun e w' => e = .returned (.tuple #[.int .i64 k, .int .i64 c]) ∧ Below w.heap.size w w') ∧ (∀ w : World, Calls Try.prog 39 #[.agg #[.int .i64 v0, .int .i64 v1, .int .i64 s0, .int .i64 s1, .int .i64 c0, .int .i64 c1], .agg #[.int .i64 p0, .int .i64 p1, .int .i64 q0, .int .i64 q1]] w fun e w' => e = .returned (.tuple #[.int .i64 k, .int .i64 c]) ∧ Below w.heap.size w w') := by
    cases h : (firstE (wineE v0 v1 s0 s1 c0 c1) (lawE p0 p1 q0 q1) 0 != 0)
    · exact ⟨_, _, fun w => florLegal_right v0 v1 s0 s1 c0 c1 p0 p1 q0 q1 w h, fun w => legal_right v0 v1 s0 s1 c0 c1 p0 p1 q0 q1 w h⟩
    · exact ⟨_, _, fun w => florLegal_wrong v0 v1 s0 s1 c0 c1 p0 p1 q0 q1 w h, fun w => legal_wrong v0 v1 s0 s1 c0 c1 p0 p1 q0 q1 w h⟩
  obtain ⟨n, d, h1, h3⟩ := hS
  obtain ⟨k, c, h2, h4⟩ := hL
  exact keeps_lm v0 v1 s0 s1 c0 c1 a0 a1 g0 g1 p0 p1 q0 q1 n d k c w awake_any h1 h2 h3 h4
theorem florKeeps_holds : Rows.FlorKeepsSaid :=
  FlorKeeps.over (fun v0 v1 s0 s1 c0 c1 a0 a1 g0 g1 p0 p1 q0 q1 w _ => keeps_walk v0 v1 s0 s1 c0 c1 a0 a1 g0 g1 p0 p1 q0 q1 w)
end Go.Proofs.Ytcpkoapkmjcigaa
