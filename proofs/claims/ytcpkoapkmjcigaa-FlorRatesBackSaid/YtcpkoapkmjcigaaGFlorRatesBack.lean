/- FOR EVERY INPUT THE LAW FlorRatesBack ANSWERS TRUE: of a wine, and what it becomes by a rate, the program's RatesOf has this rate, and the rate explains what it makes. No condition. -/
import Derived.Test.YtcpkoapkmjcigaaG0
import Derived.Test.YtcpkoapkmjcigaaF10
import Derived.Test.YtcpkoapkmjcigaaF14
import Derived.Test.YtcpkoapkmjcigaaF16
import Derived.Test.YtcpkoapkmjcigaaF17
import Derived.Test.YtcpkoapkmjcigaaT2
import Derived.Test.YtcpkoapkmjcigaaLFlorRatesBack
namespace Go.Proofs.Ytcpkoapkmjcigaa
open Go.RowKit

set_option maxRecDepth 100000 in
set_option maxHeartbeats 4000000 in
theorem back_err (v0 v1 s0 s1 c0 c1 a0 a1 g0 g1 days d : Int) (w : World)
    (hA : ∀ w : World, Calls Try.prog 20 #[] w fun e w' => e = .returned (.bool true) ∧ Below w.heap.size w w')
    (hd : (d != 0) = true) (h1 : ∀ w : World, Calls Try.prog 29 #[.agg #[.int .i64 v0, .int .i64 v1, .int .i64 s0, .int .i64 s1, .int .i64 c0, .int .i64 c1], .agg #[.int .i64 a0, .int .i64 a1, .int .i64 g0, .int .i64 g1], .int .i64 days] w fun e w' => e = .returned (.int .i64 d) ∧ Below w.heap.size w w') :
    Calls Try.prog 10 #[.agg #[.int .i64 v0, .int .i64 v1, .int .i64 s0, .int .i64 s1, .int .i64 c0, .int .i64 c1], .agg #[.int .i64 a0, .int .i64 a1, .int .i64 g0, .int .i64 g1], .int .i64 days] w fun e w' => e = .returned (.bool true) ∧ Below w.heap.size w w' := by
  have HA := Lib.hid hA
  have H1 := Lib.hid h1
  clear hA h1
  go_enter Try.func10, Try.ntmps10
  go_upto_region 3 with (go_at_call 20; refine (HA.out _).mono ?_; rintro e w1 ⟨rfl, hb1⟩)
  refine nameWorld (fun w' => w'.cell? ⟨w.heap.size, 0, none⟩ = some (.int .i64 v0) ∧ w'.cell? ⟨w.heap.size, 1, none⟩ = some (.int .i64 v1) ∧ w'.cell? ⟨w.heap.size, 2, none⟩ = some (.int .i64 s0) ∧ w'.cell? ⟨w.heap.size, 3, none⟩ = some (.int .i64 s1) ∧ w'.cell? ⟨w.heap.size, 4, none⟩ = some (.int .i64 c0) ∧ w'.cell? ⟨w.heap.size, 5, none⟩ = some (.int .i64 c1) ∧ w'.cell? ⟨w.heap.size + 1, 0, none⟩ = some (.int .i64 a0) ∧ w'.cell? ⟨w.heap.size + 1, 1, none⟩ = some (.int .i64 a1) ∧ w'.cell? ⟨w.heap.size + 1, 2, none⟩ = some (.int .i64 g0) ∧ w'.cell? ⟨w.heap.size + 1, 3, none⟩ = some (.int .i64 g1) ∧ Below w.heap.size w w') (by refine ⟨?_, ?_, ?_, ?_, ?_, ?_, ?_, ?_, ?_, ?_, ?_⟩ <;> first | (exact keepC (by assumption) (by go_cell)) | (exact belowSeq (by assumption) (by (go_grown; done))) | (exact keepZ (by assumption) (by go_size))) (fun wc hc => ?_)
  obtain ⟨x0, x1, x2, x3, x4, x5, x6, x7, x8, x9, hB⟩ := hc
  clear hb1
  go_wp2_with (first | (go_at_call 29; (with_reducible refine Calls.mono (H1.out _) ?_); rintro e w2 ⟨rfl, hb2⟩; have y0 := keepC hb2 x0; have y1 := keepC hb2 x1; have y2 := keepC hb2 x2; have y3 := keepC hb2 x3; have y4 := keepC hb2 x4; have y5 := keepC hb2 x5; have y6 := keepC hb2 x6; have y7 := keepC hb2 x7; have y8 := keepC hb2 x8; have y9 := keepC hb2 x9; have hB2 := belowSeq hb2 hB; have hsw20 : w.heap.size < w2.heap.size := World.block_lt_of_cell? w2 _ y0; have hsw21 : w.heap.size + 1 < w2.heap.size := World.block_lt_of_cell? w2 _ y6))
  go_ret
  exact ⟨rfl, by first | exact hB2 | go_grown⟩
set_option maxRecDepth 100000 in
set_option maxHeartbeats 4000000 in
theorem back_days (v0 v1 s0 s1 c0 c1 a0 a1 g0 g1 days d : Int) (w : World)
    (hA : ∀ w : World, Calls Try.prog 20 #[] w fun e w' => e = .returned (.bool true) ∧ Below w.heap.size w w')
    (hd : (d != 0) = false) (k0 : (days == 0) = true) (h1 : ∀ w : World, Calls Try.prog 29 #[.agg #[.int .i64 v0, .int .i64 v1, .int .i64 s0, .int .i64 s1, .int .i64 c0, .int .i64 c1], .agg #[.int .i64 a0, .int .i64 a1, .int .i64 g0, .int .i64 g1], .int .i64 days] w fun e w' => e = .returned (.int .i64 d) ∧ Below w.heap.size w w') :
    Calls Try.prog 10 #[.agg #[.int .i64 v0, .int .i64 v1, .int .i64 s0, .int .i64 s1, .int .i64 c0, .int .i64 c1], .agg #[.int .i64 a0, .int .i64 a1, .int .i64 g0, .int .i64 g1], .int .i64 days] w fun e w' => e = .returned (.bool true) ∧ Below w.heap.size w w' := by
  have HA := Lib.hid hA
  have H1 := Lib.hid h1
  clear hA h1
  go_enter Try.func10, Try.ntmps10
  go_upto_region 3 with (go_at_call 20; refine (HA.out _).mono ?_; rintro e w1 ⟨rfl, hb1⟩)
  refine nameWorld (fun w' => w'.cell? ⟨w.heap.size, 0, none⟩ = some (.int .i64 v0) ∧ w'.cell? ⟨w.heap.size, 1, none⟩ = some (.int .i64 v1) ∧ w'.cell? ⟨w.heap.size, 2, none⟩ = some (.int .i64 s0) ∧ w'.cell? ⟨w.heap.size, 3, none⟩ = some (.int .i64 s1) ∧ w'.cell? ⟨w.heap.size, 4, none⟩ = some (.int .i64 c0) ∧ w'.cell? ⟨w.heap.size, 5, none⟩ = some (.int .i64 c1) ∧ w'.cell? ⟨w.heap.size + 1, 0, none⟩ = some (.int .i64 a0) ∧ w'.cell? ⟨w.heap.size + 1, 1, none⟩ = some (.int .i64 a1) ∧ w'.cell? ⟨w.heap.size + 1, 2, none⟩ = some (.int .i64 g0) ∧ w'.cell? ⟨w.heap.size + 1, 3, none⟩ = some (.int .i64 g1) ∧ Below w.heap.size w w') (by refine ⟨?_, ?_, ?_, ?_, ?_, ?_, ?_, ?_, ?_, ?_, ?_⟩ <;> first | (exact keepC (by assumption) (by go_cell)) | (exact belowSeq (by assumption) (by (go_grown; done))) | (exact keepZ (by assumption) (by go_size))) (fun wc hc => ?_)
  obtain ⟨x0, x1, x2, x3, x4, x5, x6, x7, x8, x9, hB⟩ := hc
  clear hb1
  go_wp2_with (first | (go_at_call 29; (with_reducible refine Calls.mono (H1.out _) ?_); rintro e w2 ⟨rfl, hb2⟩; have y0 := keepC hb2 x0; have y1 := keepC hb2 x1; have y2 := keepC hb2 x2; have y3 := keepC hb2 x3; have y4 := keepC hb2 x4; have y5 := keepC hb2 x5; have y6 := keepC hb2 x6; have y7 := keepC hb2 x7; have y8 := keepC hb2 x8; have y9 := keepC hb2 x9; have hB2 := belowSeq hb2 hB; have hsw20 : w.heap.size < w2.heap.size := World.block_lt_of_cell? w2 _ y0; have hsw21 : w.heap.size + 1 < w2.heap.size := World.block_lt_of_cell? w2 _ y6))
  go_ret
  exact ⟨rfl, by first | exact hB2 | go_grown⟩
set_option maxRecDepth 100000 in
set_option maxHeartbeats 4000000 in
theorem back_v (v0 v1 s0 s1 c0 c1 a0 a1 g0 g1 days d : Int) (w : World)
    (hA : ∀ w : World, Calls Try.prog 20 #[] w fun e w' => e = .returned (.bool true) ∧ Below w.heap.size w w')
    (hd : (d != 0) = false) (k0 : (days == 0) = false) (k1 : (v0 == 0) = true) (h1 : ∀ w : World, Calls Try.prog 29 #[.agg #[.int .i64 v0, .int .i64 v1, .int .i64 s0, .int .i64 s1, .int .i64 c0, .int .i64 c1], .agg #[.int .i64 a0, .int .i64 a1, .int .i64 g0, .int .i64 g1], .int .i64 days] w fun e w' => e = .returned (.int .i64 d) ∧ Below w.heap.size w w') :
    Calls Try.prog 10 #[.agg #[.int .i64 v0, .int .i64 v1, .int .i64 s0, .int .i64 s1, .int .i64 c0, .int .i64 c1], .agg #[.int .i64 a0, .int .i64 a1, .int .i64 g0, .int .i64 g1], .int .i64 days] w fun e w' => e = .returned (.bool true) ∧ Below w.heap.size w w' := by
  have HA := Lib.hid hA
  have H1 := Lib.hid h1
  clear hA h1
  go_enter Try.func10, Try.ntmps10
  go_upto_region 3 with (go_at_call 20; refine (HA.out _).mono ?_; rintro e w1 ⟨rfl, hb1⟩)
  refine nameWorld (fun w' => w'.cell? ⟨w.heap.size, 0, none⟩ = some (.int .i64 v0) ∧ w'.cell? ⟨w.heap.size, 1, none⟩ = some (.int .i64 v1) ∧ w'.cell? ⟨w.heap.size, 2, none⟩ = some (.int .i64 s0) ∧ w'.cell? ⟨w.heap.size, 3, none⟩ = some (.int .i64 s1) ∧ w'.cell? ⟨w.heap.size, 4, none⟩ = some (.int .i64 c0) ∧ w'.cell? ⟨w.heap.size, 5, none⟩ = some (.int .i64 c1) ∧ w'.cell? ⟨w.heap.size + 1, 0, none⟩ = some (.int .i64 a0) ∧ w'.cell? ⟨w.heap.size + 1, 1, none⟩ = some (.int .i64 a1) ∧ w'.cell? ⟨w.heap.size + 1, 2, none⟩ = some (.int .i64 g0) ∧ w'.cell? ⟨w.heap.size + 1, 3, none⟩ = some (.int .i64 g1) ∧ Below w.heap.size w w') (by refine ⟨?_, ?_, ?_, ?_, ?_, ?_, ?_, ?_, ?_, ?_, ?_⟩ <;> first | (exact keepC (by assumption) (by go_cell)) | (exact belowSeq (by assumption) (by (go_grown; done))) | (exact keepZ (by assumption) (by go_size))) (fun wc hc => ?_)
  obtain ⟨x0, x1, x2, x3, x4, x5, x6, x7, x8, x9, hB⟩ := hc
  clear hb1
  go_wp2_with (first | (go_at_call 29; (with_reducible refine Calls.mono (H1.out _) ?_); rintro e w2 ⟨rfl, hb2⟩; have y0 := keepC hb2 x0; have y1 := keepC hb2 x1; have y2 := keepC hb2 x2; have y3 := keepC hb2 x3; have y4 := keepC hb2 x4; have y5 := keepC hb2 x5; have y6 := keepC hb2 x6; have y7 := keepC hb2 x7; have y8 := keepC hb2 x8; have y9 := keepC hb2 x9; have hB2 := belowSeq hb2 hB; have hsw20 : w.heap.size < w2.heap.size := World.block_lt_of_cell? w2 _ y0; have hsw21 : w.heap.size + 1 < w2.heap.size := World.block_lt_of_cell? w2 _ y6))
  go_ret
  exact ⟨rfl, by first | exact hB2 | go_grown⟩
set_option maxRecDepth 100000 in
set_option maxHeartbeats 4000000 in
theorem back_s (v0 v1 s0 s1 c0 c1 a0 a1 g0 g1 days d : Int) (w : World)
    (hA : ∀ w : World, Calls Try.prog 20 #[] w fun e w' => e = .returned (.bool true) ∧ Below w.heap.size w w')
    (hd : (d != 0) = false) (k0 : (days == 0) = false) (k1 : (v0 == 0) = false) (k2 : (s0 == 0) = true) (h1 : ∀ w : World, Calls Try.prog 29 #[.agg #[.int .i64 v0, .int .i64 v1, .int .i64 s0, .int .i64 s1, .int .i64 c0, .int .i64 c1], .agg #[.int .i64 a0, .int .i64 a1, .int .i64 g0, .int .i64 g1], .int .i64 days] w fun e w' => e = .returned (.int .i64 d) ∧ Below w.heap.size w w') :
    Calls Try.prog 10 #[.agg #[.int .i64 v0, .int .i64 v1, .int .i64 s0, .int .i64 s1, .int .i64 c0, .int .i64 c1], .agg #[.int .i64 a0, .int .i64 a1, .int .i64 g0, .int .i64 g1], .int .i64 days] w fun e w' => e = .returned (.bool true) ∧ Below w.heap.size w w' := by
  have HA := Lib.hid hA
  have H1 := Lib.hid h1
  clear hA h1
  go_enter Try.func10, Try.ntmps10
  go_upto_region 3 with (go_at_call 20; refine (HA.out _).mono ?_; rintro e w1 ⟨rfl, hb1⟩)
  refine nameWorld (fun w' => w'.cell? ⟨w.heap.size, 0, none⟩ = some (.int .i64 v0) ∧ w'.cell? ⟨w.heap.size, 1, none⟩ = some (.int .i64 v1) ∧ w'.cell? ⟨w.heap.size, 2, none⟩ = some (.int .i64 s0) ∧ w'.cell? ⟨w.heap.size, 3, none⟩ = some (.int .i64 s1) ∧ w'.cell? ⟨w.heap.size, 4, none⟩ = some (.int .i64 c0) ∧ w'.cell? ⟨w.heap.size, 5, none⟩ = some (.int .i64 c1) ∧ w'.cell? ⟨w.heap.size + 1, 0, none⟩ = some (.int .i64 a0) ∧ w'.cell? ⟨w.heap.size + 1, 1, none⟩ = some (.int .i64 a1) ∧ w'.cell? ⟨w.heap.size + 1, 2, none⟩ = some (.int .i64 g0) ∧ w'.cell? ⟨w.heap.size + 1, 3, none⟩ = some (.int .i64 g1) ∧ Below w.heap.size w w') (by refine ⟨?_, ?_, ?_, ?_, ?_, ?_, ?_, ?_, ?_, ?_, ?_⟩ <;> first | (exact keepC (by assumption) (by go_cell)) | (exact belowSeq (by assumption) (by (go_grown; done))) | (exact keepZ (by assumption) (by go_size))) (fun wc hc => ?_)
  obtain ⟨x0, x1, x2, x3, x4, x5, x6, x7, x8, x9, hB⟩ := hc
  clear hb1
  go_wp2_with (first | (go_at_call 29; (with_reducible refine Calls.mono (H1.out _) ?_); rintro e w2 ⟨rfl, hb2⟩; have y0 := keepC hb2 x0; have y1 := keepC hb2 x1; have y2 := keepC hb2 x2; have y3 := keepC hb2 x3; have y4 := keepC hb2 x4; have y5 := keepC hb2 x5; have y6 := keepC hb2 x6; have y7 := keepC hb2 x7; have y8 := keepC hb2 x8; have y9 := keepC hb2 x9; have hB2 := belowSeq hb2 hB; have hsw20 : w.heap.size < w2.heap.size := World.block_lt_of_cell? w2 _ y0; have hsw21 : w.heap.size + 1 < w2.heap.size := World.block_lt_of_cell? w2 _ y6))
  go_ret
  exact ⟨rfl, by first | exact hB2 | go_grown⟩
set_option maxRecDepth 100000 in
set_option maxHeartbeats 4000000 in
theorem back_large (v0 v1 s0 s1 c0 c1 a0 a1 g0 g1 days d : Int) (w : World)
    (hA : ∀ w : World, Calls Try.prog 20 #[] w fun e w' => e = .returned (.bool true) ∧ Below w.heap.size w w')
    (hd : (d != 0) = false) (k0 : (days == 0) = false) (k1 : (v0 == 0) = false) (k2 : (s0 == 0) = false) (h1 : ∀ w : World, Calls Try.prog 29 #[.agg #[.int .i64 v0, .int .i64 v1, .int .i64 s0, .int .i64 s1, .int .i64 c0, .int .i64 c1], .agg #[.int .i64 a0, .int .i64 a1, .int .i64 g0, .int .i64 g1], .int .i64 days] w fun e w' => e = .returned (.int .i64 d) ∧ Below w.heap.size w w')
    (h2 : ∀ w : World, Calls Try.prog 27 #[.agg #[.int .i64 v0, .int .i64 v1, .int .i64 s0, .int .i64 s1, .int .i64 c0, .int .i64 c1], .agg #[.int .i64 a0, .int .i64 a1, .int .i64 g0, .int .i64 g1], .int .i64 days] w fun e w' => e = .returned (.tuple #[.agg #[.int .i64 0, .int .i64 0, .int .i64 0, .int .i64 0, .int .i64 0, .int .i64 0], .int .i64 8]) ∧ Below w.heap.size w w') :
    Calls Try.prog 10 #[.agg #[.int .i64 v0, .int .i64 v1, .int .i64 s0, .int .i64 s1, .int .i64 c0, .int .i64 c1], .agg #[.int .i64 a0, .int .i64 a1, .int .i64 g0, .int .i64 g1], .int .i64 days] w fun e w' => e = .returned (.bool true) ∧ Below w.heap.size w w' := by
  have HA := Lib.hid hA
  have H1 := Lib.hid h1
  have H2 := Lib.hid h2
  clear hA h1 h2
  go_enter Try.func10, Try.ntmps10
  go_upto_region 3 with (go_at_call 20; refine (HA.out _).mono ?_; rintro e w1 ⟨rfl, hb1⟩)
  refine nameWorld (fun w' => w'.cell? ⟨w.heap.size, 0, none⟩ = some (.int .i64 v0) ∧ w'.cell? ⟨w.heap.size, 1, none⟩ = some (.int .i64 v1) ∧ w'.cell? ⟨w.heap.size, 2, none⟩ = some (.int .i64 s0) ∧ w'.cell? ⟨w.heap.size, 3, none⟩ = some (.int .i64 s1) ∧ w'.cell? ⟨w.heap.size, 4, none⟩ = some (.int .i64 c0) ∧ w'.cell? ⟨w.heap.size, 5, none⟩ = some (.int .i64 c1) ∧ w'.cell? ⟨w.heap.size + 1, 0, none⟩ = some (.int .i64 a0) ∧ w'.cell? ⟨w.heap.size + 1, 1, none⟩ = some (.int .i64 a1) ∧ w'.cell? ⟨w.heap.size + 1, 2, none⟩ = some (.int .i64 g0) ∧ w'.cell? ⟨w.heap.size + 1, 3, none⟩ = some (.int .i64 g1) ∧ Below w.heap.size w w') (by refine ⟨?_, ?_, ?_, ?_, ?_, ?_, ?_, ?_, ?_, ?_, ?_⟩ <;> first | (exact keepC (by assumption) (by go_cell)) | (exact belowSeq (by assumption) (by (go_grown; done))) | (exact keepZ (by assumption) (by go_size))) (fun wc hc => ?_)
  obtain ⟨x0, x1, x2, x3, x4, x5, x6, x7, x8, x9, hB⟩ := hc
  clear hb1
  go_wp2_with (first | (go_at_call 27; (with_reducible refine Calls.mono (H2.out _) ?_); rintro e w3 ⟨rfl, hb3⟩; have z0 := keepC hb3 y0; have z1 := keepC hb3 y1; have z2 := keepC hb3 y2; have z3 := keepC hb3 y3; have z4 := keepC hb3 y4; have z5 := keepC hb3 y5; have z6 := keepC hb3 y6; have z7 := keepC hb3 y7; have z8 := keepC hb3 y8; have z9 := keepC hb3 y9; have hB3 := belowSeq hb3 hB2; have hsw30 : w.heap.size < w3.heap.size := World.block_lt_of_cell? w3 _ z0; have hsw31 : w.heap.size + 1 < w3.heap.size := World.block_lt_of_cell? w3 _ z6) | (go_at_call 29; (with_reducible refine Calls.mono (H1.out _) ?_); rintro e w2 ⟨rfl, hb2⟩; have y0 := keepC hb2 x0; have y1 := keepC hb2 x1; have y2 := keepC hb2 x2; have y3 := keepC hb2 x3; have y4 := keepC hb2 x4; have y5 := keepC hb2 x5; have y6 := keepC hb2 x6; have y7 := keepC hb2 x7; have y8 := keepC hb2 x8; have y9 := keepC hb2 x9; have hB2 := belowSeq hb2 hB; have hsw20 : w.heap.size < w2.heap.size := World.block_lt_of_cell? w2 _ y0; have hsw21 : w.heap.size + 1 < w2.heap.size := World.block_lt_of_cell? w2 _ y6))
  go_ret
  exact ⟨rfl, by first | exact hB3.alloc hB3.size _ | go_grown⟩
set_option maxRecDepth 100000 in
set_option maxHeartbeats 4000000 in
theorem back_fine (v0 v1 s0 s1 c0 c1 a0 a1 g0 g1 days d e0 e1 e2 e3 e4 e5 X0 X1 Y0 Y1 : Int) (w : World)
    (hA : ∀ w : World, Calls Try.prog 20 #[] w fun e w' => e = .returned (.bool true) ∧ Below w.heap.size w w')
    (hd : (d != 0) = false) (k0 : (days == 0) = false) (k1 : (v0 == 0) = false) (k2 : (s0 == 0) = false) (h1 : ∀ w : World, Calls Try.prog 29 #[.agg #[.int .i64 v0, .int .i64 v1, .int .i64 s0, .int .i64 s1, .int .i64 c0, .int .i64 c1], .agg #[.int .i64 a0, .int .i64 a1, .int .i64 g0, .int .i64 g1], .int .i64 days] w fun e w' => e = .returned (.int .i64 d) ∧ Below w.heap.size w w') (i0 : e1 ≤ 100000) (i1 : X0 ≤ a0) (i2 : a1 ≤ X1) (i3 : Y0 ≤ g0) (i4 : g1 ≤ Y1)
    (h2 : ∀ w : World, Calls Try.prog 27 #[.agg #[.int .i64 v0, .int .i64 v1, .int .i64 s0, .int .i64 s1, .int .i64 c0, .int .i64 c1], .agg #[.int .i64 a0, .int .i64 a1, .int .i64 g0, .int .i64 g1], .int .i64 days] w fun e w' => e = .returned (.tuple #[.agg #[.int .i64 e0, .int .i64 e1, .int .i64 e2, .int .i64 e3, .int .i64 e4, .int .i64 e5], .int .i64 0]) ∧ Below w.heap.size w w')
    (h3 : ∀ w : World, Calls Try.prog 42 #[.agg #[.int .i64 v0, .int .i64 v1, .int .i64 s0, .int .i64 s1, .int .i64 c0, .int .i64 c1], .agg #[.int .i64 e0, .int .i64 e1, .int .i64 e2, .int .i64 e3, .int .i64 e4, .int .i64 e5], .int .i64 days] w fun e w' => e = .returned (.tuple #[.agg #[.int .i64 X0, .int .i64 X1, .int .i64 Y0, .int .i64 Y1], .int .i64 0]) ∧ Below w.heap.size w w')
    (h4 : ∀ w : World, Calls Try.prog 40 #[.agg #[.int .i64 a0, .int .i64 a1, .int .i64 g0, .int .i64 g1], .agg #[.int .i64 0, .int .i64 v0, .int .i64 v1, .int .i64 s0, .int .i64 s1, .int .i64 c0, .int .i64 c1], .agg #[.int .i64 days, .int .i64 e0, .int .i64 e1, .int .i64 e2, .int .i64 e3, .int .i64 e4, .int .i64 e5]] w fun e w' => e = .returned (.tuple #[.int .i64 2, .int .i64 0]) ∧ Below w.heap.size w w') :
    Calls Try.prog 10 #[.agg #[.int .i64 v0, .int .i64 v1, .int .i64 s0, .int .i64 s1, .int .i64 c0, .int .i64 c1], .agg #[.int .i64 a0, .int .i64 a1, .int .i64 g0, .int .i64 g1], .int .i64 days] w fun e w' => e = .returned (.bool true) ∧ Below w.heap.size w w' := by
  have HA := Lib.hid hA
  have H1 := Lib.hid h1
  have H2 := Lib.hid h2
  have H3 := Lib.hid h3
  have H4 := Lib.hid h4
  clear hA h1 h2 h3 h4
  go_enter Try.func10, Try.ntmps10
  go_upto_region 3 with (go_at_call 20; refine (HA.out _).mono ?_; rintro e w1 ⟨rfl, hb1⟩)
  refine nameWorld (fun w' => w'.cell? ⟨w.heap.size, 0, none⟩ = some (.int .i64 v0) ∧ w'.cell? ⟨w.heap.size, 1, none⟩ = some (.int .i64 v1) ∧ w'.cell? ⟨w.heap.size, 2, none⟩ = some (.int .i64 s0) ∧ w'.cell? ⟨w.heap.size, 3, none⟩ = some (.int .i64 s1) ∧ w'.cell? ⟨w.heap.size, 4, none⟩ = some (.int .i64 c0) ∧ w'.cell? ⟨w.heap.size, 5, none⟩ = some (.int .i64 c1) ∧ w'.cell? ⟨w.heap.size + 1, 0, none⟩ = some (.int .i64 a0) ∧ w'.cell? ⟨w.heap.size + 1, 1, none⟩ = some (.int .i64 a1) ∧ w'.cell? ⟨w.heap.size + 1, 2, none⟩ = some (.int .i64 g0) ∧ w'.cell? ⟨w.heap.size + 1, 3, none⟩ = some (.int .i64 g1) ∧ Below w.heap.size w w') (by refine ⟨?_, ?_, ?_, ?_, ?_, ?_, ?_, ?_, ?_, ?_, ?_⟩ <;> first | (exact keepC (by assumption) (by go_cell)) | (exact belowSeq (by assumption) (by (go_grown; done))) | (exact keepZ (by assumption) (by go_size))) (fun wc hc => ?_)
  obtain ⟨x0, x1, x2, x3, x4, x5, x6, x7, x8, x9, hB⟩ := hc
  clear hb1
  go_wp2_with (first | (go_at_call 40; (with_reducible refine Calls.mono (H4.out _) ?_); rintro e w5 ⟨rfl, hb5⟩; have p6 : w5.cell? ⟨w.heap.size + 1, 0, none⟩ = some (.int .i64 a0) := keepC hb5 (by go_cell); have p7 : w5.cell? ⟨w.heap.size + 1, 1, none⟩ = some (.int .i64 a1) := keepC hb5 (by go_cell); have p8 : w5.cell? ⟨w.heap.size + 1, 2, none⟩ = some (.int .i64 g0) := keepC hb5 (by go_cell); have p9 : w5.cell? ⟨w.heap.size + 1, 3, none⟩ = some (.int .i64 g1) := keepC hb5 (by go_cell); have m0 := newHeld0 hb5 0 _ rfl; have m1 := newHeld0 hb5 1 _ rfl; have m2 := newHeld0 hb5 2 _ rfl; have m3 := newHeld0 hb5 3 _ rfl; have hs51 : w.heap.size + 1 < w5.heap.size := World.block_lt_of_cell? w5 _ p6; have hs45 : w4.heap.size < w5.heap.size := World.block_lt_of_cell? w5 _ m0; have hB5 := belowSeq hb5 (hB4.alloc hB4.size _)) | (go_at_call 42; (with_reducible refine Calls.mono (H3.out _) ?_); rintro e w4 ⟨rfl, hb4⟩; have t0 : w4.cell? ⟨w.heap.size, 0, none⟩ = some (.int .i64 v0) := keepC hb4 (by go_cell); have t1 : w4.cell? ⟨w.heap.size, 1, none⟩ = some (.int .i64 v1) := keepC hb4 (by go_cell); have t2 : w4.cell? ⟨w.heap.size, 2, none⟩ = some (.int .i64 s0) := keepC hb4 (by go_cell); have t3 : w4.cell? ⟨w.heap.size, 3, none⟩ = some (.int .i64 s1) := keepC hb4 (by go_cell); have t4 : w4.cell? ⟨w.heap.size, 4, none⟩ = some (.int .i64 c0) := keepC hb4 (by go_cell); have t5 : w4.cell? ⟨w.heap.size, 5, none⟩ = some (.int .i64 c1) := keepC hb4 (by go_cell); have t6 : w4.cell? ⟨w.heap.size + 1, 0, none⟩ = some (.int .i64 a0) := keepC hb4 (by go_cell); have t7 : w4.cell? ⟨w.heap.size + 1, 1, none⟩ = some (.int .i64 a1) := keepC hb4 (by go_cell); have t8 : w4.cell? ⟨w.heap.size + 1, 2, none⟩ = some (.int .i64 g0) := keepC hb4 (by go_cell); have t9 : w4.cell? ⟨w.heap.size + 1, 3, none⟩ = some (.int .i64 g1) := keepC hb4 (by go_cell); have n0 := newHeld0 hb4 0 _ rfl; have n1 := newHeld0 hb4 1 _ rfl; have n2 := newHeld0 hb4 2 _ rfl; have n3 := newHeld0 hb4 3 _ rfl; have n4 := newHeld0 hb4 4 _ rfl; have n5 := newHeld0 hb4 5 _ rfl; have hsw40 : w.heap.size < w4.heap.size := World.block_lt_of_cell? w4 _ t0; have hsw41 : w.heap.size + 1 < w4.heap.size := World.block_lt_of_cell? w4 _ t6; have hs34 : w3.heap.size < w4.heap.size := World.block_lt_of_cell? w4 _ n0; have hB4 := belowSeq hb4 (hB3.alloc hB3.size _)) | (go_at_call 27; (with_reducible refine Calls.mono (H2.out _) ?_); rintro e w3 ⟨rfl, hb3⟩; have z0 := keepC hb3 y0; have z1 := keepC hb3 y1; have z2 := keepC hb3 y2; have z3 := keepC hb3 y3; have z4 := keepC hb3 y4; have z5 := keepC hb3 y5; have z6 := keepC hb3 y6; have z7 := keepC hb3 y7; have z8 := keepC hb3 y8; have z9 := keepC hb3 y9; have hB3 := belowSeq hb3 hB2; have hsw30 : w.heap.size < w3.heap.size := World.block_lt_of_cell? w3 _ z0; have hsw31 : w.heap.size + 1 < w3.heap.size := World.block_lt_of_cell? w3 _ z6) | (go_at_call 29; (with_reducible refine Calls.mono (H1.out _) ?_); rintro e w2 ⟨rfl, hb2⟩; have y0 := keepC hb2 x0; have y1 := keepC hb2 x1; have y2 := keepC hb2 x2; have y3 := keepC hb2 x3; have y4 := keepC hb2 x4; have y5 := keepC hb2 x5; have y6 := keepC hb2 x6; have y7 := keepC hb2 x7; have y8 := keepC hb2 x8; have y9 := keepC hb2 x9; have hB2 := belowSeq hb2 hB; have hsw20 : w.heap.size < w2.heap.size := World.block_lt_of_cell? w2 _ y0; have hsw21 : w.heap.size + 1 < w2.heap.size := World.block_lt_of_cell? w2 _ y6))
  go_ret
  exact ⟨rfl, by first | exact hB5 | go_grown⟩
theorem ce_at_most {n d m : Int} (hd : 0 < d) (h : n ≤ m * d) : ce n d ≤ m := by
  unfold ce
  have : -m ≤ (-n) / d := Int.le_ediv_of_mul_le hd (by rw [Int.neg_mul]; omega)
  omega
theorem ans3_self {e0 e1 e2 e3 e4 e5 : Int} (h0 : e0 ≤ e1) (h1 : e2 ≤ e3) (h2 : e4 ≤ e5) : ans3 e0 e1 e2 e3 e4 e5 e0 e1 e2 e3 e4 e5 = 2 := by
  have a : ∀ x, mx x x = x := fun x => by simp [mx]
  have b : ∀ x, mn x x = x := fun x => by simp [mn]
  have c : ∀ x y, inR x y x y = true := fun x y => by simp [inR]
  rw [ans3, a, a, a, b, b, b, if_neg (by omega), if_neg (by omega), if_neg (by omega), c, c, c]; rfl
set_option maxHeartbeats 1000000 in
theorem back_walk (v0 v1 s0 s1 c0 c1 a0 a1 g0 g1 days : Int) (w : World) : Calls Try.prog 10 #[.agg #[.int .i64 v0, .int .i64 v1, .int .i64 s0, .int .i64 s1, .int .i64 c0, .int .i64 c1], .agg #[.int .i64 a0, .int .i64 a1, .int .i64 g0, .int .i64 g1], .int .i64 days] w fun e w' => e = .returned (.bool true) ∧ Below w.heap.size w w' := by
  have hT := taskErr_any v0 v1 s0 s1 c0 c1 a0 a1 g0 g1 days
  have hA := awake_any
  by_cases hd : (taskE v0 v1 s0 s1 c0 c1 a0 a1 g0 g1 days != 0) = true
  · exact back_err v0 v1 s0 s1 c0 c1 a0 a1 g0 g1 days _ w hA hd hT
  have hd2 : (taskE v0 v1 s0 s1 c0 c1 a0 a1 g0 g1 days != 0) = false := by simpa using hd
  have hz : taskE v0 v1 s0 s1 c0 c1 a0 a1 g0 g1 days = 0 := by simpa using hd
  obtain ⟨⟨⟨V0, V1, V2⟩, ⟨S0, S1, S2⟩, ⟨C0, C1, C2⟩⟩, ⟨⟨A0, A1, A2⟩, ⟨G0, G1, G2⟩⟩, D0, D1⟩ := taskE_zero.1 hz
  by_cases k0 : days = 0
  · exact back_days v0 v1 s0 s1 c0 c1 a0 a1 g0 g1 days _ w hA hd2 (by simpa using k0) hT
  by_cases k1 : v0 = 0
  · exact back_v v0 v1 s0 s1 c0 c1 a0 a1 g0 g1 days _ w hA hd2 (by simpa using k0) (by simpa using k1) hT
  by_cases k2 : s0 = 0
  · exact back_s v0 v1 s0 s1 c0 c1 a0 a1 g0 g1 days _ w hA hd2 (by simpa using k0) (by simpa using k1) (by simpa using k2) hT
  have kF := florAfter_any v0 v1 s0 s1 c0 c1 a0 a1 g0 g1 days
  have eF : aftF v0 v1 s0 s1 c0 c1 a0 a1 g0 g1 days = aftR v0 v1 s0 s1 c0 c1 a0 a1 g0 g1 days := if_neg hd
  rw [eF] at kF
  have h52 : ∀ w : World, Calls Try.prog 77 #[.agg #[.int .i64 v0, .int .i64 v1, .int .i64 s0, .int .i64 s1, .int .i64 c0, .int .i64 c1], .agg #[.int .i64 a0, .int .i64 a1, .int .i64 g0, .int .i64 g1], .int .i64 days] w fun e w' => e = .returned (aftR v0 v1 s0 s1 c0 c1 a0 a1 g0 g1 days) ∧ Below w.heap.size w w' := fun w => chkAfter_any v0 v1 s0 s1 c0 c1 a0 a1 g0 g1 days w (by omega) (by omega) (by omega) (by omega) (by omega) (by omega) (by omega) (by omega) (by omega) (by omega) (by omega) (by omega) (by omega) (by omega) (by omega) (by omega) (by omega) (by omega) (by omega) (by omega) (by omega) (by omega)
  by_cases hl : 10000 < ce (s1 * lft g0 days) (lft a1 days) ∨ 100000 < ce (c1 * 1000000) (lft a1 days)
  · have eR : aftR v0 v1 s0 s1 c0 c1 a0 a1 g0 g1 days = .tuple #[.agg #[.int .i64 0, .int .i64 0, .int .i64 0, .int .i64 0, .int .i64 0, .int .i64 0], .int .i64 8] := if_pos hl
    rw [eR] at kF
    exact back_large v0 v1 s0 s1 c0 c1 a0 a1 g0 g1 days _ w hA hd2 (by simpa using k0) (by simpa using k1) (by simpa using k2) hT kF
  have eR : aftR v0 v1 s0 s1 c0 c1 a0 a1 g0 g1 days = .tuple #[.agg #[.int .i64 (fl (v0 * lft a1 days) 1000000), .int .i64 (ce (v1 * lft a0 days) 1000000), .int .i64 (fl (s0 * lft g1 days) (lft a0 days)), .int .i64 (ce (s1 * lft g0 days) (lft a1 days)), .int .i64 (fl (c0 * 1000000) (lft a0 days)), .int .i64 (ce (c1 * 1000000) (lft a1 days))], .int .i64 0] := if_neg hl
  rw [eR] at kF h52
  obtain ⟨LA0, LA0'⟩ := lft_bd a0 days (by omega) (by omega) D0 (by omega)
  obtain ⟨LA1, LA1'⟩ := lft_bd a1 days (by omega) (by omega) D0 (by omega)
  obtain ⟨LG0, LG0'⟩ := lft_bd g0 days (by omega) (by omega) D0 (by omega)
  obtain ⟨LG1, LG1'⟩ := lft_bd g1 days (by omega) (by omega) D0 (by omega)
  have LL : lft a1 days ≤ lft a0 days := by have := Int.mul_le_mul_of_nonneg_right A1 D0; unfold lft; omega
  have LG : lft g1 days ≤ lft g0 days := by have := Int.mul_le_mul_of_nonneg_right G1 D0; unfold lft; omega
  obtain ⟨P0, -⟩ := mul_bd v0 (lft a1 days) 100000 1000000 (by omega) (by omega) (by omega) LA1'
  obtain ⟨P1, -⟩ := mul_bd v1 (lft a0 days) 100000 1000000 (by omega) (by omega) (by omega) LA0'
  obtain ⟨P2, -⟩ := mul_bd s0 (lft g1 days) 10000 1000000 (by omega) (by omega) (by omega) LG1'
  obtain ⟨P3, -⟩ := mul_bd s1 (lft g0 days) 10000 1000000 (by omega) (by omega) (by omega) LG0'
  have N0 := (fl_bd P0 (show (0 : Int) < 1000000 by omega)).1
  have N1 := (ce_bd P1 (show (0 : Int) < 1000000 by omega)).1
  have N2 := (fl_bd P2 (show 0 < lft a0 days by omega)).1
  have N3 := (ce_bd P3 (show 0 < lft a1 days by omega)).1
  have N4 := (fl_bd (show 0 ≤ c0 * 1000000 by omega) (show 0 < lft a0 days by omega)).1
  have N5 := (ce_bd (show 0 ≤ c1 * 1000000 by omega) (show 0 < lft a1 days by omega)).1
  have F0 := fl_mul (v0 * lft a1 days) 1000000 (by omega)
  have F1 := ce_mul (v1 * lft a0 days) 1000000 (by omega)
  have F2 := fl_mul (s0 * lft g1 days) (lft a0 days) (by omega)
  have F3 := ce_mul (s1 * lft g0 days) (lft a1 days) (by omega)
  have F4 := fl_mul (c0 * 1000000) (lft a0 days) (by omega)
  have F5 := ce_mul (c1 * 1000000) (lft a1 days) (by omega)
  have U1 : ce (v1 * lft a0 days) 1000000 ≤ v1 := ce_at_most (by omega) (Int.mul_le_mul_of_nonneg_left LA0' (by omega))
  generalize fl (v0 * lft a1 days) 1000000 = e0 at *
  generalize ce (v1 * lft a0 days) 1000000 = e1 at *
  generalize fl (s0 * lft g1 days) (lft a0 days) = e2 at *
  generalize ce (s1 * lft g0 days) (lft a1 days) = e3 at *
  generalize fl (c0 * 1000000) (lft a0 days) = e4 at *
  generalize ce (c1 * 1000000) (lft a1 days) = e5 at *
  have H3 : e3 ≤ 10000 := by omega
  have H5 : e5 ≤ 100000 := by omega
  have Q0 : v0 * lft a1 days ≤ v1 * lft a0 days := Int.mul_le_mul V1 LL (by omega) (by omega)
  have Q1 : s0 * lft g1 days ≤ s1 * lft g0 days := Int.mul_le_mul S1 LG (by omega) (by omega)
  have O0 : e0 ≤ e1 := by omega
  have O1 : e2 ≤ e3 := by
    have : e3 * lft a1 days ≤ e3 * lft a0 days := Int.mul_le_mul_of_nonneg_left LL N3
    exact Int.le_of_mul_le_mul_right (show e2 * lft a0 days ≤ e3 * lft a0 days by omega) (by omega)
  have O2 : e4 ≤ e5 := by
    have : e5 * lft a1 days ≤ e5 * lft a0 days := Int.mul_le_mul_of_nonneg_left LL N5
    exact Int.le_of_mul_le_mul_right (show e4 * lft a0 days ≤ e5 * lft a0 days by omega) (by omega)
  have hW1 : wineE v0 v1 s0 s1 c0 c1 = 0 := wineE_zero.2 ⟨⟨V0, V1, V2⟩, ⟨S0, S1, S2⟩, ⟨C0, C1, C2⟩⟩
  have hW2 : wineE e0 e1 e2 e3 e4 e5 = 0 := wineE_zero.2 ⟨⟨N0, O0, by omega⟩, ⟨N2, O1, H3⟩, ⟨N4, O2, H5⟩⟩
  have hRt : rateE a0 a1 g0 g1 = 0 := rateE_zero.2 ⟨⟨A0, A1, A2⟩, ⟨G0, G1, G2⟩⟩
  have hn : numE days 1 365 = 0 := by have : inB days 1 365 = true := inB_yes (by omega) (by omega); simp [numE, this]
  have hFr : (first4 (wineE v0 v1 s0 s1 c0 c1) (wineE e0 e1 e2 e3 e4 e5) (numE days 1 365) (unlE true 25) != 0) = false := by rw [hW1, hW2, hn]; rfl
  obtain ⟨mp0, mp1⟩ := mul_bd v0 s0 100000 10000 (by omega) (by omega) (by omega) (by omega)
  obtain ⟨mq0, mq1⟩ := mul_bd v1 s1 100000 10000 (by omega) (by omega) (by omega) (by omega)
  obtain ⟨mr0, mr1⟩ := mul_bd e0 e2 100000 10000 (by omega) (by omega) (by omega) (by omega)
  obtain ⟨ms0, ms1⟩ := mul_bd e1 e3 100000 10000 (by omega) (by omega) (by omega) (by omega)
  have mp2 : 0 < v0 * s0 := Int.mul_pos (by omega) (by omega)
  have mq2 : 0 < v1 * s1 := Int.mul_pos (by omega) (by omega)
  have kW := fun w => rateWine v0 v1 s0 s1 c0 c1 e0 e1 e2 e3 e4 e5 days v0 v1 e0 e1 w (by omega) (by omega) (by omega) (by omega) (by omega) (by omega) (by omega) (by omega) (by omega) (by omega) (fun w => leastVolume_any v0 v1 s0 s1 c0 c1 w) (fun w => mostVolume_any e0 e1 e2 e3 e4 e5 w) (fun w => mostVolume_any v0 v1 s0 s1 c0 c1 w) (fun w => leastVolume_any e0 e1 e2 e3 e4 e5 w)
  have kA := fun w => rateAlc v0 v1 s0 s1 c0 c1 e0 e1 e2 e3 e4 e5 days (v0 * s0) (v1 * s1) (e0 * e2) (e1 * e3) w (by omega) (by omega) (by omega) (by omega) (by omega) (by omega) (by omega) (by omega) (by omega) (by omega) (fun w => leastAlcohol_any v0 v1 s0 s1 c0 c1 w (by omega) (by omega) (by omega) (by omega) (by omega) (by omega) (by omega) (by omega)) (fun w => mostAlcohol_any e0 e1 e2 e3 e4 e5 w (by omega) (by omega) (by omega) (by omega) (by omega) (by omega) (by omega) (by omega)) (fun w => mostAlcohol_any v0 v1 s0 s1 c0 c1 w (by omega) (by omega) (by omega) (by omega) (by omega) (by omega) (by omega) (by omega)) (fun w => leastAlcohol_any e0 e1 e2 e3 e4 e5 w (by omega) (by omega) (by omega) (by omega) (by omega) (by omega) (by omega) (by omega))
  have Hd : 0 < days := by omega
  have Z0 := back_lo (v := v0) (e := e1) (a := a0) (days := days) (by omega) Hd (by have := Int.mul_le_mul_of_nonneg_right V1 (show 0 ≤ lft a0 days by omega); omega)
  have Z1 := back_hi (v := v1) (e := e0) (a := a1) (days := days) (by omega) Hd (by have := Int.mul_le_mul_of_nonneg_right V1 (show 0 ≤ lft a1 days by omega); omega)
  have Z2 := back_lo (v := v0 * s0) (e := e1 * e3) (a := g0) (days := days) mp2 Hd (alc_lo V0 V1 S0 S1 (show 0 < lft a1 days by omega) LL (by omega) N1 N3 F1 F3)
  have Z3 := back_hi (v := v1 * s1) (e := e0 * e2) (a := g1) (days := days) mq2 Hd (alc_hi V0 V1 S0 S1 (show 0 < lft a1 days by omega) LL (by omega) N2 F0 F2)
  have mx_le : ∀ x y z : Int, x ≤ z → y ≤ z → mx x y ≤ z := fun x y z h1 h2 => by unfold mx; split <;> omega
  have le_mn : ∀ x y z : Int, z ≤ x → z ≤ y → z ≤ mn x y := fun x y z h1 h2 => by unfold mn; split <;> omega
  have i1 := mx_le _ 0 _ Z0 A0
  have i2 := le_mn _ 2000 _ Z1 (by omega)
  have i3 := mx_le _ 0 _ Z2 G0
  have i4 := le_mn _ 2000 _ Z3 (by omega)
  have hE := florExpl_fine a0 a1 g0 g1 0 v0 v1 s0 s1 c0 c1 days e0 e1 e2 e3 e4 e5
  have hFx : (first4 (rateE a0 a1 g0 g1) (measE 0 v0 v1 s0 s1 c0 c1) (measE days e0 e1 e2 e3 e4 e5) (betE 0 days) != 0) = false := by
    have x1 : measE 0 v0 v1 s0 s1 c0 c1 = 0 := by rw [measE, hW1]; rfl
    have x2 : measE days e0 e1 e2 e3 e4 e5 = 0 := by
      have : numE days 0 100000 = 0 := by have : inB days 0 100000 = true := inB_yes (by omega) (by omega); simp [numE, this]
      rw [measE, hW2, this]; rfl
    have x3 : betE 0 days = 0 := by rw [betE_eq 0 days (by omega) (by omega) (by omega) (by omega), betR, if_neg (by omega), if_neg (by omega)]
    rw [hRt, x1, x2, x3]; rfl
  have h4 : ∀ w : World, Calls Try.prog 40 #[.agg #[.int .i64 a0, .int .i64 a1, .int .i64 g0, .int .i64 g1], .agg #[.int .i64 0, .int .i64 v0, .int .i64 v1, .int .i64 s0, .int .i64 s1, .int .i64 c0, .int .i64 c1], .agg #[.int .i64 days, .int .i64 e0, .int .i64 e1, .int .i64 e2, .int .i64 e3, .int .i64 e4, .int .i64 e5]] w fun e w' => e = .returned (.tuple #[.int .i64 2, .int .i64 0]) ∧ Below w.heap.size w w' := fun w => by
    have := hE w hFx (by omega) (by omega) (by omega) (by omega) e0 e1 e2 e3 e4 e5 (by rw [Int.sub_zero]; exact h52)
    rwa [ans3_self O0 O1 O2] at this
  refine back_fine v0 v1 s0 s1 c0 c1 a0 a1 g0 g1 days _ e0 e1 e2 e3 e4 e5 _ _ _ _ w hA hd2 (by simpa using k0) (by simpa using k1) (by simpa using k2) hT (by omega) i1 i2 i3 i4 kF (fun w => florRates_fine v0 v1 s0 s1 c0 c1 e0 e1 e2 e3 e4 e5 days w (by omega) (by omega) hFr _ _ _ _ (by omega) (by omega) kW kA) h4
theorem florRatesBack_holds : Rows.FlorRatesBackSaid :=
  FlorRatesBack.over (fun v0 v1 s0 s1 c0 c1 a0 a1 g0 g1 days w _ => back_walk v0 v1 s0 s1 c0 c1 a0 a1 g0 g1 days w)
end Go.Proofs.Ytcpkoapkmjcigaa
