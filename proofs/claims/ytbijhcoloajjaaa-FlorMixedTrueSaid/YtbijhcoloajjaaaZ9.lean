/- TopFlorFortified: its walk, out of contracts. -/
import Derived.Test.YtbijhcoloajjaaaZD
import Derived.Test.YtbijhcoloajjaaaAU
namespace Go.Proofs.Ytbijhcoloajjaaa
open Go.RowKit

set_option linter.unusedVariables false in
set_option linter.unusedSimpArgs false in
set_option maxRecDepth 100000 in
set_option maxHeartbeats 8000000 in
theorem fort_after (v0 v1 s0 s1 c0 c1 a0 a1 g0 g1 dy sp tg ee : Int) (w : World) (hW : ∀ w : World, Calls Try.prog 23 #[] w fun e w' => e = .returned (.bool true) ∧ Below w.heap.size w w') (hA : ∀ w : World, Calls Try.prog 24 #[.agg #[.int .i64 v0, .int .i64 v1, .int .i64 s0, .int .i64 s1, .int .i64 c0, .int .i64 c1], .agg #[.int .i64 a0, .int .i64 a1, .int .i64 g0, .int .i64 g1], .int .i64 dy] w fun e w' => e = .returned (.tuple #[.agg #[.int .i64 0, .int .i64 0, .int .i64 0, .int .i64 0, .int .i64 0, .int .i64 0], .int .i64 ee]) ∧ Below w.heap.size w w') (he : (ee != 0) = true) :
    Calls Try.prog 7 #[.agg #[.int .i64 v0, .int .i64 v1, .int .i64 s0, .int .i64 s1, .int .i64 c0, .int .i64 c1], .agg #[.int .i64 a0, .int .i64 a1, .int .i64 g0, .int .i64 g1], .agg #[.int .i64 dy, .int .i64 sp, .int .i64 tg]] w fun e w' => e = .returned (.bool true) ∧ Below w.heap.size w w' := by
  have HW := Lib.hid hW
  have HA := Lib.hid hA
  clear hW hA
  go_enter Try.func7, Try.ntmps7
  go_upto_region 3 with (go_at_call 23; refine (HW.out _).mono ?_; rintro e w1 ⟨rfl, hb1⟩)
  obtain ⟨B0, hB0⟩ : ∃ B, w.heap.size = B := ⟨_, rfl⟩
  rw [hB0]
  refine nameWorld (fun w' => w'.cell? ⟨B0, 0, none⟩ = some (.int .i64 v0) ∧ w'.cell? ⟨B0, 1, none⟩ = some (.int .i64 v1) ∧ w'.cell? ⟨B0, 2, none⟩ = some (.int .i64 s0) ∧ w'.cell? ⟨B0, 3, none⟩ = some (.int .i64 s1) ∧ w'.cell? ⟨B0, 4, none⟩ = some (.int .i64 c0) ∧ w'.cell? ⟨B0, 5, none⟩ = some (.int .i64 c1) ∧ w'.cell? ⟨B0 + 1, 0, none⟩ = some (.int .i64 a0) ∧ w'.cell? ⟨B0 + 1, 1, none⟩ = some (.int .i64 a1) ∧ w'.cell? ⟨B0 + 1, 2, none⟩ = some (.int .i64 g0) ∧ w'.cell? ⟨B0 + 1, 3, none⟩ = some (.int .i64 g1) ∧ w'.cell? ⟨B0 + 1 + 1, 0, none⟩ = some (.int .i64 dy) ∧ w'.cell? ⟨B0 + 1 + 1, 1, none⟩ = some (.int .i64 sp) ∧ w'.cell? ⟨B0 + 1 + 1, 2, none⟩ = some (.int .i64 tg) ∧ Below B0 w w') ⟨by rw [← hB0]; exact keepC hb1 (by go_cell), by rw [← hB0]; exact keepC hb1 (by go_cell), by rw [← hB0]; exact keepC hb1 (by go_cell), by rw [← hB0]; exact keepC hb1 (by go_cell), by rw [← hB0]; exact keepC hb1 (by go_cell), by rw [← hB0]; exact keepC hb1 (by go_cell), by rw [← hB0]; exact keepC hb1 (by go_cell), by rw [← hB0]; exact keepC hb1 (by go_cell), by rw [← hB0]; exact keepC hb1 (by go_cell), by rw [← hB0]; exact keepC hb1 (by go_cell), by rw [← hB0]; exact keepC hb1 (by go_cell), by rw [← hB0]; exact keepC hb1 (by go_cell), by rw [← hB0]; exact keepC hb1 (by go_cell), by rw [← hB0]; exact belowSeq hb1 (by go_grown)⟩ (fun wc hc => ?_)
  clear hb1
  obtain ⟨fa0, fa1, fa2, fa3, fa4, fa5, fb0, fb1, fb2, fb3, fd0, fd1, fd2, hB⟩ := hc
  have hs0 : B0 < wc.heap.size := World.block_lt_of_cell? wc _ fa0
  have hs1 : B0 + 1 < wc.heap.size := World.block_lt_of_cell? wc _ fb0
  have hs2 : B0 + 1 + 1 < wc.heap.size := World.block_lt_of_cell? wc _ fd0
  go_upto_region 4 with (go_at_call 24; (with_reducible refine Calls.mono (HA.out _) ?_); rintro e w1 ⟨rfl, hb1⟩)
  have hbw := belowSq hb1 ((Below.refl _ w1).alloc (Nat.le_refl _) (.cells #[.int .i64 0, .int .i64 0, .int .i64 0, .int .i64 0, .int .i64 0, .int .i64 0] 27))
  obtain ⟨BY, hBY⟩ : ∃ B, w1.heap.size = B := ⟨_, rfl⟩
  rw [hBY]
  refine nameWorld (fun w' => w'.cell? ⟨B0, 0, none⟩ = some (.int .i64 v0) ∧ w'.cell? ⟨B0, 1, none⟩ = some (.int .i64 v1) ∧ w'.cell? ⟨B0, 2, none⟩ = some (.int .i64 s0) ∧ w'.cell? ⟨B0, 3, none⟩ = some (.int .i64 s1) ∧ w'.cell? ⟨B0, 4, none⟩ = some (.int .i64 c0) ∧ w'.cell? ⟨B0, 5, none⟩ = some (.int .i64 c1) ∧ w'.cell? ⟨B0 + 1, 0, none⟩ = some (.int .i64 a0) ∧ w'.cell? ⟨B0 + 1, 1, none⟩ = some (.int .i64 a1) ∧ w'.cell? ⟨B0 + 1, 2, none⟩ = some (.int .i64 g0) ∧ w'.cell? ⟨B0 + 1, 3, none⟩ = some (.int .i64 g1) ∧ w'.cell? ⟨B0 + 1 + 1, 0, none⟩ = some (.int .i64 dy) ∧ w'.cell? ⟨B0 + 1 + 1, 1, none⟩ = some (.int .i64 sp) ∧ w'.cell? ⟨B0 + 1 + 1, 2, none⟩ = some (.int .i64 tg) ∧ w'.cell? ⟨BY, 0, none⟩ = some (.int .i64 0) ∧ w'.cell? ⟨BY, 1, none⟩ = some (.int .i64 0) ∧ w'.cell? ⟨BY, 2, none⟩ = some (.int .i64 0) ∧ w'.cell? ⟨BY, 3, none⟩ = some (.int .i64 0) ∧ w'.cell? ⟨BY, 4, none⟩ = some (.int .i64 0) ∧ w'.cell? ⟨BY, 5, none⟩ = some (.int .i64 0) ∧ Below B0 w w') ⟨keepC hbw fa0, keepC hbw fa1, keepC hbw fa2, keepC hbw fa3, keepC hbw fa4, keepC hbw fa5, keepC hbw fb0, keepC hbw fb1, keepC hbw fb2, keepC hbw fb3, keepC hbw fd0, keepC hbw fd1, keepC hbw fd2, (newBoth hBY (Below.refl _ _) 0 _ rfl).1, (newBoth hBY (Below.refl _ _) 1 _ rfl).1, (newBoth hBY (Below.refl _ _) 2 _ rfl).1, (newBoth hBY (Below.refl _ _) 3 _ rfl).1, (newBoth hBY (Below.refl _ _) 4 _ rfl).1, (newBoth hBY (Below.refl _ _) 5 _ rfl).1, hB.trans (hbw.mono (by omega))⟩ (fun wc hc => ?_)
  clear hb1 hbw hBY hs0 hs1 hs2
  clear fa0 fa1 fa2 fa3 fa4 fa5 fb0 fb1 fb2 fb3 fd0 fd1 fd2 hB
  obtain ⟨fa0, fa1, fa2, fa3, fa4, fa5, fb0, fb1, fb2, fb3, fd0, fd1, fd2, fy0, fy1, fy2, fy3, fy4, fy5, hB⟩ := hc
  have hs0 : B0 < wc.heap.size := World.block_lt_of_cell? wc _ fa0
  have hs1 : B0 + 1 < wc.heap.size := World.block_lt_of_cell? wc _ fb0
  have hs2 : B0 + 1 + 1 < wc.heap.size := World.block_lt_of_cell? wc _ fd0
  have hs3 : BY < wc.heap.size := World.block_lt_of_cell? wc _ fy0
  go_wp2_with fail
  go_ret
  exact ⟨rfl, by rw [hB0]; first | exact hB | exact hB.alloc (by omega) _⟩
set_option linter.unusedVariables false in
set_option linter.unusedSimpArgs false in
set_option maxRecDepth 100000 in
set_option maxHeartbeats 8000000 in
theorem fort_spirit (v0 v1 s0 s1 c0 c1 a0 a1 g0 g1 dy sp tg y0 y1 y2 y3 y4 y5 ee : Int) (w : World) (hW : ∀ w : World, Calls Try.prog 23 #[] w fun e w' => e = .returned (.bool true) ∧ Below w.heap.size w w') (hA : ∀ w : World, Calls Try.prog 24 #[.agg #[.int .i64 v0, .int .i64 v1, .int .i64 s0, .int .i64 s1, .int .i64 c0, .int .i64 c1], .agg #[.int .i64 a0, .int .i64 a1, .int .i64 g0, .int .i64 g1], .int .i64 dy] w fun e w' => e = .returned (.tuple #[.agg #[.int .i64 y0, .int .i64 y1, .int .i64 y2, .int .i64 y3, .int .i64 y4, .int .i64 y5], .int .i64 0]) ∧ Below w.heap.size w w') (hS : ∀ w : World, Calls Try.prog 18 #[.agg #[.int .i64 y0, .int .i64 y1, .int .i64 y2, .int .i64 y3, .int .i64 y4, .int .i64 y5], .int .i64 sp, .int .i64 tg] w fun e w' => e = .returned (.tuple #[.agg #[.int .i64 0, .int .i64 0], .int .i64 ee]) ∧ Below w.heap.size w w') (he : (ee != 0) = true) :
    Calls Try.prog 7 #[.agg #[.int .i64 v0, .int .i64 v1, .int .i64 s0, .int .i64 s1, .int .i64 c0, .int .i64 c1], .agg #[.int .i64 a0, .int .i64 a1, .int .i64 g0, .int .i64 g1], .agg #[.int .i64 dy, .int .i64 sp, .int .i64 tg]] w fun e w' => e = .returned (.bool true) ∧ Below w.heap.size w w' := by
  have HW := Lib.hid hW
  have HA := Lib.hid hA
  have HS := Lib.hid hS
  clear hW hA hS
  go_enter Try.func7, Try.ntmps7
  go_upto_region 3 with (go_at_call 23; refine (HW.out _).mono ?_; rintro e w1 ⟨rfl, hb1⟩)
  obtain ⟨B0, hB0⟩ : ∃ B, w.heap.size = B := ⟨_, rfl⟩
  rw [hB0]
  refine nameWorld (fun w' => w'.cell? ⟨B0, 0, none⟩ = some (.int .i64 v0) ∧ w'.cell? ⟨B0, 1, none⟩ = some (.int .i64 v1) ∧ w'.cell? ⟨B0, 2, none⟩ = some (.int .i64 s0) ∧ w'.cell? ⟨B0, 3, none⟩ = some (.int .i64 s1) ∧ w'.cell? ⟨B0, 4, none⟩ = some (.int .i64 c0) ∧ w'.cell? ⟨B0, 5, none⟩ = some (.int .i64 c1) ∧ w'.cell? ⟨B0 + 1, 0, none⟩ = some (.int .i64 a0) ∧ w'.cell? ⟨B0 + 1, 1, none⟩ = some (.int .i64 a1) ∧ w'.cell? ⟨B0 + 1, 2, none⟩ = some (.int .i64 g0) ∧ w'.cell? ⟨B0 + 1, 3, none⟩ = some (.int .i64 g1) ∧ w'.cell? ⟨B0 + 1 + 1, 0, none⟩ = some (.int .i64 dy) ∧ w'.cell? ⟨B0 + 1 + 1, 1, none⟩ = some (.int .i64 sp) ∧ w'.cell? ⟨B0 + 1 + 1, 2, none⟩ = some (.int .i64 tg) ∧ Below B0 w w') ⟨by rw [← hB0]; exact keepC hb1 (by go_cell), by rw [← hB0]; exact keepC hb1 (by go_cell), by rw [← hB0]; exact keepC hb1 (by go_cell), by rw [← hB0]; exact keepC hb1 (by go_cell), by rw [← hB0]; exact keepC hb1 (by go_cell), by rw [← hB0]; exact keepC hb1 (by go_cell), by rw [← hB0]; exact keepC hb1 (by go_cell), by rw [← hB0]; exact keepC hb1 (by go_cell), by rw [← hB0]; exact keepC hb1 (by go_cell), by rw [← hB0]; exact keepC hb1 (by go_cell), by rw [← hB0]; exact keepC hb1 (by go_cell), by rw [← hB0]; exact keepC hb1 (by go_cell), by rw [← hB0]; exact keepC hb1 (by go_cell), by rw [← hB0]; exact belowSeq hb1 (by go_grown)⟩ (fun wc hc => ?_)
  clear hb1
  obtain ⟨fa0, fa1, fa2, fa3, fa4, fa5, fb0, fb1, fb2, fb3, fd0, fd1, fd2, hB⟩ := hc
  have hs0 : B0 < wc.heap.size := World.block_lt_of_cell? wc _ fa0
  have hs1 : B0 + 1 < wc.heap.size := World.block_lt_of_cell? wc _ fb0
  have hs2 : B0 + 1 + 1 < wc.heap.size := World.block_lt_of_cell? wc _ fd0
  go_upto_region 4 with (go_at_call 24; (with_reducible refine Calls.mono (HA.out _) ?_); rintro e w1 ⟨rfl, hb1⟩)
  have hbw := belowSq hb1 ((Below.refl _ w1).alloc (Nat.le_refl _) (.cells #[.int .i64 y0, .int .i64 y1, .int .i64 y2, .int .i64 y3, .int .i64 y4, .int .i64 y5] 27))
  obtain ⟨BY, hBY⟩ : ∃ B, w1.heap.size = B := ⟨_, rfl⟩
  rw [hBY]
  refine nameWorld (fun w' => w'.cell? ⟨B0, 0, none⟩ = some (.int .i64 v0) ∧ w'.cell? ⟨B0, 1, none⟩ = some (.int .i64 v1) ∧ w'.cell? ⟨B0, 2, none⟩ = some (.int .i64 s0) ∧ w'.cell? ⟨B0, 3, none⟩ = some (.int .i64 s1) ∧ w'.cell? ⟨B0, 4, none⟩ = some (.int .i64 c0) ∧ w'.cell? ⟨B0, 5, none⟩ = some (.int .i64 c1) ∧ w'.cell? ⟨B0 + 1, 0, none⟩ = some (.int .i64 a0) ∧ w'.cell? ⟨B0 + 1, 1, none⟩ = some (.int .i64 a1) ∧ w'.cell? ⟨B0 + 1, 2, none⟩ = some (.int .i64 g0) ∧ w'.cell? ⟨B0 + 1, 3, none⟩ = some (.int .i64 g1) ∧ w'.cell? ⟨B0 + 1 + 1, 0, none⟩ = some (.int .i64 dy) ∧ w'.cell? ⟨B0 + 1 + 1, 1, none⟩ = some (.int .i64 sp) ∧ w'.cell? ⟨B0 + 1 + 1, 2, none⟩ = some (.int .i64 tg) ∧ w'.cell? ⟨BY, 0, none⟩ = some (.int .i64 y0) ∧ w'.cell? ⟨BY, 1, none⟩ = some (.int .i64 y1) ∧ w'.cell? ⟨BY, 2, none⟩ = some (.int .i64 y2) ∧ w'.cell? ⟨BY, 3, none⟩ = some (.int .i64 y3) ∧ w'.cell? ⟨BY, 4, none⟩ = some (.int .i64 y4) ∧ w'.cell? ⟨BY, 5, none⟩ = some (.int .i64 y5) ∧ Below B0 w w') ⟨keepC hbw fa0, keepC hbw fa1, keepC hbw fa2, keepC hbw fa3, keepC hbw fa4, keepC hbw fa5, keepC hbw fb0, keepC hbw fb1, keepC hbw fb2, keepC hbw fb3, keepC hbw fd0, keepC hbw fd1, keepC hbw fd2, (newBoth hBY (Below.refl _ _) 0 _ rfl).1, (newBoth hBY (Below.refl _ _) 1 _ rfl).1, (newBoth hBY (Below.refl _ _) 2 _ rfl).1, (newBoth hBY (Below.refl _ _) 3 _ rfl).1, (newBoth hBY (Below.refl _ _) 4 _ rfl).1, (newBoth hBY (Below.refl _ _) 5 _ rfl).1, hB.trans (hbw.mono (by omega))⟩ (fun wc hc => ?_)
  clear hb1 hbw hBY hs0 hs1 hs2
  clear fa0 fa1 fa2 fa3 fa4 fa5 fb0 fb1 fb2 fb3 fd0 fd1 fd2 hB
  obtain ⟨fa0, fa1, fa2, fa3, fa4, fa5, fb0, fb1, fb2, fb3, fd0, fd1, fd2, fp0, fp1, fp2, fp3, fp4, fp5, hB⟩ := hc
  have hs0 : B0 < wc.heap.size := World.block_lt_of_cell? wc _ fa0
  have hs1 : B0 + 1 < wc.heap.size := World.block_lt_of_cell? wc _ fb0
  have hs2 : B0 + 1 + 1 < wc.heap.size := World.block_lt_of_cell? wc _ fd0
  have hs3 : BY < wc.heap.size := World.block_lt_of_cell? wc _ fp0
  go_upto_region 7 with (go_at_call 18; (with_reducible refine Calls.mono (HS.out _) ?_); rintro e w1 ⟨rfl, hb1⟩)
  have hbw := belowSq hb1 ((Below.refl _ w1).alloc (Nat.le_refl _) (.cells #[.int .i64 0, .int .i64 0] 25))
  obtain ⟨BN, hBN⟩ : ∃ B, w1.heap.size = B := ⟨_, rfl⟩
  rw [hBN]
  refine nameWorld (fun w' => w'.cell? ⟨B0, 0, none⟩ = some (.int .i64 v0) ∧ w'.cell? ⟨B0, 1, none⟩ = some (.int .i64 v1) ∧ w'.cell? ⟨B0, 2, none⟩ = some (.int .i64 s0) ∧ w'.cell? ⟨B0, 3, none⟩ = some (.int .i64 s1) ∧ w'.cell? ⟨B0, 4, none⟩ = some (.int .i64 c0) ∧ w'.cell? ⟨B0, 5, none⟩ = some (.int .i64 c1) ∧ w'.cell? ⟨B0 + 1, 0, none⟩ = some (.int .i64 a0) ∧ w'.cell? ⟨B0 + 1, 1, none⟩ = some (.int .i64 a1) ∧ w'.cell? ⟨B0 + 1, 2, none⟩ = some (.int .i64 g0) ∧ w'.cell? ⟨B0 + 1, 3, none⟩ = some (.int .i64 g1) ∧ w'.cell? ⟨B0 + 1 + 1, 0, none⟩ = some (.int .i64 dy) ∧ w'.cell? ⟨B0 + 1 + 1, 1, none⟩ = some (.int .i64 sp) ∧ w'.cell? ⟨B0 + 1 + 1, 2, none⟩ = some (.int .i64 tg) ∧ w'.cell? ⟨BY, 0, none⟩ = some (.int .i64 y0) ∧ w'.cell? ⟨BY, 1, none⟩ = some (.int .i64 y1) ∧ w'.cell? ⟨BY, 2, none⟩ = some (.int .i64 y2) ∧ w'.cell? ⟨BY, 3, none⟩ = some (.int .i64 y3) ∧ w'.cell? ⟨BY, 4, none⟩ = some (.int .i64 y4) ∧ w'.cell? ⟨BY, 5, none⟩ = some (.int .i64 y5) ∧ w'.cell? ⟨BN, 0, none⟩ = some (.int .i64 0) ∧ w'.cell? ⟨BN, 1, none⟩ = some (.int .i64 0) ∧ Below B0 w w') ⟨keepC hbw fa0, keepC hbw fa1, keepC hbw fa2, keepC hbw fa3, keepC hbw fa4, keepC hbw fa5, keepC hbw fb0, keepC hbw fb1, keepC hbw fb2, keepC hbw fb3, keepC hbw fd0, keepC hbw fd1, keepC hbw fd2, keepC hbw fp0, keepC hbw fp1, keepC hbw fp2, keepC hbw fp3, keepC hbw fp4, keepC hbw fp5, (newBoth hBN (Below.refl _ _) 0 _ rfl).1, (newBoth hBN (Below.refl _ _) 1 _ rfl).1, hB.trans (hbw.mono (by omega))⟩ (fun wc hc => ?_)
  clear hb1 hbw hBN hs0 hs1 hs2 hs3
  clear fa0 fa1 fa2 fa3 fa4 fa5 fb0 fb1 fb2 fb3 fd0 fd1 fd2 fp0 fp1 fp2 fp3 fp4 fp5 hB
  obtain ⟨fa0, fa1, fa2, fa3, fa4, fa5, fb0, fb1, fb2, fb3, fd0, fd1, fd2, fp0, fp1, fp2, fp3, fp4, fp5, fq0, fq1, hB⟩ := hc
  have hs0 : B0 < wc.heap.size := World.block_lt_of_cell? wc _ fa0
  have hs1 : B0 + 1 < wc.heap.size := World.block_lt_of_cell? wc _ fb0
  have hs2 : B0 + 1 + 1 < wc.heap.size := World.block_lt_of_cell? wc _ fd0
  have hs3 : BY < wc.heap.size := World.block_lt_of_cell? wc _ fp0
  have hs4 : BN < wc.heap.size := World.block_lt_of_cell? wc _ fq0
  go_wp2_with fail
  go_ret
  exact ⟨rfl, by rw [hB0]; first | exact hB | exact hB.alloc (by omega) _⟩
set_option linter.unusedVariables false in
set_option linter.unusedSimpArgs false in
set_option maxRecDepth 100000 in
set_option maxHeartbeats 8000000 in
theorem fort_none (v0 v1 s0 s1 c0 c1 a0 a1 g0 g1 dy sp tg y0 y1 y2 y3 y4 y5 n0 n1 ee : Int) (w : World) (hW : ∀ w : World, Calls Try.prog 23 #[] w fun e w' => e = .returned (.bool true) ∧ Below w.heap.size w w') (hA : ∀ w : World, Calls Try.prog 24 #[.agg #[.int .i64 v0, .int .i64 v1, .int .i64 s0, .int .i64 s1, .int .i64 c0, .int .i64 c1], .agg #[.int .i64 a0, .int .i64 a1, .int .i64 g0, .int .i64 g1], .int .i64 dy] w fun e w' => e = .returned (.tuple #[.agg #[.int .i64 y0, .int .i64 y1, .int .i64 y2, .int .i64 y3, .int .i64 y4, .int .i64 y5], .int .i64 0]) ∧ Below w.heap.size w w') (hS : ∀ w : World, Calls Try.prog 18 #[.agg #[.int .i64 y0, .int .i64 y1, .int .i64 y2, .int .i64 y3, .int .i64 y4, .int .i64 y5], .int .i64 sp, .int .i64 tg] w fun e w' => e = .returned (.tuple #[.agg #[.int .i64 n0, .int .i64 n1], .int .i64 0]) ∧ Below w.heap.size w w') (hF : ∀ w : World, Calls Try.prog 17 #[.agg #[.int .i64 y0, .int .i64 y1, .int .i64 y2, .int .i64 y3, .int .i64 y4, .int .i64 y5], .agg #[.int .i64 n1, .int .i64 sp]] w fun e w' => e = .returned (.tuple #[.agg #[.int .i64 0, .int .i64 0, .int .i64 0, .int .i64 0, .int .i64 0, .int .i64 0], .int .i64 ee]) ∧ Below w.heap.size w w') (he : ee = 8 ∨ ee = 25) :
    Calls Try.prog 7 #[.agg #[.int .i64 v0, .int .i64 v1, .int .i64 s0, .int .i64 s1, .int .i64 c0, .int .i64 c1], .agg #[.int .i64 a0, .int .i64 a1, .int .i64 g0, .int .i64 g1], .agg #[.int .i64 dy, .int .i64 sp, .int .i64 tg]] w fun e w' => e = .returned (.bool true) ∧ Below w.heap.size w w' := by
  have HW := Lib.hid hW
  have HA := Lib.hid hA
  have HS := Lib.hid hS
  have HF := Lib.hid hF
  clear hW hA hS hF
  rcases he with rfl | rfl
  · go_enter Try.func7, Try.ntmps7
    go_upto_region 3 with (go_at_call 23; refine (HW.out _).mono ?_; rintro e w1 ⟨rfl, hb1⟩)
    obtain ⟨B0, hB0⟩ : ∃ B, w.heap.size = B := ⟨_, rfl⟩
    rw [hB0]
    refine nameWorld (fun w' => w'.cell? ⟨B0, 0, none⟩ = some (.int .i64 v0) ∧ w'.cell? ⟨B0, 1, none⟩ = some (.int .i64 v1) ∧ w'.cell? ⟨B0, 2, none⟩ = some (.int .i64 s0) ∧ w'.cell? ⟨B0, 3, none⟩ = some (.int .i64 s1) ∧ w'.cell? ⟨B0, 4, none⟩ = some (.int .i64 c0) ∧ w'.cell? ⟨B0, 5, none⟩ = some (.int .i64 c1) ∧ w'.cell? ⟨B0 + 1, 0, none⟩ = some (.int .i64 a0) ∧ w'.cell? ⟨B0 + 1, 1, none⟩ = some (.int .i64 a1) ∧ w'.cell? ⟨B0 + 1, 2, none⟩ = some (.int .i64 g0) ∧ w'.cell? ⟨B0 + 1, 3, none⟩ = some (.int .i64 g1) ∧ w'.cell? ⟨B0 + 1 + 1, 0, none⟩ = some (.int .i64 dy) ∧ w'.cell? ⟨B0 + 1 + 1, 1, none⟩ = some (.int .i64 sp) ∧ w'.cell? ⟨B0 + 1 + 1, 2, none⟩ = some (.int .i64 tg) ∧ Below B0 w w') ⟨by rw [← hB0]; exact keepC hb1 (by go_cell), by rw [← hB0]; exact keepC hb1 (by go_cell), by rw [← hB0]; exact keepC hb1 (by go_cell), by rw [← hB0]; exact keepC hb1 (by go_cell), by rw [← hB0]; exact keepC hb1 (by go_cell), by rw [← hB0]; exact keepC hb1 (by go_cell), by rw [← hB0]; exact keepC hb1 (by go_cell), by rw [← hB0]; exact keepC hb1 (by go_cell), by rw [← hB0]; exact keepC hb1 (by go_cell), by rw [← hB0]; exact keepC hb1 (by go_cell), by rw [← hB0]; exact keepC hb1 (by go_cell), by rw [← hB0]; exact keepC hb1 (by go_cell), by rw [← hB0]; exact keepC hb1 (by go_cell), by rw [← hB0]; exact belowSeq hb1 (by go_grown)⟩ (fun wc hc => ?_)
    clear hb1
    obtain ⟨fa0, fa1, fa2, fa3, fa4, fa5, fb0, fb1, fb2, fb3, fd0, fd1, fd2, hB⟩ := hc
    have hs0 : B0 < wc.heap.size := World.block_lt_of_cell? wc _ fa0
    have hs1 : B0 + 1 < wc.heap.size := World.block_lt_of_cell? wc _ fb0
    have hs2 : B0 + 1 + 1 < wc.heap.size := World.block_lt_of_cell? wc _ fd0
    go_upto_region 4 with (go_at_call 24; (with_reducible refine Calls.mono (HA.out _) ?_); rintro e w1 ⟨rfl, hb1⟩)
    have hbw := belowSq hb1 ((Below.refl _ w1).alloc (Nat.le_refl _) (.cells #[.int .i64 y0, .int .i64 y1, .int .i64 y2, .int .i64 y3, .int .i64 y4, .int .i64 y5] 27))
    obtain ⟨BY, hBY⟩ : ∃ B, w1.heap.size = B := ⟨_, rfl⟩
    rw [hBY]
    refine nameWorld (fun w' => w'.cell? ⟨B0, 0, none⟩ = some (.int .i64 v0) ∧ w'.cell? ⟨B0, 1, none⟩ = some (.int .i64 v1) ∧ w'.cell? ⟨B0, 2, none⟩ = some (.int .i64 s0) ∧ w'.cell? ⟨B0, 3, none⟩ = some (.int .i64 s1) ∧ w'.cell? ⟨B0, 4, none⟩ = some (.int .i64 c0) ∧ w'.cell? ⟨B0, 5, none⟩ = some (.int .i64 c1) ∧ w'.cell? ⟨B0 + 1, 0, none⟩ = some (.int .i64 a0) ∧ w'.cell? ⟨B0 + 1, 1, none⟩ = some (.int .i64 a1) ∧ w'.cell? ⟨B0 + 1, 2, none⟩ = some (.int .i64 g0) ∧ w'.cell? ⟨B0 + 1, 3, none⟩ = some (.int .i64 g1) ∧ w'.cell? ⟨B0 + 1 + 1, 0, none⟩ = some (.int .i64 dy) ∧ w'.cell? ⟨B0 + 1 + 1, 1, none⟩ = some (.int .i64 sp) ∧ w'.cell? ⟨B0 + 1 + 1, 2, none⟩ = some (.int .i64 tg) ∧ w'.cell? ⟨BY, 0, none⟩ = some (.int .i64 y0) ∧ w'.cell? ⟨BY, 1, none⟩ = some (.int .i64 y1) ∧ w'.cell? ⟨BY, 2, none⟩ = some (.int .i64 y2) ∧ w'.cell? ⟨BY, 3, none⟩ = some (.int .i64 y3) ∧ w'.cell? ⟨BY, 4, none⟩ = some (.int .i64 y4) ∧ w'.cell? ⟨BY, 5, none⟩ = some (.int .i64 y5) ∧ Below B0 w w') ⟨keepC hbw fa0, keepC hbw fa1, keepC hbw fa2, keepC hbw fa3, keepC hbw fa4, keepC hbw fa5, keepC hbw fb0, keepC hbw fb1, keepC hbw fb2, keepC hbw fb3, keepC hbw fd0, keepC hbw fd1, keepC hbw fd2, (newBoth hBY (Below.refl _ _) 0 _ rfl).1, (newBoth hBY (Below.refl _ _) 1 _ rfl).1, (newBoth hBY (Below.refl _ _) 2 _ rfl).1, (newBoth hBY (Below.refl _ _) 3 _ rfl).1, (newBoth hBY (Below.refl _ _) 4 _ rfl).1, (newBoth hBY (Below.refl _ _) 5 _ rfl).1, hB.trans (hbw.mono (by omega))⟩ (fun wc hc => ?_)
    clear hb1 hbw hBY hs0 hs1 hs2
    clear fa0 fa1 fa2 fa3 fa4 fa5 fb0 fb1 fb2 fb3 fd0 fd1 fd2 hB
    obtain ⟨fa0, fa1, fa2, fa3, fa4, fa5, fb0, fb1, fb2, fb3, fd0, fd1, fd2, fp0, fp1, fp2, fp3, fp4, fp5, hB⟩ := hc
    have hs0 : B0 < wc.heap.size := World.block_lt_of_cell? wc _ fa0
    have hs1 : B0 + 1 < wc.heap.size := World.block_lt_of_cell? wc _ fb0
    have hs2 : B0 + 1 + 1 < wc.heap.size := World.block_lt_of_cell? wc _ fd0
    have hs3 : BY < wc.heap.size := World.block_lt_of_cell? wc _ fp0
    go_upto_region 7 with (go_at_call 18; (with_reducible refine Calls.mono (HS.out _) ?_); rintro e w1 ⟨rfl, hb1⟩)
    have hbw := belowSq hb1 ((Below.refl _ w1).alloc (Nat.le_refl _) (.cells #[.int .i64 n0, .int .i64 n1] 25))
    obtain ⟨BN, hBN⟩ : ∃ B, w1.heap.size = B := ⟨_, rfl⟩
    rw [hBN]
    refine nameWorld (fun w' => w'.cell? ⟨B0, 0, none⟩ = some (.int .i64 v0) ∧ w'.cell? ⟨B0, 1, none⟩ = some (.int .i64 v1) ∧ w'.cell? ⟨B0, 2, none⟩ = some (.int .i64 s0) ∧ w'.cell? ⟨B0, 3, none⟩ = some (.int .i64 s1) ∧ w'.cell? ⟨B0, 4, none⟩ = some (.int .i64 c0) ∧ w'.cell? ⟨B0, 5, none⟩ = some (.int .i64 c1) ∧ w'.cell? ⟨B0 + 1, 0, none⟩ = some (.int .i64 a0) ∧ w'.cell? ⟨B0 + 1, 1, none⟩ = some (.int .i64 a1) ∧ w'.cell? ⟨B0 + 1, 2, none⟩ = some (.int .i64 g0) ∧ w'.cell? ⟨B0 + 1, 3, none⟩ = some (.int .i64 g1) ∧ w'.cell? ⟨B0 + 1 + 1, 0, none⟩ = some (.int .i64 dy) ∧ w'.cell? ⟨B0 + 1 + 1, 1, none⟩ = some (.int .i64 sp) ∧ w'.cell? ⟨B0 + 1 + 1, 2, none⟩ = some (.int .i64 tg) ∧ w'.cell? ⟨BY, 0, none⟩ = some (.int .i64 y0) ∧ w'.cell? ⟨BY, 1, none⟩ = some (.int .i64 y1) ∧ w'.cell? ⟨BY, 2, none⟩ = some (.int .i64 y2) ∧ w'.cell? ⟨BY, 3, none⟩ = some (.int .i64 y3) ∧ w'.cell? ⟨BY, 4, none⟩ = some (.int .i64 y4) ∧ w'.cell? ⟨BY, 5, none⟩ = some (.int .i64 y5) ∧ w'.cell? ⟨BN, 0, none⟩ = some (.int .i64 n0) ∧ w'.cell? ⟨BN, 1, none⟩ = some (.int .i64 n1) ∧ Below B0 w w') ⟨keepC hbw fa0, keepC hbw fa1, keepC hbw fa2, keepC hbw fa3, keepC hbw fa4, keepC hbw fa5, keepC hbw fb0, keepC hbw fb1, keepC hbw fb2, keepC hbw fb3, keepC hbw fd0, keepC hbw fd1, keepC hbw fd2, keepC hbw fp0, keepC hbw fp1, keepC hbw fp2, keepC hbw fp3, keepC hbw fp4, keepC hbw fp5, (newBoth hBN (Below.refl _ _) 0 _ rfl).1, (newBoth hBN (Below.refl _ _) 1 _ rfl).1, hB.trans (hbw.mono (by omega))⟩ (fun wc hc => ?_)
    clear hb1 hbw hBN hs0 hs1 hs2 hs3
    clear fa0 fa1 fa2 fa3 fa4 fa5 fb0 fb1 fb2 fb3 fd0 fd1 fd2 fp0 fp1 fp2 fp3 fp4 fp5 hB
    obtain ⟨fa0, fa1, fa2, fa3, fa4, fa5, fb0, fb1, fb2, fb3, fd0, fd1, fd2, fp0, fp1, fp2, fp3, fp4, fp5, fq0, fq1, hB⟩ := hc
    have hs0 : B0 < wc.heap.size := World.block_lt_of_cell? wc _ fa0
    have hs1 : B0 + 1 < wc.heap.size := World.block_lt_of_cell? wc _ fb0
    have hs2 : B0 + 1 + 1 < wc.heap.size := World.block_lt_of_cell? wc _ fd0
    have hs3 : BY < wc.heap.size := World.block_lt_of_cell? wc _ fp0
    have hs4 : BN < wc.heap.size := World.block_lt_of_cell? wc _ fq0
    go_upto_region 10 with (go_at_call 17; (with_reducible refine Calls.mono (HF.out _) ?_); rintro e w1 ⟨rfl, hb1⟩)
    have hbw := belowSq hb1 ((Below.refl _ w1).alloc (Nat.le_refl _) (.cells #[.int .i64 0, .int .i64 0, .int .i64 0, .int .i64 0, .int .i64 0, .int .i64 0] 27))
    obtain ⟨BZ, hBZ⟩ : ∃ B, w1.heap.size = B := ⟨_, rfl⟩
    rw [hBZ]
    refine nameWorld (fun w' => w'.cell? ⟨B0, 0, none⟩ = some (.int .i64 v0) ∧ w'.cell? ⟨B0, 1, none⟩ = some (.int .i64 v1) ∧ w'.cell? ⟨B0, 2, none⟩ = some (.int .i64 s0) ∧ w'.cell? ⟨B0, 3, none⟩ = some (.int .i64 s1) ∧ w'.cell? ⟨B0, 4, none⟩ = some (.int .i64 c0) ∧ w'.cell? ⟨B0, 5, none⟩ = some (.int .i64 c1) ∧ w'.cell? ⟨B0 + 1, 0, none⟩ = some (.int .i64 a0) ∧ w'.cell? ⟨B0 + 1, 1, none⟩ = some (.int .i64 a1) ∧ w'.cell? ⟨B0 + 1, 2, none⟩ = some (.int .i64 g0) ∧ w'.cell? ⟨B0 + 1, 3, none⟩ = some (.int .i64 g1) ∧ w'.cell? ⟨B0 + 1 + 1, 0, none⟩ = some (.int .i64 dy) ∧ w'.cell? ⟨B0 + 1 + 1, 1, none⟩ = some (.int .i64 sp) ∧ w'.cell? ⟨B0 + 1 + 1, 2, none⟩ = some (.int .i64 tg) ∧ w'.cell? ⟨BY, 0, none⟩ = some (.int .i64 y0) ∧ w'.cell? ⟨BY, 1, none⟩ = some (.int .i64 y1) ∧ w'.cell? ⟨BY, 2, none⟩ = some (.int .i64 y2) ∧ w'.cell? ⟨BY, 3, none⟩ = some (.int .i64 y3) ∧ w'.cell? ⟨BY, 4, none⟩ = some (.int .i64 y4) ∧ w'.cell? ⟨BY, 5, none⟩ = some (.int .i64 y5) ∧ w'.cell? ⟨BN, 0, none⟩ = some (.int .i64 n0) ∧ w'.cell? ⟨BN, 1, none⟩ = some (.int .i64 n1) ∧ w'.cell? ⟨BZ, 0, none⟩ = some (.int .i64 0) ∧ w'.cell? ⟨BZ, 1, none⟩ = some (.int .i64 0) ∧ w'.cell? ⟨BZ, 2, none⟩ = some (.int .i64 0) ∧ w'.cell? ⟨BZ, 3, none⟩ = some (.int .i64 0) ∧ w'.cell? ⟨BZ, 4, none⟩ = some (.int .i64 0) ∧ w'.cell? ⟨BZ, 5, none⟩ = some (.int .i64 0) ∧ Below B0 w w') ⟨keepC hbw fa0, keepC hbw fa1, keepC hbw fa2, keepC hbw fa3, keepC hbw fa4, keepC hbw fa5, keepC hbw fb0, keepC hbw fb1, keepC hbw fb2, keepC hbw fb3, keepC hbw fd0, keepC hbw fd1, keepC hbw fd2, keepC hbw fp0, keepC hbw fp1, keepC hbw fp2, keepC hbw fp3, keepC hbw fp4, keepC hbw fp5, keepC hbw fq0, keepC hbw fq1, (newBoth hBZ (Below.refl _ _) 0 _ rfl).1, (newBoth hBZ (Below.refl _ _) 1 _ rfl).1, (newBoth hBZ (Below.refl _ _) 2 _ rfl).1, (newBoth hBZ (Below.refl _ _) 3 _ rfl).1, (newBoth hBZ (Below.refl _ _) 4 _ rfl).1, (newBoth hBZ (Below.refl _ _) 5 _ rfl).1, hB.trans (hbw.mono (by omega))⟩ (fun wc hc => ?_)
    clear hb1 hbw hBZ hs0 hs1 hs2 hs3 hs4
    clear fa0 fa1 fa2 fa3 fa4 fa5 fb0 fb1 fb2 fb3 fd0 fd1 fd2 fp0 fp1 fp2 fp3 fp4 fp5 fq0 fq1 hB
    obtain ⟨fa0, fa1, fa2, fa3, fa4, fa5, fb0, fb1, fb2, fb3, fd0, fd1, fd2, fp0, fp1, fp2, fp3, fp4, fp5, fq0, fq1, fr0, fr1, fr2, fr3, fr4, fr5, hB⟩ := hc
    have hs0 : B0 < wc.heap.size := World.block_lt_of_cell? wc _ fa0
    have hs1 : B0 + 1 < wc.heap.size := World.block_lt_of_cell? wc _ fb0
    have hs2 : B0 + 1 + 1 < wc.heap.size := World.block_lt_of_cell? wc _ fd0
    have hs3 : BY < wc.heap.size := World.block_lt_of_cell? wc _ fp0
    have hs4 : BN < wc.heap.size := World.block_lt_of_cell? wc _ fq0
    have hs5 : BZ < wc.heap.size := World.block_lt_of_cell? wc _ fr0
    go_wp2_with fail
    go_ret
    exact ⟨rfl, by rw [hB0]; first | exact hB | exact hB.alloc (by omega) _⟩
  · go_enter Try.func7, Try.ntmps7
    go_upto_region 3 with (go_at_call 23; refine (HW.out _).mono ?_; rintro e w1 ⟨rfl, hb1⟩)
    obtain ⟨B0, hB0⟩ : ∃ B, w.heap.size = B := ⟨_, rfl⟩
    rw [hB0]
    refine nameWorld (fun w' => w'.cell? ⟨B0, 0, none⟩ = some (.int .i64 v0) ∧ w'.cell? ⟨B0, 1, none⟩ = some (.int .i64 v1) ∧ w'.cell? ⟨B0, 2, none⟩ = some (.int .i64 s0) ∧ w'.cell? ⟨B0, 3, none⟩ = some (.int .i64 s1) ∧ w'.cell? ⟨B0, 4, none⟩ = some (.int .i64 c0) ∧ w'.cell? ⟨B0, 5, none⟩ = some (.int .i64 c1) ∧ w'.cell? ⟨B0 + 1, 0, none⟩ = some (.int .i64 a0) ∧ w'.cell? ⟨B0 + 1, 1, none⟩ = some (.int .i64 a1) ∧ w'.cell? ⟨B0 + 1, 2, none⟩ = some (.int .i64 g0) ∧ w'.cell? ⟨B0 + 1, 3, none⟩ = some (.int .i64 g1) ∧ w'.cell? ⟨B0 + 1 + 1, 0, none⟩ = some (.int .i64 dy) ∧ w'.cell? ⟨B0 + 1 + 1, 1, none⟩ = some (.int .i64 sp) ∧ w'.cell? ⟨B0 + 1 + 1, 2, none⟩ = some (.int .i64 tg) ∧ Below B0 w w') ⟨by rw [← hB0]; exact keepC hb1 (by go_cell), by rw [← hB0]; exact keepC hb1 (by go_cell), by rw [← hB0]; exact keepC hb1 (by go_cell), by rw [← hB0]; exact keepC hb1 (by go_cell), by rw [← hB0]; exact keepC hb1 (by go_cell), by rw [← hB0]; exact keepC hb1 (by go_cell), by rw [← hB0]; exact keepC hb1 (by go_cell), by rw [← hB0]; exact keepC hb1 (by go_cell), by rw [← hB0]; exact keepC hb1 (by go_cell), by rw [← hB0]; exact keepC hb1 (by go_cell), by rw [← hB0]; exact keepC hb1 (by go_cell), by rw [← hB0]; exact keepC hb1 (by go_cell), by rw [← hB0]; exact keepC hb1 (by go_cell), by rw [← hB0]; exact belowSeq hb1 (by go_grown)⟩ (fun wc hc => ?_)
    clear hb1
    obtain ⟨fa0, fa1, fa2, fa3, fa4, fa5, fb0, fb1, fb2, fb3, fd0, fd1, fd2, hB⟩ := hc
    have hs0 : B0 < wc.heap.size := World.block_lt_of_cell? wc _ fa0
    have hs1 : B0 + 1 < wc.heap.size := World.block_lt_of_cell? wc _ fb0
    have hs2 : B0 + 1 + 1 < wc.heap.size := World.block_lt_of_cell? wc _ fd0
    go_upto_region 4 with (go_at_call 24; (with_reducible refine Calls.mono (HA.out _) ?_); rintro e w1 ⟨rfl, hb1⟩)
    have hbw := belowSq hb1 ((Below.refl _ w1).alloc (Nat.le_refl _) (.cells #[.int .i64 y0, .int .i64 y1, .int .i64 y2, .int .i64 y3, .int .i64 y4, .int .i64 y5] 27))
    obtain ⟨BY, hBY⟩ : ∃ B, w1.heap.size = B := ⟨_, rfl⟩
    rw [hBY]
    refine nameWorld (fun w' => w'.cell? ⟨B0, 0, none⟩ = some (.int .i64 v0) ∧ w'.cell? ⟨B0, 1, none⟩ = some (.int .i64 v1) ∧ w'.cell? ⟨B0, 2, none⟩ = some (.int .i64 s0) ∧ w'.cell? ⟨B0, 3, none⟩ = some (.int .i64 s1) ∧ w'.cell? ⟨B0, 4, none⟩ = some (.int .i64 c0) ∧ w'.cell? ⟨B0, 5, none⟩ = some (.int .i64 c1) ∧ w'.cell? ⟨B0 + 1, 0, none⟩ = some (.int .i64 a0) ∧ w'.cell? ⟨B0 + 1, 1, none⟩ = some (.int .i64 a1) ∧ w'.cell? ⟨B0 + 1, 2, none⟩ = some (.int .i64 g0) ∧ w'.cell? ⟨B0 + 1, 3, none⟩ = some (.int .i64 g1) ∧ w'.cell? ⟨B0 + 1 + 1, 0, none⟩ = some (.int .i64 dy) ∧ w'.cell? ⟨B0 + 1 + 1, 1, none⟩ = some (.int .i64 sp) ∧ w'.cell? ⟨B0 + 1 + 1, 2, none⟩ = some (.int .i64 tg) ∧ w'.cell? ⟨BY, 0, none⟩ = some (.int .i64 y0) ∧ w'.cell? ⟨BY, 1, none⟩ = some (.int .i64 y1) ∧ w'.cell? ⟨BY, 2, none⟩ = some (.int .i64 y2) ∧ w'.cell? ⟨BY, 3, none⟩ = some (.int .i64 y3) ∧ w'.cell? ⟨BY, 4, none⟩ = some (.int .i64 y4) ∧ w'.cell? ⟨BY, 5, none⟩ = some (.int .i64 y5) ∧ Below B0 w w') ⟨keepC hbw fa0, keepC hbw fa1, keepC hbw fa2, keepC hbw fa3, keepC hbw fa4, keepC hbw fa5, keepC hbw fb0, keepC hbw fb1, keepC hbw fb2, keepC hbw fb3, keepC hbw fd0, keepC hbw fd1, keepC hbw fd2, (newBoth hBY (Below.refl _ _) 0 _ rfl).1, (newBoth hBY (Below.refl _ _) 1 _ rfl).1, (newBoth hBY (Below.refl _ _) 2 _ rfl).1, (newBoth hBY (Below.refl _ _) 3 _ rfl).1, (newBoth hBY (Below.refl _ _) 4 _ rfl).1, (newBoth hBY (Below.refl _ _) 5 _ rfl).1, hB.trans (hbw.mono (by omega))⟩ (fun wc hc => ?_)
    clear hb1 hbw hBY hs0 hs1 hs2
    clear fa0 fa1 fa2 fa3 fa4 fa5 fb0 fb1 fb2 fb3 fd0 fd1 fd2 hB
    obtain ⟨fa0, fa1, fa2, fa3, fa4, fa5, fb0, fb1, fb2, fb3, fd0, fd1, fd2, fp0, fp1, fp2, fp3, fp4, fp5, hB⟩ := hc
    have hs0 : B0 < wc.heap.size := World.block_lt_of_cell? wc _ fa0
    have hs1 : B0 + 1 < wc.heap.size := World.block_lt_of_cell? wc _ fb0
    have hs2 : B0 + 1 + 1 < wc.heap.size := World.block_lt_of_cell? wc _ fd0
    have hs3 : BY < wc.heap.size := World.block_lt_of_cell? wc _ fp0
    go_upto_region 7 with (go_at_call 18; (with_reducible refine Calls.mono (HS.out _) ?_); rintro e w1 ⟨rfl, hb1⟩)
    have hbw := belowSq hb1 ((Below.refl _ w1).alloc (Nat.le_refl _) (.cells #[.int .i64 n0, .int .i64 n1] 25))
    obtain ⟨BN, hBN⟩ : ∃ B, w1.heap.size = B := ⟨_, rfl⟩
    rw [hBN]
    refine nameWorld (fun w' => w'.cell? ⟨B0, 0, none⟩ = some (.int .i64 v0) ∧ w'.cell? ⟨B0, 1, none⟩ = some (.int .i64 v1) ∧ w'.cell? ⟨B0, 2, none⟩ = some (.int .i64 s0) ∧ w'.cell? ⟨B0, 3, none⟩ = some (.int .i64 s1) ∧ w'.cell? ⟨B0, 4, none⟩ = some (.int .i64 c0) ∧ w'.cell? ⟨B0, 5, none⟩ = some (.int .i64 c1) ∧ w'.cell? ⟨B0 + 1, 0, none⟩ = some (.int .i64 a0) ∧ w'.cell? ⟨B0 + 1, 1, none⟩ = some (.int .i64 a1) ∧ w'.cell? ⟨B0 + 1, 2, none⟩ = some (.int .i64 g0) ∧ w'.cell? ⟨B0 + 1, 3, none⟩ = some (.int .i64 g1) ∧ w'.cell? ⟨B0 + 1 + 1, 0, none⟩ = some (.int .i64 dy) ∧ w'.cell? ⟨B0 + 1 + 1, 1, none⟩ = some (.int .i64 sp) ∧ w'.cell? ⟨B0 + 1 + 1, 2, none⟩ = some (.int .i64 tg) ∧ w'.cell? ⟨BY, 0, none⟩ = some (.int .i64 y0) ∧ w'.cell? ⟨BY, 1, none⟩ = some (.int .i64 y1) ∧ w'.cell? ⟨BY, 2, none⟩ = some (.int .i64 y2) ∧ w'.cell? ⟨BY, 3, none⟩ = some (.int .i64 y3) ∧ w'.cell? ⟨BY, 4, none⟩ = some (.int .i64 y4) ∧ w'.cell? ⟨BY, 5, none⟩ = some (.int .i64 y5) ∧ w'.cell? ⟨BN, 0, none⟩ = some (.int .i64 n0) ∧ w'.cell? ⟨BN, 1, none⟩ = some (.int .i64 n1) ∧ Below B0 w w') ⟨keepC hbw fa0, keepC hbw fa1, keepC hbw fa2, keepC hbw fa3, keepC hbw fa4, keepC hbw fa5, keepC hbw fb0, keepC hbw fb1, keepC hbw fb2, keepC hbw fb3, keepC hbw fd0, keepC hbw fd1, keepC hbw fd2, keepC hbw fp0, keepC hbw fp1, keepC hbw fp2, keepC hbw fp3, keepC hbw fp4, keepC hbw fp5, (newBoth hBN (Below.refl _ _) 0 _ rfl).1, (newBoth hBN (Below.refl _ _) 1 _ rfl).1, hB.trans (hbw.mono (by omega))⟩ (fun wc hc => ?_)
    clear hb1 hbw hBN hs0 hs1 hs2 hs3
    clear fa0 fa1 fa2 fa3 fa4 fa5 fb0 fb1 fb2 fb3 fd0 fd1 fd2 fp0 fp1 fp2 fp3 fp4 fp5 hB
    obtain ⟨fa0, fa1, fa2, fa3, fa4, fa5, fb0, fb1, fb2, fb3, fd0, fd1, fd2, fp0, fp1, fp2, fp3, fp4, fp5, fq0, fq1, hB⟩ := hc
    have hs0 : B0 < wc.heap.size := World.block_lt_of_cell? wc _ fa0
    have hs1 : B0 + 1 < wc.heap.size := World.block_lt_of_cell? wc _ fb0
    have hs2 : B0 + 1 + 1 < wc.heap.size := World.block_lt_of_cell? wc _ fd0
    have hs3 : BY < wc.heap.size := World.block_lt_of_cell? wc _ fp0
    have hs4 : BN < wc.heap.size := World.block_lt_of_cell? wc _ fq0
    go_upto_region 10 with (go_at_call 17; (with_reducible refine Calls.mono (HF.out _) ?_); rintro e w1 ⟨rfl, hb1⟩)
    have hbw := belowSq hb1 ((Below.refl _ w1).alloc (Nat.le_refl _) (.cells #[.int .i64 0, .int .i64 0, .int .i64 0, .int .i64 0, .int .i64 0, .int .i64 0] 27))
    obtain ⟨BZ, hBZ⟩ : ∃ B, w1.heap.size = B := ⟨_, rfl⟩
    rw [hBZ]
    refine nameWorld (fun w' => w'.cell? ⟨B0, 0, none⟩ = some (.int .i64 v0) ∧ w'.cell? ⟨B0, 1, none⟩ = some (.int .i64 v1) ∧ w'.cell? ⟨B0, 2, none⟩ = some (.int .i64 s0) ∧ w'.cell? ⟨B0, 3, none⟩ = some (.int .i64 s1) ∧ w'.cell? ⟨B0, 4, none⟩ = some (.int .i64 c0) ∧ w'.cell? ⟨B0, 5, none⟩ = some (.int .i64 c1) ∧ w'.cell? ⟨B0 + 1, 0, none⟩ = some (.int .i64 a0) ∧ w'.cell? ⟨B0 + 1, 1, none⟩ = some (.int .i64 a1) ∧ w'.cell? ⟨B0 + 1, 2, none⟩ = some (.int .i64 g0) ∧ w'.cell? ⟨B0 + 1, 3, none⟩ = some (.int .i64 g1) ∧ w'.cell? ⟨B0 + 1 + 1, 0, none⟩ = some (.int .i64 dy) ∧ w'.cell? ⟨B0 + 1 + 1, 1, none⟩ = some (.int .i64 sp) ∧ w'.cell? ⟨B0 + 1 + 1, 2, none⟩ = some (.int .i64 tg) ∧ w'.cell? ⟨BY, 0, none⟩ = some (.int .i64 y0) ∧ w'.cell? ⟨BY, 1, none⟩ = some (.int .i64 y1) ∧ w'.cell? ⟨BY, 2, none⟩ = some (.int .i64 y2) ∧ w'.cell? ⟨BY, 3, none⟩ = some (.int .i64 y3) ∧ w'.cell? ⟨BY, 4, none⟩ = some (.int .i64 y4) ∧ w'.cell? ⟨BY, 5, none⟩ = some (.int .i64 y5) ∧ w'.cell? ⟨BN, 0, none⟩ = some (.int .i64 n0) ∧ w'.cell? ⟨BN, 1, none⟩ = some (.int .i64 n1) ∧ w'.cell? ⟨BZ, 0, none⟩ = some (.int .i64 0) ∧ w'.cell? ⟨BZ, 1, none⟩ = some (.int .i64 0) ∧ w'.cell? ⟨BZ, 2, none⟩ = some (.int .i64 0) ∧ w'.cell? ⟨BZ, 3, none⟩ = some (.int .i64 0) ∧ w'.cell? ⟨BZ, 4, none⟩ = some (.int .i64 0) ∧ w'.cell? ⟨BZ, 5, none⟩ = some (.int .i64 0) ∧ Below B0 w w') ⟨keepC hbw fa0, keepC hbw fa1, keepC hbw fa2, keepC hbw fa3, keepC hbw fa4, keepC hbw fa5, keepC hbw fb0, keepC hbw fb1, keepC hbw fb2, keepC hbw fb3, keepC hbw fd0, keepC hbw fd1, keepC hbw fd2, keepC hbw fp0, keepC hbw fp1, keepC hbw fp2, keepC hbw fp3, keepC hbw fp4, keepC hbw fp5, keepC hbw fq0, keepC hbw fq1, (newBoth hBZ (Below.refl _ _) 0 _ rfl).1, (newBoth hBZ (Below.refl _ _) 1 _ rfl).1, (newBoth hBZ (Below.refl _ _) 2 _ rfl).1, (newBoth hBZ (Below.refl _ _) 3 _ rfl).1, (newBoth hBZ (Below.refl _ _) 4 _ rfl).1, (newBoth hBZ (Below.refl _ _) 5 _ rfl).1, hB.trans (hbw.mono (by omega))⟩ (fun wc hc => ?_)
    clear hb1 hbw hBZ hs0 hs1 hs2 hs3 hs4
    clear fa0 fa1 fa2 fa3 fa4 fa5 fb0 fb1 fb2 fb3 fd0 fd1 fd2 fp0 fp1 fp2 fp3 fp4 fp5 fq0 fq1 hB
    obtain ⟨fa0, fa1, fa2, fa3, fa4, fa5, fb0, fb1, fb2, fb3, fd0, fd1, fd2, fp0, fp1, fp2, fp3, fp4, fp5, fq0, fq1, fr0, fr1, fr2, fr3, fr4, fr5, hB⟩ := hc
    have hs0 : B0 < wc.heap.size := World.block_lt_of_cell? wc _ fa0
    have hs1 : B0 + 1 < wc.heap.size := World.block_lt_of_cell? wc _ fb0
    have hs2 : B0 + 1 + 1 < wc.heap.size := World.block_lt_of_cell? wc _ fd0
    have hs3 : BY < wc.heap.size := World.block_lt_of_cell? wc _ fp0
    have hs4 : BN < wc.heap.size := World.block_lt_of_cell? wc _ fq0
    have hs5 : BZ < wc.heap.size := World.block_lt_of_cell? wc _ fr0
    go_wp2_with fail
    go_ret
    exact ⟨rfl, by rw [hB0]; first | exact hB | exact hB.alloc (by omega) _⟩
set_option linter.unusedVariables false in
set_option linter.unusedSimpArgs false in
set_option maxRecDepth 100000 in
set_option maxHeartbeats 8000000 in
theorem fort_fine (v0 v1 s0 s1 c0 c1 a0 a1 g0 g1 dy sp tg y0 y1 y2 y3 y4 y5 n0 n1 z0 z1 z2 z3 z4 z5 : Int) (w : World) (hW : ∀ w : World, Calls Try.prog 23 #[] w fun e w' => e = .returned (.bool true) ∧ Below w.heap.size w w') (hA : ∀ w : World, Calls Try.prog 24 #[.agg #[.int .i64 v0, .int .i64 v1, .int .i64 s0, .int .i64 s1, .int .i64 c0, .int .i64 c1], .agg #[.int .i64 a0, .int .i64 a1, .int .i64 g0, .int .i64 g1], .int .i64 dy] w fun e w' => e = .returned (.tuple #[.agg #[.int .i64 y0, .int .i64 y1, .int .i64 y2, .int .i64 y3, .int .i64 y4, .int .i64 y5], .int .i64 0]) ∧ Below w.heap.size w w') (hS : ∀ w : World, Calls Try.prog 18 #[.agg #[.int .i64 y0, .int .i64 y1, .int .i64 y2, .int .i64 y3, .int .i64 y4, .int .i64 y5], .int .i64 sp, .int .i64 tg] w fun e w' => e = .returned (.tuple #[.agg #[.int .i64 n0, .int .i64 n1], .int .i64 0]) ∧ Below w.heap.size w w') (hF : ∀ w : World, Calls Try.prog 17 #[.agg #[.int .i64 y0, .int .i64 y1, .int .i64 y2, .int .i64 y3, .int .i64 y4, .int .i64 y5], .agg #[.int .i64 n1, .int .i64 sp]] w fun e w' => e = .returned (.tuple #[.agg #[.int .i64 z0, .int .i64 z1, .int .i64 z2, .int .i64 z3, .int .i64 z4, .int .i64 z5], .int .i64 0]) ∧ Below w.heap.size w w') (hL : ∀ w : World, Calls Try.prog 25 #[.agg #[.int .i64 z0, .int .i64 z1, .int .i64 z2, .int .i64 z3, .int .i64 z4, .int .i64 z5], .agg #[.int .i64 tg, .int .i64 10000, .int .i64 0, .int .i64 100000]] w fun e w' => e = .returned (.tuple #[.int .i64 2, .int .i64 0]) ∧ Below w.heap.size w w') :
    Calls Try.prog 7 #[.agg #[.int .i64 v0, .int .i64 v1, .int .i64 s0, .int .i64 s1, .int .i64 c0, .int .i64 c1], .agg #[.int .i64 a0, .int .i64 a1, .int .i64 g0, .int .i64 g1], .agg #[.int .i64 dy, .int .i64 sp, .int .i64 tg]] w fun e w' => e = .returned (.bool true) ∧ Below w.heap.size w w' := by
  have HW := Lib.hid hW
  have HA := Lib.hid hA
  have HS := Lib.hid hS
  have HF := Lib.hid hF
  have HL := Lib.hid hL
  clear hW hA hS hF hL
  go_enter Try.func7, Try.ntmps7
  go_upto_region 3 with (go_at_call 23; refine (HW.out _).mono ?_; rintro e w1 ⟨rfl, hb1⟩)
  obtain ⟨B0, hB0⟩ : ∃ B, w.heap.size = B := ⟨_, rfl⟩
  rw [hB0]
  refine nameWorld (fun w' => w'.cell? ⟨B0, 0, none⟩ = some (.int .i64 v0) ∧ w'.cell? ⟨B0, 1, none⟩ = some (.int .i64 v1) ∧ w'.cell? ⟨B0, 2, none⟩ = some (.int .i64 s0) ∧ w'.cell? ⟨B0, 3, none⟩ = some (.int .i64 s1) ∧ w'.cell? ⟨B0, 4, none⟩ = some (.int .i64 c0) ∧ w'.cell? ⟨B0, 5, none⟩ = some (.int .i64 c1) ∧ w'.cell? ⟨B0 + 1, 0, none⟩ = some (.int .i64 a0) ∧ w'.cell? ⟨B0 + 1, 1, none⟩ = some (.int .i64 a1) ∧ w'.cell? ⟨B0 + 1, 2, none⟩ = some (.int .i64 g0) ∧ w'.cell? ⟨B0 + 1, 3, none⟩ = some (.int .i64 g1) ∧ w'.cell? ⟨B0 + 1 + 1, 0, none⟩ = some (.int .i64 dy) ∧ w'.cell? ⟨B0 + 1 + 1, 1, none⟩ = some (.int .i64 sp) ∧ w'.cell? ⟨B0 + 1 + 1, 2, none⟩ = some (.int .i64 tg) ∧ Below B0 w w') ⟨by rw [← hB0]; exact keepC hb1 (by go_cell), by rw [← hB0]; exact keepC hb1 (by go_cell), by rw [← hB0]; exact keepC hb1 (by go_cell), by rw [← hB0]; exact keepC hb1 (by go_cell), by rw [← hB0]; exact keepC hb1 (by go_cell), by rw [← hB0]; exact keepC hb1 (by go_cell), by rw [← hB0]; exact keepC hb1 (by go_cell), by rw [← hB0]; exact keepC hb1 (by go_cell), by rw [← hB0]; exact keepC hb1 (by go_cell), by rw [← hB0]; exact keepC hb1 (by go_cell), by rw [← hB0]; exact keepC hb1 (by go_cell), by rw [← hB0]; exact keepC hb1 (by go_cell), by rw [← hB0]; exact keepC hb1 (by go_cell), by rw [← hB0]; exact belowSeq hb1 (by go_grown)⟩ (fun wc hc => ?_)
  clear hb1
  obtain ⟨fa0, fa1, fa2, fa3, fa4, fa5, fb0, fb1, fb2, fb3, fd0, fd1, fd2, hB⟩ := hc
  have hs0 : B0 < wc.heap.size := World.block_lt_of_cell? wc _ fa0
  have hs1 : B0 + 1 < wc.heap.size := World.block_lt_of_cell? wc _ fb0
  have hs2 : B0 + 1 + 1 < wc.heap.size := World.block_lt_of_cell? wc _ fd0
  go_upto_region 4 with (go_at_call 24; (with_reducible refine Calls.mono (HA.out _) ?_); rintro e w1 ⟨rfl, hb1⟩)
  have hbw := belowSq hb1 ((Below.refl _ w1).alloc (Nat.le_refl _) (.cells #[.int .i64 y0, .int .i64 y1, .int .i64 y2, .int .i64 y3, .int .i64 y4, .int .i64 y5] 27))
  obtain ⟨BY, hBY⟩ : ∃ B, w1.heap.size = B := ⟨_, rfl⟩
  rw [hBY]
  refine nameWorld (fun w' => w'.cell? ⟨B0, 0, none⟩ = some (.int .i64 v0) ∧ w'.cell? ⟨B0, 1, none⟩ = some (.int .i64 v1) ∧ w'.cell? ⟨B0, 2, none⟩ = some (.int .i64 s0) ∧ w'.cell? ⟨B0, 3, none⟩ = some (.int .i64 s1) ∧ w'.cell? ⟨B0, 4, none⟩ = some (.int .i64 c0) ∧ w'.cell? ⟨B0, 5, none⟩ = some (.int .i64 c1) ∧ w'.cell? ⟨B0 + 1, 0, none⟩ = some (.int .i64 a0) ∧ w'.cell? ⟨B0 + 1, 1, none⟩ = some (.int .i64 a1) ∧ w'.cell? ⟨B0 + 1, 2, none⟩ = some (.int .i64 g0) ∧ w'.cell? ⟨B0 + 1, 3, none⟩ = some (.int .i64 g1) ∧ w'.cell? ⟨B0 + 1 + 1, 0, none⟩ = some (.int .i64 dy) ∧ w'.cell? ⟨B0 + 1 + 1, 1, none⟩ = some (.int .i64 sp) ∧ w'.cell? ⟨B0 + 1 + 1, 2, none⟩ = some (.int .i64 tg) ∧ w'.cell? ⟨BY, 0, none⟩ = some (.int .i64 y0) ∧ w'.cell? ⟨BY, 1, none⟩ = some (.int .i64 y1) ∧ w'.cell? ⟨BY, 2, none⟩ = some (.int .i64 y2) ∧ w'.cell? ⟨BY, 3, none⟩ = some (.int .i64 y3) ∧ w'.cell? ⟨BY, 4, none⟩ = some (.int .i64 y4) ∧ w'.cell? ⟨BY, 5, none⟩ = some (.int .i64 y5) ∧ Below B0 w w') ⟨keepC hbw fa0, keepC hbw fa1, keepC hbw fa2, keepC hbw fa3, keepC hbw fa4, keepC hbw fa5, keepC hbw fb0, keepC hbw fb1, keepC hbw fb2, keepC hbw fb3, keepC hbw fd0, keepC hbw fd1, keepC hbw fd2, (newBoth hBY (Below.refl _ _) 0 _ rfl).1, (newBoth hBY (Below.refl _ _) 1 _ rfl).1, (newBoth hBY (Below.refl _ _) 2 _ rfl).1, (newBoth hBY (Below.refl _ _) 3 _ rfl).1, (newBoth hBY (Below.refl _ _) 4 _ rfl).1, (newBoth hBY (Below.refl _ _) 5 _ rfl).1, hB.trans (hbw.mono (by omega))⟩ (fun wc hc => ?_)
  clear hb1 hbw hBY hs0 hs1 hs2
  clear fa0 fa1 fa2 fa3 fa4 fa5 fb0 fb1 fb2 fb3 fd0 fd1 fd2 hB
  obtain ⟨fa0, fa1, fa2, fa3, fa4, fa5, fb0, fb1, fb2, fb3, fd0, fd1, fd2, fp0, fp1, fp2, fp3, fp4, fp5, hB⟩ := hc
  have hs0 : B0 < wc.heap.size := World.block_lt_of_cell? wc _ fa0
  have hs1 : B0 + 1 < wc.heap.size := World.block_lt_of_cell? wc _ fb0
  have hs2 : B0 + 1 + 1 < wc.heap.size := World.block_lt_of_cell? wc _ fd0
  have hs3 : BY < wc.heap.size := World.block_lt_of_cell? wc _ fp0
  go_upto_region 7 with (go_at_call 18; (with_reducible refine Calls.mono (HS.out _) ?_); rintro e w1 ⟨rfl, hb1⟩)
  have hbw := belowSq hb1 ((Below.refl _ w1).alloc (Nat.le_refl _) (.cells #[.int .i64 n0, .int .i64 n1] 25))
  obtain ⟨BN, hBN⟩ : ∃ B, w1.heap.size = B := ⟨_, rfl⟩
  rw [hBN]
  refine nameWorld (fun w' => w'.cell? ⟨B0, 0, none⟩ = some (.int .i64 v0) ∧ w'.cell? ⟨B0, 1, none⟩ = some (.int .i64 v1) ∧ w'.cell? ⟨B0, 2, none⟩ = some (.int .i64 s0) ∧ w'.cell? ⟨B0, 3, none⟩ = some (.int .i64 s1) ∧ w'.cell? ⟨B0, 4, none⟩ = some (.int .i64 c0) ∧ w'.cell? ⟨B0, 5, none⟩ = some (.int .i64 c1) ∧ w'.cell? ⟨B0 + 1, 0, none⟩ = some (.int .i64 a0) ∧ w'.cell? ⟨B0 + 1, 1, none⟩ = some (.int .i64 a1) ∧ w'.cell? ⟨B0 + 1, 2, none⟩ = some (.int .i64 g0) ∧ w'.cell? ⟨B0 + 1, 3, none⟩ = some (.int .i64 g1) ∧ w'.cell? ⟨B0 + 1 + 1, 0, none⟩ = some (.int .i64 dy) ∧ w'.cell? ⟨B0 + 1 + 1, 1, none⟩ = some (.int .i64 sp) ∧ w'.cell? ⟨B0 + 1 + 1, 2, none⟩ = some (.int .i64 tg) ∧ w'.cell? ⟨BY, 0, none⟩ = some (.int .i64 y0) ∧ w'.cell? ⟨BY, 1, none⟩ = some (.int .i64 y1) ∧ w'.cell? ⟨BY, 2, none⟩ = some (.int .i64 y2) ∧ w'.cell? ⟨BY, 3, none⟩ = some (.int .i64 y3) ∧ w'.cell? ⟨BY, 4, none⟩ = some (.int .i64 y4) ∧ w'.cell? ⟨BY, 5, none⟩ = some (.int .i64 y5) ∧ w'.cell? ⟨BN, 0, none⟩ = some (.int .i64 n0) ∧ w'.cell? ⟨BN, 1, none⟩ = some (.int .i64 n1) ∧ Below B0 w w') ⟨keepC hbw fa0, keepC hbw fa1, keepC hbw fa2, keepC hbw fa3, keepC hbw fa4, keepC hbw fa5, keepC hbw fb0, keepC hbw fb1, keepC hbw fb2, keepC hbw fb3, keepC hbw fd0, keepC hbw fd1, keepC hbw fd2, keepC hbw fp0, keepC hbw fp1, keepC hbw fp2, keepC hbw fp3, keepC hbw fp4, keepC hbw fp5, (newBoth hBN (Below.refl _ _) 0 _ rfl).1, (newBoth hBN (Below.refl _ _) 1 _ rfl).1, hB.trans (hbw.mono (by omega))⟩ (fun wc hc => ?_)
  clear hb1 hbw hBN hs0 hs1 hs2 hs3
  clear fa0 fa1 fa2 fa3 fa4 fa5 fb0 fb1 fb2 fb3 fd0 fd1 fd2 fp0 fp1 fp2 fp3 fp4 fp5 hB
  obtain ⟨fa0, fa1, fa2, fa3, fa4, fa5, fb0, fb1, fb2, fb3, fd0, fd1, fd2, fp0, fp1, fp2, fp3, fp4, fp5, fq0, fq1, hB⟩ := hc
  have hs0 : B0 < wc.heap.size := World.block_lt_of_cell? wc _ fa0
  have hs1 : B0 + 1 < wc.heap.size := World.block_lt_of_cell? wc _ fb0
  have hs2 : B0 + 1 + 1 < wc.heap.size := World.block_lt_of_cell? wc _ fd0
  have hs3 : BY < wc.heap.size := World.block_lt_of_cell? wc _ fp0
  have hs4 : BN < wc.heap.size := World.block_lt_of_cell? wc _ fq0
  go_upto_region 10 with (go_at_call 17; (with_reducible refine Calls.mono (HF.out _) ?_); rintro e w1 ⟨rfl, hb1⟩)
  have hbw := belowSq hb1 ((Below.refl _ w1).alloc (Nat.le_refl _) (.cells #[.int .i64 z0, .int .i64 z1, .int .i64 z2, .int .i64 z3, .int .i64 z4, .int .i64 z5] 27))
  obtain ⟨BZ, hBZ⟩ : ∃ B, w1.heap.size = B := ⟨_, rfl⟩
  rw [hBZ]
  refine nameWorld (fun w' => w'.cell? ⟨B0, 0, none⟩ = some (.int .i64 v0) ∧ w'.cell? ⟨B0, 1, none⟩ = some (.int .i64 v1) ∧ w'.cell? ⟨B0, 2, none⟩ = some (.int .i64 s0) ∧ w'.cell? ⟨B0, 3, none⟩ = some (.int .i64 s1) ∧ w'.cell? ⟨B0, 4, none⟩ = some (.int .i64 c0) ∧ w'.cell? ⟨B0, 5, none⟩ = some (.int .i64 c1) ∧ w'.cell? ⟨B0 + 1, 0, none⟩ = some (.int .i64 a0) ∧ w'.cell? ⟨B0 + 1, 1, none⟩ = some (.int .i64 a1) ∧ w'.cell? ⟨B0 + 1, 2, none⟩ = some (.int .i64 g0) ∧ w'.cell? ⟨B0 + 1, 3, none⟩ = some (.int .i64 g1) ∧ w'.cell? ⟨B0 + 1 + 1, 0, none⟩ = some (.int .i64 dy) ∧ w'.cell? ⟨B0 + 1 + 1, 1, none⟩ = some (.int .i64 sp) ∧ w'.cell? ⟨B0 + 1 + 1, 2, none⟩ = some (.int .i64 tg) ∧ w'.cell? ⟨BY, 0, none⟩ = some (.int .i64 y0) ∧ w'.cell? ⟨BY, 1, none⟩ = some (.int .i64 y1) ∧ w'.cell? ⟨BY, 2, none⟩ = some (.int .i64 y2) ∧ w'.cell? ⟨BY, 3, none⟩ = some (.int .i64 y3) ∧ w'.cell? ⟨BY, 4, none⟩ = some (.int .i64 y4) ∧ w'.cell? ⟨BY, 5, none⟩ = some (.int .i64 y5) ∧ w'.cell? ⟨BN, 0, none⟩ = some (.int .i64 n0) ∧ w'.cell? ⟨BN, 1, none⟩ = some (.int .i64 n1) ∧ w'.cell? ⟨BZ, 0, none⟩ = some (.int .i64 z0) ∧ w'.cell? ⟨BZ, 1, none⟩ = some (.int .i64 z1) ∧ w'.cell? ⟨BZ, 2, none⟩ = some (.int .i64 z2) ∧ w'.cell? ⟨BZ, 3, none⟩ = some (.int .i64 z3) ∧ w'.cell? ⟨BZ, 4, none⟩ = some (.int .i64 z4) ∧ w'.cell? ⟨BZ, 5, none⟩ = some (.int .i64 z5) ∧ Below B0 w w') ⟨keepC hbw fa0, keepC hbw fa1, keepC hbw fa2, keepC hbw fa3, keepC hbw fa4, keepC hbw fa5, keepC hbw fb0, keepC hbw fb1, keepC hbw fb2, keepC hbw fb3, keepC hbw fd0, keepC hbw fd1, keepC hbw fd2, keepC hbw fp0, keepC hbw fp1, keepC hbw fp2, keepC hbw fp3, keepC hbw fp4, keepC hbw fp5, keepC hbw fq0, keepC hbw fq1, (newBoth hBZ (Below.refl _ _) 0 _ rfl).1, (newBoth hBZ (Below.refl _ _) 1 _ rfl).1, (newBoth hBZ (Below.refl _ _) 2 _ rfl).1, (newBoth hBZ (Below.refl _ _) 3 _ rfl).1, (newBoth hBZ (Below.refl _ _) 4 _ rfl).1, (newBoth hBZ (Below.refl _ _) 5 _ rfl).1, hB.trans (hbw.mono (by omega))⟩ (fun wc hc => ?_)
  clear hb1 hbw hBZ hs0 hs1 hs2 hs3 hs4
  clear fa0 fa1 fa2 fa3 fa4 fa5 fb0 fb1 fb2 fb3 fd0 fd1 fd2 fp0 fp1 fp2 fp3 fp4 fp5 fq0 fq1 hB
  obtain ⟨fa0, fa1, fa2, fa3, fa4, fa5, fb0, fb1, fb2, fb3, fd0, fd1, fd2, fp0, fp1, fp2, fp3, fp4, fp5, fq0, fq1, fr0, fr1, fr2, fr3, fr4, fr5, hB⟩ := hc
  have hs0 : B0 < wc.heap.size := World.block_lt_of_cell? wc _ fa0
  have hs1 : B0 + 1 < wc.heap.size := World.block_lt_of_cell? wc _ fb0
  have hs2 : B0 + 1 + 1 < wc.heap.size := World.block_lt_of_cell? wc _ fd0
  have hs3 : BY < wc.heap.size := World.block_lt_of_cell? wc _ fp0
  have hs4 : BN < wc.heap.size := World.block_lt_of_cell? wc _ fq0
  have hs5 : BZ < wc.heap.size := World.block_lt_of_cell? wc _ fr0
  go_wp2_with (go_at_call 25; (with_reducible refine Calls.mono (HL.out _) ?_); rintro e w5 ⟨rfl, hb5⟩)
  go_ret
  exact ⟨rfl, by rw [hB0]; exact (hB.alloc (by omega) _).trans (hb5.mono (by rw [World.size_alloc]; omega))⟩
end Go.Proofs.Ytbijhcoloajjaaa
