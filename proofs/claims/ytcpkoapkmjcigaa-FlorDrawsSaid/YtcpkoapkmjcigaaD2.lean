/- FlorDraws: the walk of the law, out of contracts of what it calls. -/
import Derived.Test.YtcpkoapkmjcigaaD1
import Derived.Test.YtcpkoapkmjcigaaLFlorDraws
namespace Go.Proofs.Ytcpkoapkmjcigaa
open Go.RowKit

set_option maxHeartbeats 2000000 in
theorem draws_walk (hA : ∀ w : World, Calls Try.prog 20 #[] w fun e w' => e = .returned (.bool true) ∧ Below w.heap.size w w')
    (h0 : ∀ (v0 v1 s0 s1 c0 c1 u0 u1 : Int) (w : World), (firstE (wineE v0 v1 s0 s1 c0 c1) (rangeE u0 u1 100000) 0 != 0) = true → Calls Try.prog 34 #[.agg #[.int .i64 v0, .int .i64 v1, .int .i64 s0, .int .i64 s1, .int .i64 c0, .int .i64 c1], .agg #[.int .i64 u0, .int .i64 u1]] w fun e w' => e = .returned (.tuple #[.agg #[.int .i64 0, .int .i64 0, .int .i64 0, .int .i64 0, .int .i64 0, .int .i64 0], .int .i64 (firstE (wineE v0 v1 s0 s1 c0 c1) (rangeE u0 u1 100000) 0)]) ∧ Below w.heap.size w w')
    (h1 : ∀ (v0 v1 s0 s1 c0 c1 u0 u1 : Int) (w : World), (firstE (wineE v0 v1 s0 s1 c0 c1) (rangeE u0 u1 100000) 0 != 0) = false → v0 < u1 → Calls Try.prog 34 #[.agg #[.int .i64 v0, .int .i64 v1, .int .i64 s0, .int .i64 s1, .int .i64 c0, .int .i64 c1], .agg #[.int .i64 u0, .int .i64 u1]] w fun e w' => e = .returned (.tuple #[.agg #[.int .i64 0, .int .i64 0, .int .i64 0, .int .i64 0, .int .i64 0, .int .i64 0], .int .i64 24]) ∧ Below w.heap.size w w')
    (h2 : ∀ (v0 v1 s0 s1 c0 c1 u0 u1 : Int) (w : World), (firstE (wineE v0 v1 s0 s1 c0 c1) (rangeE u0 u1 100000) 0 != 0) = false → u1 ≤ v0 → Calls Try.prog 34 #[.agg #[.int .i64 v0, .int .i64 v1, .int .i64 s0, .int .i64 s1, .int .i64 c0, .int .i64 c1], .agg #[.int .i64 u0, .int .i64 u1]] w fun e w' => e = .returned (.tuple #[.agg #[.int .i64 (v0 - u1), .int .i64 (v1 - u0), .int .i64 s0, .int .i64 s1, .int .i64 c0, .int .i64 c1], .int .i64 0]) ∧ Below w.heap.size w w') : FlorDraws.Walk := by
  intro v0 v1 s0 s1 c0 c1 u0 u1 w _
  have HA := Lib.hid hA
  have H0 := Lib.hid h0
  have H1 := Lib.hid h1
  have H2 := Lib.hid h2
  clear hA h0 h1 h2
  cases hd : (firstE (wineE v0 v1 s0 s1 c0 c1) (rangeE u0 u1 100000) 0 != 0)
  · have HD := Lib.hid hd
    clear hd
    by_cases hl : v0 < u1
    · have HL := Lib.hid hl
      clear hl
      go_enter Try.func6, Try.ntmps6
      go_upto_region 3 with (go_at_call 20; refine (HA.out _).mono ?_; rintro e w1 ⟨rfl, hb1⟩)
      refine nameWorld (fun w' => w'.cell? ⟨w.heap.size, 0, none⟩ = some (.int .i64 v0) ∧ w'.cell? ⟨w.heap.size, 1, none⟩ = some (.int .i64 v1) ∧ w'.cell? ⟨w.heap.size, 2, none⟩ = some (.int .i64 s0) ∧ w'.cell? ⟨w.heap.size, 3, none⟩ = some (.int .i64 s1) ∧ w'.cell? ⟨w.heap.size, 4, none⟩ = some (.int .i64 c0) ∧ w'.cell? ⟨w.heap.size, 5, none⟩ = some (.int .i64 c1) ∧ w'.cell? ⟨w.heap.size + 1, 0, none⟩ = some (.int .i64 u0) ∧ w'.cell? ⟨w.heap.size + 1, 1, none⟩ = some (.int .i64 u1) ∧ Below w.heap.size w w') (by refine ⟨?_, ?_, ?_, ?_, ?_, ?_, ?_, ?_, ?_⟩ <;> first | (exact keepC (by assumption) (by go_cell)) | (exact belowSeq (by assumption) (by (go_grown; done))) | (exact keepZ (by assumption) (by go_size))) (fun wc hc => ?_)
      obtain ⟨x0, x1, x2, x3, x4, x5, x6, x7, hB⟩ := hc
      clear hb1
      go_wp2_with (first | (go_at_call 34; refine (H1.out _ _ _ _ _ _ _ _ _ HD.out HL.out).mono ?_; rintro e w2 ⟨rfl, hb2⟩; have y0 := keepC hb2 x0; have y1 := keepC hb2 x1; have y2 := keepC hb2 x2; have y3 := keepC hb2 x3; have y4 := keepC hb2 x4; have y5 := keepC hb2 x5; have y6 := keepC hb2 x6; have y7 := keepC hb2 x7; have hz2 : w.heap.size + 1 < w2.heap.size := World.block_lt_of_cell? w2 _ y6; have hz3 : w.heap.size < w2.heap.size := (by omega); have hB2 := belowSeq hb2 hB) | (go_at_call 35; refine (drawn_break _ _ _ _ _ _ _ _ _ HD.out HL.out).mono ?_; rintro e w3 ⟨rfl, hb3⟩; have n0 := (newHeld hb3 0 _ rfl).1; have n1 := (newHeld hb3 1 _ rfl).1; have n2 := (newHeld hb3 2 _ rfl).1; have n3 := (newHeld hb3 3 _ rfl).1; have n4 := (newHeld hb3 4 _ rfl).1; have n5 := (newHeld hb3 5 _ rfl).1; have hz4 : w2.heap.size < w3.heap.size := World.block_lt_of_cell? w3 _ n0; have hB3 := belowSeq hb3 (hB2.alloc hB2.size _)))
      go_ret
      exact ⟨rfl, hB3.alloc hB3.size _⟩
    · have HL := Lib.hid (Int.not_lt.1 hl)
      clear hl
      go_enter Try.func6, Try.ntmps6
      go_upto_region 3 with (go_at_call 20; refine (HA.out _).mono ?_; rintro e w1 ⟨rfl, hb1⟩)
      refine nameWorld (fun w' => w'.cell? ⟨w.heap.size, 0, none⟩ = some (.int .i64 v0) ∧ w'.cell? ⟨w.heap.size, 1, none⟩ = some (.int .i64 v1) ∧ w'.cell? ⟨w.heap.size, 2, none⟩ = some (.int .i64 s0) ∧ w'.cell? ⟨w.heap.size, 3, none⟩ = some (.int .i64 s1) ∧ w'.cell? ⟨w.heap.size, 4, none⟩ = some (.int .i64 c0) ∧ w'.cell? ⟨w.heap.size, 5, none⟩ = some (.int .i64 c1) ∧ w'.cell? ⟨w.heap.size + 1, 0, none⟩ = some (.int .i64 u0) ∧ w'.cell? ⟨w.heap.size + 1, 1, none⟩ = some (.int .i64 u1) ∧ Below w.heap.size w w') (by refine ⟨?_, ?_, ?_, ?_, ?_, ?_, ?_, ?_, ?_⟩ <;> first | (exact keepC (by assumption) (by go_cell)) | (exact belowSeq (by assumption) (by (go_grown; done))) | (exact keepZ (by assumption) (by go_size))) (fun wc hc => ?_)
      obtain ⟨x0, x1, x2, x3, x4, x5, x6, x7, hB⟩ := hc
      clear hb1
      go_wp2_with (first | (go_at_call 34; refine (H2.out _ _ _ _ _ _ _ _ _ HD.out HL.out).mono ?_; rintro e w2 ⟨rfl, hb2⟩; have y0 := keepC hb2 x0; have y1 := keepC hb2 x1; have y2 := keepC hb2 x2; have y3 := keepC hb2 x3; have y4 := keepC hb2 x4; have y5 := keepC hb2 x5; have y6 := keepC hb2 x6; have y7 := keepC hb2 x7; have hz2 : w.heap.size + 1 < w2.heap.size := World.block_lt_of_cell? w2 _ y6; have hz3 : w.heap.size < w2.heap.size := (by omega); have hB2 := belowSeq hb2 hB) | (go_at_call 35; refine (drawn_ok _ _ _ _ _ _ _ _ _ HD.out HL.out).mono ?_; rintro e w3 ⟨rfl, hb3⟩; have n0 := (newHeld hb3 0 _ rfl).1; have n1 := (newHeld hb3 1 _ rfl).1; have n2 := (newHeld hb3 2 _ rfl).1; have n3 := (newHeld hb3 3 _ rfl).1; have n4 := (newHeld hb3 4 _ rfl).1; have n5 := (newHeld hb3 5 _ rfl).1; have hz4 : w2.heap.size < w3.heap.size := World.block_lt_of_cell? w3 _ n0; have hB3 := belowSeq hb3 (hB2.alloc hB2.size _)))
      go_ret
      exact ⟨rfl, hB3.alloc hB3.size _⟩
  · have HD := Lib.hid hd
    clear hd
    go_enter Try.func6, Try.ntmps6
    go_upto_region 3 with (go_at_call 20; refine (HA.out _).mono ?_; rintro e w1 ⟨rfl, hb1⟩)
    refine nameWorld (fun w' => w'.cell? ⟨w.heap.size, 0, none⟩ = some (.int .i64 v0) ∧ w'.cell? ⟨w.heap.size, 1, none⟩ = some (.int .i64 v1) ∧ w'.cell? ⟨w.heap.size, 2, none⟩ = some (.int .i64 s0) ∧ w'.cell? ⟨w.heap.size, 3, none⟩ = some (.int .i64 s1) ∧ w'.cell? ⟨w.heap.size, 4, none⟩ = some (.int .i64 c0) ∧ w'.cell? ⟨w.heap.size, 5, none⟩ = some (.int .i64 c1) ∧ w'.cell? ⟨w.heap.size + 1, 0, none⟩ = some (.int .i64 u0) ∧ w'.cell? ⟨w.heap.size + 1, 1, none⟩ = some (.int .i64 u1) ∧ Below w.heap.size w w') (by refine ⟨?_, ?_, ?_, ?_, ?_, ?_, ?_, ?_, ?_⟩ <;> first | (exact keepC (by assumption) (by go_cell)) | (exact belowSeq (by assumption) (by (go_grown; done))) | (exact keepZ (by assumption) (by go_size))) (fun wc hc => ?_)
    obtain ⟨x0, x1, x2, x3, x4, x5, x6, x7, hB⟩ := hc
    clear hb1
    go_wp2_with (first | (go_at_call 34; refine (H0.out _ _ _ _ _ _ _ _ _ HD.out).mono ?_; rintro e w2 ⟨rfl, hb2⟩; have y0 := keepC hb2 x0; have y1 := keepC hb2 x1; have y2 := keepC hb2 x2; have y3 := keepC hb2 x3; have y4 := keepC hb2 x4; have y5 := keepC hb2 x5; have y6 := keepC hb2 x6; have y7 := keepC hb2 x7; have hz2 : w.heap.size + 1 < w2.heap.size := World.block_lt_of_cell? w2 _ y6; have hz3 : w.heap.size < w2.heap.size := (by omega); have hB2 := belowSeq hb2 hB) | (go_at_call 35; refine (drawn_wrong _ _ _ _ _ _ _ _ _ HD.out).mono ?_; rintro e w3 ⟨rfl, hb3⟩; have n0 := (newHeld hb3 0 _ rfl).1; have n1 := (newHeld hb3 1 _ rfl).1; have n2 := (newHeld hb3 2 _ rfl).1; have n3 := (newHeld hb3 3 _ rfl).1; have n4 := (newHeld hb3 4 _ rfl).1; have n5 := (newHeld hb3 5 _ rfl).1; have hz4 : w2.heap.size < w3.heap.size := World.block_lt_of_cell? w3 _ n0; have hB3 := belowSeq hb3 (hB2.alloc hB2.size _)))
    go_ret
    exact ⟨rfl, hB3.alloc hB3.size _⟩
end Go.Proofs.Ytcpkoapkmjcigaa
