/- flor's own (checked).common: nothing in common. -/
import Derived.Test.YtpccfjdgnmmfoaaW1
namespace Go.Proofs.Ytpccfjdgnmmfoaa
open Go.RowKit

set_option linter.unusedVariables false in
set_option maxRecDepth 100000 in
set_option maxHeartbeats 8000000 in
theorem bothCommon_no0 (v0 v1 s0 s1 c0 c1 u0 u1 r0 r1 q0 q1 m0 m1 m2 m3 m4 m5 : Int) (w : World) (hc0 : ∀ w : World, Calls Try.prog 88 #[.agg #[.int .i64 v0, .int .i64 v1], .agg #[.int .i64 u0, .int .i64 u1]] w fun e w' => e = .returned (.agg #[.int .i64 m0, .int .i64 m1]) ∧ Below w.heap.size w w') (hc1 : ∀ w : World, Calls Try.prog 88 #[.agg #[.int .i64 s0, .int .i64 s1], .agg #[.int .i64 r0, .int .i64 r1]] w fun e w' => e = .returned (.agg #[.int .i64 m2, .int .i64 m3]) ∧ Below w.heap.size w w') (hc2 : ∀ w : World, Calls Try.prog 88 #[.agg #[.int .i64 c0, .int .i64 c1], .agg #[.int .i64 q0, .int .i64 q1]] w fun e w' => e = .returned (.agg #[.int .i64 m4, .int .i64 m5]) ∧ Below w.heap.size w w') (k0 : ∀ w : World, Calls Try.prog 79 #[.agg #[.int .i64 m0, .int .i64 m1]] w fun e w' => e = .returned (.bool true) ∧ Below w.heap.size w w') :
    Calls Try.prog 67 #[.agg #[.int .i64 v0, .int .i64 v1, .int .i64 s0, .int .i64 s1, .int .i64 c0, .int .i64 c1], .agg #[.int .i64 u0, .int .i64 u1, .int .i64 r0, .int .i64 r1, .int .i64 q0, .int .i64 q1]] w fun e w' => e = .returned (.tuple #[.agg #[.int .i64 m0, .int .i64 m1, .int .i64 m2, .int .i64 m3, .int .i64 m4, .int .i64 m5], .bool false]) ∧ Below w.heap.size w w' := by
  have HC0 := Lib.hid hc0
  have HC1 := Lib.hid hc1
  have HC2 := Lib.hid hc2
  have K0 := Lib.hid k0
  clear hc0 hc1 hc2 k0
  go_enter Try.func67, Try.ntmps67
  go_upto_region 1 with fail
  refine nameWorld (fun w' => w'.cell? ⟨w.heap.size, 0, none⟩ = some (.int .i64 v0) ∧ w'.cell? ⟨w.heap.size, 1, none⟩ = some (.int .i64 v1) ∧ w'.cell? ⟨w.heap.size, 2, none⟩ = some (.int .i64 s0) ∧ w'.cell? ⟨w.heap.size, 3, none⟩ = some (.int .i64 s1) ∧ w'.cell? ⟨w.heap.size, 4, none⟩ = some (.int .i64 c0) ∧ w'.cell? ⟨w.heap.size, 5, none⟩ = some (.int .i64 c1) ∧ w'.cell? ⟨w.heap.size + 1, 0, none⟩ = some (.int .i64 u0) ∧ w'.cell? ⟨w.heap.size + 1, 1, none⟩ = some (.int .i64 u1) ∧ w'.cell? ⟨w.heap.size + 1, 2, none⟩ = some (.int .i64 r0) ∧ w'.cell? ⟨w.heap.size + 1, 3, none⟩ = some (.int .i64 r1) ∧ w'.cell? ⟨w.heap.size + 1, 4, none⟩ = some (.int .i64 q0) ∧ w'.cell? ⟨w.heap.size + 1, 5, none⟩ = some (.int .i64 q1) ∧ w'.cell? ⟨w.heap.size + 1 + 1, 0, none⟩ = some (cv w' ⟨w.heap.size + 1 + 1, 0, none⟩) ∧ w'.cell? ⟨w.heap.size + 1 + 1, 1, none⟩ = some (cv w' ⟨w.heap.size + 1 + 1, 1, none⟩) ∧ w'.cell? ⟨w.heap.size + 1 + 1, 2, none⟩ = some (cv w' ⟨w.heap.size + 1 + 1, 2, none⟩) ∧ w'.cell? ⟨w.heap.size + 1 + 1, 3, none⟩ = some (cv w' ⟨w.heap.size + 1 + 1, 3, none⟩) ∧ w'.cell? ⟨w.heap.size + 1 + 1, 4, none⟩ = some (cv w' ⟨w.heap.size + 1 + 1, 4, none⟩) ∧ w'.cell? ⟨w.heap.size + 1 + 1, 5, none⟩ = some (cv w' ⟨w.heap.size + 1 + 1, 5, none⟩) ∧ w'.frozen? ⟨w.heap.size + 1 + 1, 0, none⟩ = false ∧ w'.frozen? ⟨w.heap.size + 1 + 1, 1, none⟩ = false ∧ w'.frozen? ⟨w.heap.size + 1 + 1, 2, none⟩ = false ∧ w'.frozen? ⟨w.heap.size + 1 + 1, 3, none⟩ = false ∧ w'.frozen? ⟨w.heap.size + 1 + 1, 4, none⟩ = false ∧ w'.frozen? ⟨w.heap.size + 1 + 1, 5, none⟩ = false ∧ Below w.heap.size w w') (by refine ⟨?_, ?_, ?_, ?_, ?_, ?_, ?_, ?_, ?_, ?_, ?_, ?_, ?_, ?_, ?_, ?_, ?_, ?_, ?_, ?_, ?_, ?_, ?_, ?_, ?_⟩ <;> first | (with_reducible assumption) | (go_grown; done) | (go_cell; done) | go_size | ((repeat first | (with_reducible assumption) | (with_reducible refine szA ?_) | (with_reducible refine szS ?_) | (with_reducible refine szD ?_)); done) | ((repeat first | (with_reducible assumption) | (with_reducible refine cvA ?_) | (with_reducible refine cvS ?_) | (with_reducible refine cvD ?_)); done) | (refine cv_of (v := .int .i64 0) ?_; go_cell; done) | (go_simp; done) | go_keep) (fun wc hc => ?_)
  obtain ⟨x0, x1, x2, x3, x4, x5, x6, x7, x8, x9, x10, x11, g0, g1, g2, g3, g4, g5, z0, z1, z2, z3, z4, z5, hB⟩ := hc
  refine region0 22 1 (by kernel_rfl) (by kernel_rfl) (by kernel_rfl) (by kernel_rfl) (by kernel_rfl) (by decide) ?_
  intro R hR
  simp only [List.take_succ_cons, List.take_zero]
  iterate 22 (refine head0_val ?_ (fun w' hw' => ?_) ?_; rotate_left; (focus (have y0 := keepC hw' x0; have y1 := keepC hw' x1; have y2 := keepC hw' x2; have y3 := keepC hw' x3; have y4 := keepC hw' x4; have y5 := keepC hw' x5; have y6 := keepC hw' x6; have y7 := keepC hw' x7; have y8 := keepC hw' x8; have y9 := keepC hw' x9; have y10 := keepC hw' x10; have y11 := keepC hw' x11; first | (refine onlyMakes_val ?_; first | (go_simp; done) | (go_simp; with_reducible rfl)) | (apply onlyMakes_call; (first | (go_simp; done) | (go_simp; exact ⟨rfl, rfl⟩) | (go_simp; with_reducible rfl)); first | (with_reducible exact HC0.out _) | (with_reducible exact HC1.out _) | (with_reducible exact HC2.out _)))); (try dsimp only); (try simp only [Act.put, List.setIfInBounds_toArray, List.set_cons_zero, List.set_cons_succ]))
  refine head0_nil (hR.out _ ?_)
  refine AnyZ.one_alloc 22 (obj := .cells #[.int .i64 0, .int .i64 0, .int .i64 0, .int .i64 0, .int .i64 0, .int .i64 0] 27) (by kernel_rfl) rfl rfl ⟨rfl, fun w' hw' => ?_⟩ (fun w1 hw1 => ?_)
  · first | (go_simp; done) | (go_simp; with_reducible rfl) | (go_simp; exact ⟨rfl, rfl⟩)
  refine AnyZ.last 23 (by kernel_rfl) (by decide) (fun w2 hw2 => ?_)
  refine wpAny_one 23 (by kernel_rfl) rfl rfl ?_
  have n0 := (newHeld hw2 0 _ rfl)
  have n1 := (newHeld hw2 1 _ rfl)
  have n2 := (newHeld hw2 2 _ rfl)
  have n3 := (newHeld hw2 3 _ rfl)
  have n4 := (newHeld hw2 4 _ rfl)
  have n5 := (newHeld hw2 5 _ rfl)
  have hX : Below wc.heap.size wc w2 := belowSeq hw2 (hw1.alloc hw1.size _)
  have hS := keepW12 hX ⟨x0, x1, x2, x3, x4, x5, x6, x7, x8, x9, x10, x11, g0, g1, g2, g3, g4, g5, z0, z1, z2, z3, z4, z5, hB⟩
  have hz : w.heap.size + 1 + 1 < w1.heap.size := keepZ hw1 (World.block_lt_of_cell? wc _ g0)
  clear hX hR x0 x1 x2 x3 x4 x5 x6 x7 x8 x9 x10 x11 g0 g1 g2 g3 g4 g5 z0 z1 z2 z3 z4 z5 hB
  obtain ⟨x0, x1, x2, x3, x4, x5, x6, x7, x8, x9, x10, x11, g0, g1, g2, g3, g4, g5, z0, z1, z2, z3, z4, z5, hB⟩ := hS
  obtain ⟨n0, f0⟩ := n0
  obtain ⟨n1, f1⟩ := n1
  obtain ⟨n2, f2⟩ := n2
  obtain ⟨n3, f3⟩ := n3
  obtain ⟨n4, f4⟩ := n4
  obtain ⟨n5, f5⟩ := n5
  clear x0 x1 x2 x3 x4 x5 x6 x7 x8 x9 x10 x11
  (try simp only [List.getElem_toArray, List.getElem_cons_succ, List.getElem_cons_zero])
  (try simp only [Act.put, List.setIfInBounds_toArray, List.set_cons_succ, List.set_cons_zero])
  unfold Oper.wp
  go_simp
  refine wpAny_done (by kernel_rfl) ?_
  go_wp2_with fail
  obtain ⟨s0, s1, s2, s3, s4, s5⟩ := set6 n0 n1 n2 n3 n4 n5 (.int .i64 m0) (.int .i64 m1) (.int .i64 m2) (.int .i64 m3) (.int .i64 m4) (.int .i64 m5)
  refine nameWorld (fun w' => w'.cell? ⟨w1.heap.size, 0, none⟩ = some (.int .i64 m0) ∧ w'.cell? ⟨w1.heap.size, 1, none⟩ = some (.int .i64 m1) ∧ w'.cell? ⟨w1.heap.size, 2, none⟩ = some (.int .i64 m2) ∧ w'.cell? ⟨w1.heap.size, 3, none⟩ = some (.int .i64 m3) ∧ w'.cell? ⟨w1.heap.size, 4, none⟩ = some (.int .i64 m4) ∧ w'.cell? ⟨w1.heap.size, 5, none⟩ = some (.int .i64 m5) ∧ w'.cell? ⟨w.heap.size + 1 + 1, 0, none⟩ = some (cv w' ⟨w.heap.size + 1 + 1, 0, none⟩) ∧ w'.cell? ⟨w.heap.size + 1 + 1, 1, none⟩ = some (cv w' ⟨w.heap.size + 1 + 1, 1, none⟩) ∧ w'.cell? ⟨w.heap.size + 1 + 1, 2, none⟩ = some (cv w' ⟨w.heap.size + 1 + 1, 2, none⟩) ∧ w'.cell? ⟨w.heap.size + 1 + 1, 3, none⟩ = some (cv w' ⟨w.heap.size + 1 + 1, 3, none⟩) ∧ w'.cell? ⟨w.heap.size + 1 + 1, 4, none⟩ = some (cv w' ⟨w.heap.size + 1 + 1, 4, none⟩) ∧ w'.cell? ⟨w.heap.size + 1 + 1, 5, none⟩ = some (cv w' ⟨w.heap.size + 1 + 1, 5, none⟩) ∧ w'.frozen? ⟨w.heap.size + 1 + 1, 0, none⟩ = false ∧ w'.frozen? ⟨w.heap.size + 1 + 1, 1, none⟩ = false ∧ w'.frozen? ⟨w.heap.size + 1 + 1, 2, none⟩ = false ∧ w'.frozen? ⟨w.heap.size + 1 + 1, 3, none⟩ = false ∧ w'.frozen? ⟨w.heap.size + 1 + 1, 4, none⟩ = false ∧ w'.frozen? ⟨w.heap.size + 1 + 1, 5, none⟩ = false ∧ Below w.heap.size w w') ⟨s0, s1, s2, s3, s4, s5, cvS (cvS (cvS (cvS (cvS (cvS g0))))), cvS (cvS (cvS (cvS (cvS (cvS g1))))), cvS (cvS (cvS (cvS (cvS (cvS g2))))), cvS (cvS (cvS (cvS (cvS (cvS g3))))), cvS (cvS (cvS (cvS (cvS (cvS g4))))), cvS (cvS (cvS (cvS (cvS (cvS g5))))), by simp only [World.frozen?_setCell]; exact z0, by simp only [World.frozen?_setCell]; exact z1, by simp only [World.frozen?_setCell]; exact z2, by simp only [World.frozen?_setCell]; exact z3, by simp only [World.frozen?_setCell]; exact z4, by simp only [World.frozen?_setCell]; exact z5, by (have hle : w.heap.size ≤ w1.heap.size := by omega); exact (((((hB.setCell hle _).setCell hle _).setCell hle _).setCell hle _).setCell hle _).setCell hle _⟩ (fun wd hd => ?_)
  clear s0 s1 s2 s3 s4 s5 n0 n1 n2 n3 n4 n5 f0 f1 f2 f3 f4 f5 g0 g1 g2 g3 g4 g5 z0 z1 z2 z3 z4 z5 hB
  obtain ⟨x0, x1, x2, x3, x4, x5, g0, g1, g2, g3, g4, g5, z0, z1, z2, z3, z4, z5, hB⟩ := hd
  refine regionP 18 0 [16, 17] (by kernel_rfl) (by kernel_rfl) (by kernel_rfl) (by kernel_rfl) (by decide) (fun _ _ d _ _ h => by cases d <;> exact h) ?_
  intro R hR
  simp only [List.take_succ_cons, List.take_zero]
  iterate 18 (first | (refine headP_val ?_ (by rfl) (by rfl) (fun w' hw' => ?_) ?_; rotate_left; (focus (have y0 := keepC hw' x0; have y1 := keepC hw' x1; have y2 := keepC hw' x2; have y3 := keepC hw' x3; have y4 := keepC hw' x4; have y5 := keepC hw' x5; first | (refine onlyMakes_val ?_; first | (go_simp; done) | (go_simp; with_reducible rfl)) | (apply onlyMakes_call; (first | (go_simp; done) | (go_simp; exact ⟨rfl, rfl⟩) | (go_simp; with_reducible rfl)); first | (with_reducible exact K0.out _)))); (try dsimp only); (try simp only [Act.put, List.setIfInBounds_toArray, List.set_cons_zero, List.set_cons_succ])) | (refine headP_pure ?_ (by rfl) (by rfl) (fun w' => ?_) ?_; rotate_left; (focus ((first | (go_simp; done) | (go_simp; with_reducible rfl)))); (try dsimp only); (try simp only [Act.put, List.setIfInBounds_toArray, List.set_cons_zero, List.set_cons_succ])) | (refine headP_skip (by rfl) ?_; (try dsimp only); (try simp only [Act.put, List.setIfInBounds_toArray, List.set_cons_zero, List.set_cons_succ])))
  refine headP_nil (hR.out _ ?_)
  refine AnyZ.tail (by kernel_rfl) (by kernel_rfl) (fun w3 hw3 => ?_)
  have hS := keepW6 hw3 ⟨x0, x1, x2, x3, x4, x5, g0, g1, g2, g3, g4, g5, z0, z1, z2, z3, z4, z5, hB⟩
  clear hR hw3 x0 x1 x2 x3 x4 x5 g0 g1 g2 g3 g4 g5 z0 z1 z2 z3 z4 z5 hB
  obtain ⟨x0, x1, x2, x3, x4, x5, g0, g1, g2, g3, g4, g5, z0, z1, z2, z3, z4, z5, hB⟩ := hS
  refine wpAny_each1 18 (by kernel_rfl) ?_
  refine wpOp_go rfl (by rfl) ?_
  (try simp only [List.getElem_toArray, List.getElem_cons_succ, List.getElem_cons_zero])
  (try simp only [Act.put, List.setIfInBounds_toArray, List.set_cons_succ, List.set_cons_zero])
  unfold Oper.wp
  go_simp
  refine wpAny_each1 19 (by kernel_rfl) ?_
  refine wpOp_go rfl (by rfl) ?_
  (try simp only [List.getElem_toArray, List.getElem_cons_succ, List.getElem_cons_zero])
  (try simp only [Act.put, List.setIfInBounds_toArray, List.set_cons_succ, List.set_cons_zero])
  unfold Oper.wp
  go_simp
  refine wpAny_done (by kernel_rfl) ?_
  go_wp2_with ((with_reducible refine bodyPost_ret (v := .tuple #[.agg #[.int .i64 m0, .int .i64 m1, .int .i64 m2, .int .i64 m3, .int .i64 m4, .int .i64 m5], .bool false]) ?_ rfl ?_); (have rr0 : ∀ (x0 : Value) (x1 : Value) (x2 : Value) (x3 : Value) (x4 : Value) (x5 : Value), ((((((w3.setCell ⟨w.heap.size + 1 + 1, 0, none⟩ x0).setCell ⟨w.heap.size + 1 + 1, 1, none⟩ x1).setCell ⟨w.heap.size + 1 + 1, 2, none⟩ x2).setCell ⟨w.heap.size + 1 + 1, 3, none⟩ x3).setCell ⟨w.heap.size + 1 + 1, 4, none⟩ x4).setCell ⟨w.heap.size + 1 + 1, 5, none⟩ x5).cell? ⟨w.heap.size + 1 + 1, 0, none⟩ = some x0 := fun x0 x1 x2 x3 x4 x5 => (set6 g0 g1 g2 g3 g4 g5 x0 x1 x2 x3 x4 x5).1; have rr1 : ∀ (x0 : Value) (x1 : Value) (x2 : Value) (x3 : Value) (x4 : Value) (x5 : Value), ((((((w3.setCell ⟨w.heap.size + 1 + 1, 0, none⟩ x0).setCell ⟨w.heap.size + 1 + 1, 1, none⟩ x1).setCell ⟨w.heap.size + 1 + 1, 2, none⟩ x2).setCell ⟨w.heap.size + 1 + 1, 3, none⟩ x3).setCell ⟨w.heap.size + 1 + 1, 4, none⟩ x4).setCell ⟨w.heap.size + 1 + 1, 5, none⟩ x5).cell? ⟨w.heap.size + 1 + 1, 1, none⟩ = some x1 := fun x0 x1 x2 x3 x4 x5 => (set6 g0 g1 g2 g3 g4 g5 x0 x1 x2 x3 x4 x5).2.1; have rr2 : ∀ (x0 : Value) (x1 : Value) (x2 : Value) (x3 : Value) (x4 : Value) (x5 : Value), ((((((w3.setCell ⟨w.heap.size + 1 + 1, 0, none⟩ x0).setCell ⟨w.heap.size + 1 + 1, 1, none⟩ x1).setCell ⟨w.heap.size + 1 + 1, 2, none⟩ x2).setCell ⟨w.heap.size + 1 + 1, 3, none⟩ x3).setCell ⟨w.heap.size + 1 + 1, 4, none⟩ x4).setCell ⟨w.heap.size + 1 + 1, 5, none⟩ x5).cell? ⟨w.heap.size + 1 + 1, 2, none⟩ = some x2 := fun x0 x1 x2 x3 x4 x5 => (set6 g0 g1 g2 g3 g4 g5 x0 x1 x2 x3 x4 x5).2.2.1; have rr3 : ∀ (x0 : Value) (x1 : Value) (x2 : Value) (x3 : Value) (x4 : Value) (x5 : Value), ((((((w3.setCell ⟨w.heap.size + 1 + 1, 0, none⟩ x0).setCell ⟨w.heap.size + 1 + 1, 1, none⟩ x1).setCell ⟨w.heap.size + 1 + 1, 2, none⟩ x2).setCell ⟨w.heap.size + 1 + 1, 3, none⟩ x3).setCell ⟨w.heap.size + 1 + 1, 4, none⟩ x4).setCell ⟨w.heap.size + 1 + 1, 5, none⟩ x5).cell? ⟨w.heap.size + 1 + 1, 3, none⟩ = some x3 := fun x0 x1 x2 x3 x4 x5 => (set6 g0 g1 g2 g3 g4 g5 x0 x1 x2 x3 x4 x5).2.2.2.1; have rr4 : ∀ (x0 : Value) (x1 : Value) (x2 : Value) (x3 : Value) (x4 : Value) (x5 : Value), ((((((w3.setCell ⟨w.heap.size + 1 + 1, 0, none⟩ x0).setCell ⟨w.heap.size + 1 + 1, 1, none⟩ x1).setCell ⟨w.heap.size + 1 + 1, 2, none⟩ x2).setCell ⟨w.heap.size + 1 + 1, 3, none⟩ x3).setCell ⟨w.heap.size + 1 + 1, 4, none⟩ x4).setCell ⟨w.heap.size + 1 + 1, 5, none⟩ x5).cell? ⟨w.heap.size + 1 + 1, 4, none⟩ = some x4 := fun x0 x1 x2 x3 x4 x5 => (set6 g0 g1 g2 g3 g4 g5 x0 x1 x2 x3 x4 x5).2.2.2.2.1; have rr5 : ∀ (x0 : Value) (x1 : Value) (x2 : Value) (x3 : Value) (x4 : Value) (x5 : Value), ((((((w3.setCell ⟨w.heap.size + 1 + 1, 0, none⟩ x0).setCell ⟨w.heap.size + 1 + 1, 1, none⟩ x1).setCell ⟨w.heap.size + 1 + 1, 2, none⟩ x2).setCell ⟨w.heap.size + 1 + 1, 3, none⟩ x3).setCell ⟨w.heap.size + 1 + 1, 4, none⟩ x4).setCell ⟨w.heap.size + 1 + 1, 5, none⟩ x5).cell? ⟨w.heap.size + 1 + 1, 5, none⟩ = some x5 := fun x0 x1 x2 x3 x4 x5 => (set6 g0 g1 g2 g3 g4 g5 x0 x1 x2 x3 x4 x5).2.2.2.2.2; simp [results, Try.results67, go_sem, rr0, rr1, rr2, rr3, rr4, rr5]); exact ⟨rfl, by go_grown⟩)
set_option linter.unusedVariables false in
set_option maxRecDepth 100000 in
set_option maxHeartbeats 8000000 in
theorem bothCommon_no1 (v0 v1 s0 s1 c0 c1 u0 u1 r0 r1 q0 q1 m0 m1 m2 m3 m4 m5 : Int) (w : World) (hc0 : ∀ w : World, Calls Try.prog 88 #[.agg #[.int .i64 v0, .int .i64 v1], .agg #[.int .i64 u0, .int .i64 u1]] w fun e w' => e = .returned (.agg #[.int .i64 m0, .int .i64 m1]) ∧ Below w.heap.size w w') (hc1 : ∀ w : World, Calls Try.prog 88 #[.agg #[.int .i64 s0, .int .i64 s1], .agg #[.int .i64 r0, .int .i64 r1]] w fun e w' => e = .returned (.agg #[.int .i64 m2, .int .i64 m3]) ∧ Below w.heap.size w w') (hc2 : ∀ w : World, Calls Try.prog 88 #[.agg #[.int .i64 c0, .int .i64 c1], .agg #[.int .i64 q0, .int .i64 q1]] w fun e w' => e = .returned (.agg #[.int .i64 m4, .int .i64 m5]) ∧ Below w.heap.size w w') (k0 : ∀ w : World, Calls Try.prog 79 #[.agg #[.int .i64 m0, .int .i64 m1]] w fun e w' => e = .returned (.bool false) ∧ Below w.heap.size w w') (k1 : ∀ w : World, Calls Try.prog 79 #[.agg #[.int .i64 m2, .int .i64 m3]] w fun e w' => e = .returned (.bool true) ∧ Below w.heap.size w w') :
    Calls Try.prog 67 #[.agg #[.int .i64 v0, .int .i64 v1, .int .i64 s0, .int .i64 s1, .int .i64 c0, .int .i64 c1], .agg #[.int .i64 u0, .int .i64 u1, .int .i64 r0, .int .i64 r1, .int .i64 q0, .int .i64 q1]] w fun e w' => e = .returned (.tuple #[.agg #[.int .i64 m0, .int .i64 m1, .int .i64 m2, .int .i64 m3, .int .i64 m4, .int .i64 m5], .bool false]) ∧ Below w.heap.size w w' := by
  have HC0 := Lib.hid hc0
  have HC1 := Lib.hid hc1
  have HC2 := Lib.hid hc2
  have K0 := Lib.hid k0
  have K1 := Lib.hid k1
  clear hc0 hc1 hc2 k0 k1
  go_enter Try.func67, Try.ntmps67
  go_upto_region 1 with fail
  refine nameWorld (fun w' => w'.cell? ⟨w.heap.size, 0, none⟩ = some (.int .i64 v0) ∧ w'.cell? ⟨w.heap.size, 1, none⟩ = some (.int .i64 v1) ∧ w'.cell? ⟨w.heap.size, 2, none⟩ = some (.int .i64 s0) ∧ w'.cell? ⟨w.heap.size, 3, none⟩ = some (.int .i64 s1) ∧ w'.cell? ⟨w.heap.size, 4, none⟩ = some (.int .i64 c0) ∧ w'.cell? ⟨w.heap.size, 5, none⟩ = some (.int .i64 c1) ∧ w'.cell? ⟨w.heap.size + 1, 0, none⟩ = some (.int .i64 u0) ∧ w'.cell? ⟨w.heap.size + 1, 1, none⟩ = some (.int .i64 u1) ∧ w'.cell? ⟨w.heap.size + 1, 2, none⟩ = some (.int .i64 r0) ∧ w'.cell? ⟨w.heap.size + 1, 3, none⟩ = some (.int .i64 r1) ∧ w'.cell? ⟨w.heap.size + 1, 4, none⟩ = some (.int .i64 q0) ∧ w'.cell? ⟨w.heap.size + 1, 5, none⟩ = some (.int .i64 q1) ∧ w'.cell? ⟨w.heap.size + 1 + 1, 0, none⟩ = some (cv w' ⟨w.heap.size + 1 + 1, 0, none⟩) ∧ w'.cell? ⟨w.heap.size + 1 + 1, 1, none⟩ = some (cv w' ⟨w.heap.size + 1 + 1, 1, none⟩) ∧ w'.cell? ⟨w.heap.size + 1 + 1, 2, none⟩ = some (cv w' ⟨w.heap.size + 1 + 1, 2, none⟩) ∧ w'.cell? ⟨w.heap.size + 1 + 1, 3, none⟩ = some (cv w' ⟨w.heap.size + 1 + 1, 3, none⟩) ∧ w'.cell? ⟨w.heap.size + 1 + 1, 4, none⟩ = some (cv w' ⟨w.heap.size + 1 + 1, 4, none⟩) ∧ w'.cell? ⟨w.heap.size + 1 + 1, 5, none⟩ = some (cv w' ⟨w.heap.size + 1 + 1, 5, none⟩) ∧ w'.frozen? ⟨w.heap.size + 1 + 1, 0, none⟩ = false ∧ w'.frozen? ⟨w.heap.size + 1 + 1, 1, none⟩ = false ∧ w'.frozen? ⟨w.heap.size + 1 + 1, 2, none⟩ = false ∧ w'.frozen? ⟨w.heap.size + 1 + 1, 3, none⟩ = false ∧ w'.frozen? ⟨w.heap.size + 1 + 1, 4, none⟩ = false ∧ w'.frozen? ⟨w.heap.size + 1 + 1, 5, none⟩ = false ∧ Below w.heap.size w w') (by refine ⟨?_, ?_, ?_, ?_, ?_, ?_, ?_, ?_, ?_, ?_, ?_, ?_, ?_, ?_, ?_, ?_, ?_, ?_, ?_, ?_, ?_, ?_, ?_, ?_, ?_⟩ <;> first | (with_reducible assumption) | (go_grown; done) | (go_cell; done) | go_size | ((repeat first | (with_reducible assumption) | (with_reducible refine szA ?_) | (with_reducible refine szS ?_) | (with_reducible refine szD ?_)); done) | ((repeat first | (with_reducible assumption) | (with_reducible refine cvA ?_) | (with_reducible refine cvS ?_) | (with_reducible refine cvD ?_)); done) | (refine cv_of (v := .int .i64 0) ?_; go_cell; done) | (go_simp; done) | go_keep) (fun wc hc => ?_)
  obtain ⟨x0, x1, x2, x3, x4, x5, x6, x7, x8, x9, x10, x11, g0, g1, g2, g3, g4, g5, z0, z1, z2, z3, z4, z5, hB⟩ := hc
  refine region0 22 1 (by kernel_rfl) (by kernel_rfl) (by kernel_rfl) (by kernel_rfl) (by kernel_rfl) (by decide) ?_
  intro R hR
  simp only [List.take_succ_cons, List.take_zero]
  iterate 22 (refine head0_val ?_ (fun w' hw' => ?_) ?_; rotate_left; (focus (have y0 := keepC hw' x0; have y1 := keepC hw' x1; have y2 := keepC hw' x2; have y3 := keepC hw' x3; have y4 := keepC hw' x4; have y5 := keepC hw' x5; have y6 := keepC hw' x6; have y7 := keepC hw' x7; have y8 := keepC hw' x8; have y9 := keepC hw' x9; have y10 := keepC hw' x10; have y11 := keepC hw' x11; first | (refine onlyMakes_val ?_; first | (go_simp; done) | (go_simp; with_reducible rfl)) | (apply onlyMakes_call; (first | (go_simp; done) | (go_simp; exact ⟨rfl, rfl⟩) | (go_simp; with_reducible rfl)); first | (with_reducible exact HC0.out _) | (with_reducible exact HC1.out _) | (with_reducible exact HC2.out _)))); (try dsimp only); (try simp only [Act.put, List.setIfInBounds_toArray, List.set_cons_zero, List.set_cons_succ]))
  refine head0_nil (hR.out _ ?_)
  refine AnyZ.one_alloc 22 (obj := .cells #[.int .i64 0, .int .i64 0, .int .i64 0, .int .i64 0, .int .i64 0, .int .i64 0] 27) (by kernel_rfl) rfl rfl ⟨rfl, fun w' hw' => ?_⟩ (fun w1 hw1 => ?_)
  · first | (go_simp; done) | (go_simp; with_reducible rfl) | (go_simp; exact ⟨rfl, rfl⟩)
  refine AnyZ.last 23 (by kernel_rfl) (by decide) (fun w2 hw2 => ?_)
  refine wpAny_one 23 (by kernel_rfl) rfl rfl ?_
  have n0 := (newHeld hw2 0 _ rfl)
  have n1 := (newHeld hw2 1 _ rfl)
  have n2 := (newHeld hw2 2 _ rfl)
  have n3 := (newHeld hw2 3 _ rfl)
  have n4 := (newHeld hw2 4 _ rfl)
  have n5 := (newHeld hw2 5 _ rfl)
  have hX : Below wc.heap.size wc w2 := belowSeq hw2 (hw1.alloc hw1.size _)
  have hS := keepW12 hX ⟨x0, x1, x2, x3, x4, x5, x6, x7, x8, x9, x10, x11, g0, g1, g2, g3, g4, g5, z0, z1, z2, z3, z4, z5, hB⟩
  have hz : w.heap.size + 1 + 1 < w1.heap.size := keepZ hw1 (World.block_lt_of_cell? wc _ g0)
  clear hX hR x0 x1 x2 x3 x4 x5 x6 x7 x8 x9 x10 x11 g0 g1 g2 g3 g4 g5 z0 z1 z2 z3 z4 z5 hB
  obtain ⟨x0, x1, x2, x3, x4, x5, x6, x7, x8, x9, x10, x11, g0, g1, g2, g3, g4, g5, z0, z1, z2, z3, z4, z5, hB⟩ := hS
  obtain ⟨n0, f0⟩ := n0
  obtain ⟨n1, f1⟩ := n1
  obtain ⟨n2, f2⟩ := n2
  obtain ⟨n3, f3⟩ := n3
  obtain ⟨n4, f4⟩ := n4
  obtain ⟨n5, f5⟩ := n5
  clear x0 x1 x2 x3 x4 x5 x6 x7 x8 x9 x10 x11
  (try simp only [List.getElem_toArray, List.getElem_cons_succ, List.getElem_cons_zero])
  (try simp only [Act.put, List.setIfInBounds_toArray, List.set_cons_succ, List.set_cons_zero])
  unfold Oper.wp
  go_simp
  refine wpAny_done (by kernel_rfl) ?_
  go_wp2_with fail
  obtain ⟨s0, s1, s2, s3, s4, s5⟩ := set6 n0 n1 n2 n3 n4 n5 (.int .i64 m0) (.int .i64 m1) (.int .i64 m2) (.int .i64 m3) (.int .i64 m4) (.int .i64 m5)
  refine nameWorld (fun w' => w'.cell? ⟨w1.heap.size, 0, none⟩ = some (.int .i64 m0) ∧ w'.cell? ⟨w1.heap.size, 1, none⟩ = some (.int .i64 m1) ∧ w'.cell? ⟨w1.heap.size, 2, none⟩ = some (.int .i64 m2) ∧ w'.cell? ⟨w1.heap.size, 3, none⟩ = some (.int .i64 m3) ∧ w'.cell? ⟨w1.heap.size, 4, none⟩ = some (.int .i64 m4) ∧ w'.cell? ⟨w1.heap.size, 5, none⟩ = some (.int .i64 m5) ∧ w'.cell? ⟨w.heap.size + 1 + 1, 0, none⟩ = some (cv w' ⟨w.heap.size + 1 + 1, 0, none⟩) ∧ w'.cell? ⟨w.heap.size + 1 + 1, 1, none⟩ = some (cv w' ⟨w.heap.size + 1 + 1, 1, none⟩) ∧ w'.cell? ⟨w.heap.size + 1 + 1, 2, none⟩ = some (cv w' ⟨w.heap.size + 1 + 1, 2, none⟩) ∧ w'.cell? ⟨w.heap.size + 1 + 1, 3, none⟩ = some (cv w' ⟨w.heap.size + 1 + 1, 3, none⟩) ∧ w'.cell? ⟨w.heap.size + 1 + 1, 4, none⟩ = some (cv w' ⟨w.heap.size + 1 + 1, 4, none⟩) ∧ w'.cell? ⟨w.heap.size + 1 + 1, 5, none⟩ = some (cv w' ⟨w.heap.size + 1 + 1, 5, none⟩) ∧ w'.frozen? ⟨w.heap.size + 1 + 1, 0, none⟩ = false ∧ w'.frozen? ⟨w.heap.size + 1 + 1, 1, none⟩ = false ∧ w'.frozen? ⟨w.heap.size + 1 + 1, 2, none⟩ = false ∧ w'.frozen? ⟨w.heap.size + 1 + 1, 3, none⟩ = false ∧ w'.frozen? ⟨w.heap.size + 1 + 1, 4, none⟩ = false ∧ w'.frozen? ⟨w.heap.size + 1 + 1, 5, none⟩ = false ∧ Below w.heap.size w w') ⟨s0, s1, s2, s3, s4, s5, cvS (cvS (cvS (cvS (cvS (cvS g0))))), cvS (cvS (cvS (cvS (cvS (cvS g1))))), cvS (cvS (cvS (cvS (cvS (cvS g2))))), cvS (cvS (cvS (cvS (cvS (cvS g3))))), cvS (cvS (cvS (cvS (cvS (cvS g4))))), cvS (cvS (cvS (cvS (cvS (cvS g5))))), by simp only [World.frozen?_setCell]; exact z0, by simp only [World.frozen?_setCell]; exact z1, by simp only [World.frozen?_setCell]; exact z2, by simp only [World.frozen?_setCell]; exact z3, by simp only [World.frozen?_setCell]; exact z4, by simp only [World.frozen?_setCell]; exact z5, by (have hle : w.heap.size ≤ w1.heap.size := by omega); exact (((((hB.setCell hle _).setCell hle _).setCell hle _).setCell hle _).setCell hle _).setCell hle _⟩ (fun wd hd => ?_)
  clear s0 s1 s2 s3 s4 s5 n0 n1 n2 n3 n4 n5 f0 f1 f2 f3 f4 f5 g0 g1 g2 g3 g4 g5 z0 z1 z2 z3 z4 z5 hB
  obtain ⟨x0, x1, x2, x3, x4, x5, g0, g1, g2, g3, g4, g5, z0, z1, z2, z3, z4, z5, hB⟩ := hd
  refine regionP 18 0 [16, 17] (by kernel_rfl) (by kernel_rfl) (by kernel_rfl) (by kernel_rfl) (by decide) (fun _ _ d _ _ h => by cases d <;> exact h) ?_
  intro R hR
  simp only [List.take_succ_cons, List.take_zero]
  iterate 18 (first | (refine headP_val ?_ (by rfl) (by rfl) (fun w' hw' => ?_) ?_; rotate_left; (focus (have y0 := keepC hw' x0; have y1 := keepC hw' x1; have y2 := keepC hw' x2; have y3 := keepC hw' x3; have y4 := keepC hw' x4; have y5 := keepC hw' x5; first | (refine onlyMakes_val ?_; first | (go_simp; done) | (go_simp; with_reducible rfl)) | (apply onlyMakes_call; (first | (go_simp; done) | (go_simp; exact ⟨rfl, rfl⟩) | (go_simp; with_reducible rfl)); first | (with_reducible exact K0.out _) | (with_reducible exact K1.out _)))); (try dsimp only); (try simp only [Act.put, List.setIfInBounds_toArray, List.set_cons_zero, List.set_cons_succ])) | (refine headP_pure ?_ (by rfl) (by rfl) (fun w' => ?_) ?_; rotate_left; (focus ((first | (go_simp; done) | (go_simp; with_reducible rfl)))); (try dsimp only); (try simp only [Act.put, List.setIfInBounds_toArray, List.set_cons_zero, List.set_cons_succ])) | (refine headP_skip (by rfl) ?_; (try dsimp only); (try simp only [Act.put, List.setIfInBounds_toArray, List.set_cons_zero, List.set_cons_succ])))
  refine headP_nil (hR.out _ ?_)
  refine AnyZ.tail (by kernel_rfl) (by kernel_rfl) (fun w3 hw3 => ?_)
  have hS := keepW6 hw3 ⟨x0, x1, x2, x3, x4, x5, g0, g1, g2, g3, g4, g5, z0, z1, z2, z3, z4, z5, hB⟩
  clear hR hw3 x0 x1 x2 x3 x4 x5 g0 g1 g2 g3 g4 g5 z0 z1 z2 z3 z4 z5 hB
  obtain ⟨x0, x1, x2, x3, x4, x5, g0, g1, g2, g3, g4, g5, z0, z1, z2, z3, z4, z5, hB⟩ := hS
  refine wpAny_each1 18 (by kernel_rfl) ?_
  refine wpOp_go rfl (by rfl) ?_
  (try simp only [List.getElem_toArray, List.getElem_cons_succ, List.getElem_cons_zero])
  (try simp only [Act.put, List.setIfInBounds_toArray, List.set_cons_succ, List.set_cons_zero])
  unfold Oper.wp
  go_simp
  refine wpAny_each1 19 (by kernel_rfl) ?_
  refine wpOp_go rfl (by rfl) ?_
  (try simp only [List.getElem_toArray, List.getElem_cons_succ, List.getElem_cons_zero])
  (try simp only [Act.put, List.setIfInBounds_toArray, List.set_cons_succ, List.set_cons_zero])
  unfold Oper.wp
  go_simp
  refine wpAny_done (by kernel_rfl) ?_
  go_wp2_with ((with_reducible refine bodyPost_ret (v := .tuple #[.agg #[.int .i64 m0, .int .i64 m1, .int .i64 m2, .int .i64 m3, .int .i64 m4, .int .i64 m5], .bool false]) ?_ rfl ?_); (have rr0 : ∀ (x0 : Value) (x1 : Value) (x2 : Value) (x3 : Value) (x4 : Value) (x5 : Value), ((((((w3.setCell ⟨w.heap.size + 1 + 1, 0, none⟩ x0).setCell ⟨w.heap.size + 1 + 1, 1, none⟩ x1).setCell ⟨w.heap.size + 1 + 1, 2, none⟩ x2).setCell ⟨w.heap.size + 1 + 1, 3, none⟩ x3).setCell ⟨w.heap.size + 1 + 1, 4, none⟩ x4).setCell ⟨w.heap.size + 1 + 1, 5, none⟩ x5).cell? ⟨w.heap.size + 1 + 1, 0, none⟩ = some x0 := fun x0 x1 x2 x3 x4 x5 => (set6 g0 g1 g2 g3 g4 g5 x0 x1 x2 x3 x4 x5).1; have rr1 : ∀ (x0 : Value) (x1 : Value) (x2 : Value) (x3 : Value) (x4 : Value) (x5 : Value), ((((((w3.setCell ⟨w.heap.size + 1 + 1, 0, none⟩ x0).setCell ⟨w.heap.size + 1 + 1, 1, none⟩ x1).setCell ⟨w.heap.size + 1 + 1, 2, none⟩ x2).setCell ⟨w.heap.size + 1 + 1, 3, none⟩ x3).setCell ⟨w.heap.size + 1 + 1, 4, none⟩ x4).setCell ⟨w.heap.size + 1 + 1, 5, none⟩ x5).cell? ⟨w.heap.size + 1 + 1, 1, none⟩ = some x1 := fun x0 x1 x2 x3 x4 x5 => (set6 g0 g1 g2 g3 g4 g5 x0 x1 x2 x3 x4 x5).2.1; have rr2 : ∀ (x0 : Value) (x1 : Value) (x2 : Value) (x3 : Value) (x4 : Value) (x5 : Value), ((((((w3.setCell ⟨w.heap.size + 1 + 1, 0, none⟩ x0).setCell ⟨w.heap.size + 1 + 1, 1, none⟩ x1).setCell ⟨w.heap.size + 1 + 1, 2, none⟩ x2).setCell ⟨w.heap.size + 1 + 1, 3, none⟩ x3).setCell ⟨w.heap.size + 1 + 1, 4, none⟩ x4).setCell ⟨w.heap.size + 1 + 1, 5, none⟩ x5).cell? ⟨w.heap.size + 1 + 1, 2, none⟩ = some x2 := fun x0 x1 x2 x3 x4 x5 => (set6 g0 g1 g2 g3 g4 g5 x0 x1 x2 x3 x4 x5).2.2.1; have rr3 : ∀ (x0 : Value) (x1 : Value) (x2 : Value) (x3 : Value) (x4 : Value) (x5 : Value), ((((((w3.setCell ⟨w.heap.size + 1 + 1, 0, none⟩ x0).setCell ⟨w.heap.size + 1 + 1, 1, none⟩ x1).setCell ⟨w.heap.size + 1 + 1, 2, none⟩ x2).setCell ⟨w.heap.size + 1 + 1, 3, none⟩ x3).setCell ⟨w.heap.size + 1 + 1, 4, none⟩ x4).setCell ⟨w.heap.size + 1 + 1, 5, none⟩ x5).cell? ⟨w.heap.size + 1 + 1, 3, none⟩ = some x3 := fun x0 x1 x2 x3 x4 x5 => (set6 g0 g1 g2 g3 g4 g5 x0 x1 x2 x3 x4 x5).2.2.2.1; have rr4 : ∀ (x0 : Value) (x1 : Value) (x2 : Value) (x3 : Value) (x4 : Value) (x5 : Value), ((((((w3.setCell ⟨w.heap.size + 1 + 1, 0, none⟩ x0).setCell ⟨w.heap.size + 1 + 1, 1, none⟩ x1).setCell ⟨w.heap.size + 1 + 1, 2, none⟩ x2).setCell ⟨w.heap.size + 1 + 1, 3, none⟩ x3).setCell ⟨w.heap.size + 1 + 1, 4, none⟩ x4).setCell ⟨w.heap.size + 1 + 1, 5, none⟩ x5).cell? ⟨w.heap.size + 1 + 1, 4, none⟩ = some x4 := fun x0 x1 x2 x3 x4 x5 => (set6 g0 g1 g2 g3 g4 g5 x0 x1 x2 x3 x4 x5).2.2.2.2.1; have rr5 : ∀ (x0 : Value) (x1 : Value) (x2 : Value) (x3 : Value) (x4 : Value) (x5 : Value), ((((((w3.setCell ⟨w.heap.size + 1 + 1, 0, none⟩ x0).setCell ⟨w.heap.size + 1 + 1, 1, none⟩ x1).setCell ⟨w.heap.size + 1 + 1, 2, none⟩ x2).setCell ⟨w.heap.size + 1 + 1, 3, none⟩ x3).setCell ⟨w.heap.size + 1 + 1, 4, none⟩ x4).setCell ⟨w.heap.size + 1 + 1, 5, none⟩ x5).cell? ⟨w.heap.size + 1 + 1, 5, none⟩ = some x5 := fun x0 x1 x2 x3 x4 x5 => (set6 g0 g1 g2 g3 g4 g5 x0 x1 x2 x3 x4 x5).2.2.2.2.2; simp [results, Try.results67, go_sem, rr0, rr1, rr2, rr3, rr4, rr5]); exact ⟨rfl, by go_grown⟩)
set_option linter.unusedVariables false in
set_option maxRecDepth 100000 in
set_option maxHeartbeats 8000000 in
theorem bothCommon_no2 (v0 v1 s0 s1 c0 c1 u0 u1 r0 r1 q0 q1 m0 m1 m2 m3 m4 m5 : Int) (w : World) (hc0 : ∀ w : World, Calls Try.prog 88 #[.agg #[.int .i64 v0, .int .i64 v1], .agg #[.int .i64 u0, .int .i64 u1]] w fun e w' => e = .returned (.agg #[.int .i64 m0, .int .i64 m1]) ∧ Below w.heap.size w w') (hc1 : ∀ w : World, Calls Try.prog 88 #[.agg #[.int .i64 s0, .int .i64 s1], .agg #[.int .i64 r0, .int .i64 r1]] w fun e w' => e = .returned (.agg #[.int .i64 m2, .int .i64 m3]) ∧ Below w.heap.size w w') (hc2 : ∀ w : World, Calls Try.prog 88 #[.agg #[.int .i64 c0, .int .i64 c1], .agg #[.int .i64 q0, .int .i64 q1]] w fun e w' => e = .returned (.agg #[.int .i64 m4, .int .i64 m5]) ∧ Below w.heap.size w w') (k0 : ∀ w : World, Calls Try.prog 79 #[.agg #[.int .i64 m0, .int .i64 m1]] w fun e w' => e = .returned (.bool false) ∧ Below w.heap.size w w') (k1 : ∀ w : World, Calls Try.prog 79 #[.agg #[.int .i64 m2, .int .i64 m3]] w fun e w' => e = .returned (.bool false) ∧ Below w.heap.size w w') (k2 : ∀ w : World, Calls Try.prog 79 #[.agg #[.int .i64 m4, .int .i64 m5]] w fun e w' => e = .returned (.bool true) ∧ Below w.heap.size w w') :
    Calls Try.prog 67 #[.agg #[.int .i64 v0, .int .i64 v1, .int .i64 s0, .int .i64 s1, .int .i64 c0, .int .i64 c1], .agg #[.int .i64 u0, .int .i64 u1, .int .i64 r0, .int .i64 r1, .int .i64 q0, .int .i64 q1]] w fun e w' => e = .returned (.tuple #[.agg #[.int .i64 m0, .int .i64 m1, .int .i64 m2, .int .i64 m3, .int .i64 m4, .int .i64 m5], .bool false]) ∧ Below w.heap.size w w' := by
  have HC0 := Lib.hid hc0
  have HC1 := Lib.hid hc1
  have HC2 := Lib.hid hc2
  have K0 := Lib.hid k0
  have K1 := Lib.hid k1
  have K2 := Lib.hid k2
  clear hc0 hc1 hc2 k0 k1 k2
  go_enter Try.func67, Try.ntmps67
  go_upto_region 1 with fail
  refine nameWorld (fun w' => w'.cell? ⟨w.heap.size, 0, none⟩ = some (.int .i64 v0) ∧ w'.cell? ⟨w.heap.size, 1, none⟩ = some (.int .i64 v1) ∧ w'.cell? ⟨w.heap.size, 2, none⟩ = some (.int .i64 s0) ∧ w'.cell? ⟨w.heap.size, 3, none⟩ = some (.int .i64 s1) ∧ w'.cell? ⟨w.heap.size, 4, none⟩ = some (.int .i64 c0) ∧ w'.cell? ⟨w.heap.size, 5, none⟩ = some (.int .i64 c1) ∧ w'.cell? ⟨w.heap.size + 1, 0, none⟩ = some (.int .i64 u0) ∧ w'.cell? ⟨w.heap.size + 1, 1, none⟩ = some (.int .i64 u1) ∧ w'.cell? ⟨w.heap.size + 1, 2, none⟩ = some (.int .i64 r0) ∧ w'.cell? ⟨w.heap.size + 1, 3, none⟩ = some (.int .i64 r1) ∧ w'.cell? ⟨w.heap.size + 1, 4, none⟩ = some (.int .i64 q0) ∧ w'.cell? ⟨w.heap.size + 1, 5, none⟩ = some (.int .i64 q1) ∧ w'.cell? ⟨w.heap.size + 1 + 1, 0, none⟩ = some (cv w' ⟨w.heap.size + 1 + 1, 0, none⟩) ∧ w'.cell? ⟨w.heap.size + 1 + 1, 1, none⟩ = some (cv w' ⟨w.heap.size + 1 + 1, 1, none⟩) ∧ w'.cell? ⟨w.heap.size + 1 + 1, 2, none⟩ = some (cv w' ⟨w.heap.size + 1 + 1, 2, none⟩) ∧ w'.cell? ⟨w.heap.size + 1 + 1, 3, none⟩ = some (cv w' ⟨w.heap.size + 1 + 1, 3, none⟩) ∧ w'.cell? ⟨w.heap.size + 1 + 1, 4, none⟩ = some (cv w' ⟨w.heap.size + 1 + 1, 4, none⟩) ∧ w'.cell? ⟨w.heap.size + 1 + 1, 5, none⟩ = some (cv w' ⟨w.heap.size + 1 + 1, 5, none⟩) ∧ w'.frozen? ⟨w.heap.size + 1 + 1, 0, none⟩ = false ∧ w'.frozen? ⟨w.heap.size + 1 + 1, 1, none⟩ = false ∧ w'.frozen? ⟨w.heap.size + 1 + 1, 2, none⟩ = false ∧ w'.frozen? ⟨w.heap.size + 1 + 1, 3, none⟩ = false ∧ w'.frozen? ⟨w.heap.size + 1 + 1, 4, none⟩ = false ∧ w'.frozen? ⟨w.heap.size + 1 + 1, 5, none⟩ = false ∧ Below w.heap.size w w') (by refine ⟨?_, ?_, ?_, ?_, ?_, ?_, ?_, ?_, ?_, ?_, ?_, ?_, ?_, ?_, ?_, ?_, ?_, ?_, ?_, ?_, ?_, ?_, ?_, ?_, ?_⟩ <;> first | (with_reducible assumption) | (go_grown; done) | (go_cell; done) | go_size | ((repeat first | (with_reducible assumption) | (with_reducible refine szA ?_) | (with_reducible refine szS ?_) | (with_reducible refine szD ?_)); done) | ((repeat first | (with_reducible assumption) | (with_reducible refine cvA ?_) | (with_reducible refine cvS ?_) | (with_reducible refine cvD ?_)); done) | (refine cv_of (v := .int .i64 0) ?_; go_cell; done) | (go_simp; done) | go_keep) (fun wc hc => ?_)
  obtain ⟨x0, x1, x2, x3, x4, x5, x6, x7, x8, x9, x10, x11, g0, g1, g2, g3, g4, g5, z0, z1, z2, z3, z4, z5, hB⟩ := hc
  refine region0 22 1 (by kernel_rfl) (by kernel_rfl) (by kernel_rfl) (by kernel_rfl) (by kernel_rfl) (by decide) ?_
  intro R hR
  simp only [List.take_succ_cons, List.take_zero]
  iterate 22 (refine head0_val ?_ (fun w' hw' => ?_) ?_; rotate_left; (focus (have y0 := keepC hw' x0; have y1 := keepC hw' x1; have y2 := keepC hw' x2; have y3 := keepC hw' x3; have y4 := keepC hw' x4; have y5 := keepC hw' x5; have y6 := keepC hw' x6; have y7 := keepC hw' x7; have y8 := keepC hw' x8; have y9 := keepC hw' x9; have y10 := keepC hw' x10; have y11 := keepC hw' x11; first | (refine onlyMakes_val ?_; first | (go_simp; done) | (go_simp; with_reducible rfl)) | (apply onlyMakes_call; (first | (go_simp; done) | (go_simp; exact ⟨rfl, rfl⟩) | (go_simp; with_reducible rfl)); first | (with_reducible exact HC0.out _) | (with_reducible exact HC1.out _) | (with_reducible exact HC2.out _)))); (try dsimp only); (try simp only [Act.put, List.setIfInBounds_toArray, List.set_cons_zero, List.set_cons_succ]))
  refine head0_nil (hR.out _ ?_)
  refine AnyZ.one_alloc 22 (obj := .cells #[.int .i64 0, .int .i64 0, .int .i64 0, .int .i64 0, .int .i64 0, .int .i64 0] 27) (by kernel_rfl) rfl rfl ⟨rfl, fun w' hw' => ?_⟩ (fun w1 hw1 => ?_)
  · first | (go_simp; done) | (go_simp; with_reducible rfl) | (go_simp; exact ⟨rfl, rfl⟩)
  refine AnyZ.last 23 (by kernel_rfl) (by decide) (fun w2 hw2 => ?_)
  refine wpAny_one 23 (by kernel_rfl) rfl rfl ?_
  have n0 := (newHeld hw2 0 _ rfl)
  have n1 := (newHeld hw2 1 _ rfl)
  have n2 := (newHeld hw2 2 _ rfl)
  have n3 := (newHeld hw2 3 _ rfl)
  have n4 := (newHeld hw2 4 _ rfl)
  have n5 := (newHeld hw2 5 _ rfl)
  have hX : Below wc.heap.size wc w2 := belowSeq hw2 (hw1.alloc hw1.size _)
  have hS := keepW12 hX ⟨x0, x1, x2, x3, x4, x5, x6, x7, x8, x9, x10, x11, g0, g1, g2, g3, g4, g5, z0, z1, z2, z3, z4, z5, hB⟩
  have hz : w.heap.size + 1 + 1 < w1.heap.size := keepZ hw1 (World.block_lt_of_cell? wc _ g0)
  clear hX hR x0 x1 x2 x3 x4 x5 x6 x7 x8 x9 x10 x11 g0 g1 g2 g3 g4 g5 z0 z1 z2 z3 z4 z5 hB
  obtain ⟨x0, x1, x2, x3, x4, x5, x6, x7, x8, x9, x10, x11, g0, g1, g2, g3, g4, g5, z0, z1, z2, z3, z4, z5, hB⟩ := hS
  obtain ⟨n0, f0⟩ := n0
  obtain ⟨n1, f1⟩ := n1
  obtain ⟨n2, f2⟩ := n2
  obtain ⟨n3, f3⟩ := n3
  obtain ⟨n4, f4⟩ := n4
  obtain ⟨n5, f5⟩ := n5
  clear x0 x1 x2 x3 x4 x5 x6 x7 x8 x9 x10 x11
  (try simp only [List.getElem_toArray, List.getElem_cons_succ, List.getElem_cons_zero])
  (try simp only [Act.put, List.setIfInBounds_toArray, List.set_cons_succ, List.set_cons_zero])
  unfold Oper.wp
  go_simp
  refine wpAny_done (by kernel_rfl) ?_
  go_wp2_with fail
  obtain ⟨s0, s1, s2, s3, s4, s5⟩ := set6 n0 n1 n2 n3 n4 n5 (.int .i64 m0) (.int .i64 m1) (.int .i64 m2) (.int .i64 m3) (.int .i64 m4) (.int .i64 m5)
  refine nameWorld (fun w' => w'.cell? ⟨w1.heap.size, 0, none⟩ = some (.int .i64 m0) ∧ w'.cell? ⟨w1.heap.size, 1, none⟩ = some (.int .i64 m1) ∧ w'.cell? ⟨w1.heap.size, 2, none⟩ = some (.int .i64 m2) ∧ w'.cell? ⟨w1.heap.size, 3, none⟩ = some (.int .i64 m3) ∧ w'.cell? ⟨w1.heap.size, 4, none⟩ = some (.int .i64 m4) ∧ w'.cell? ⟨w1.heap.size, 5, none⟩ = some (.int .i64 m5) ∧ w'.cell? ⟨w.heap.size + 1 + 1, 0, none⟩ = some (cv w' ⟨w.heap.size + 1 + 1, 0, none⟩) ∧ w'.cell? ⟨w.heap.size + 1 + 1, 1, none⟩ = some (cv w' ⟨w.heap.size + 1 + 1, 1, none⟩) ∧ w'.cell? ⟨w.heap.size + 1 + 1, 2, none⟩ = some (cv w' ⟨w.heap.size + 1 + 1, 2, none⟩) ∧ w'.cell? ⟨w.heap.size + 1 + 1, 3, none⟩ = some (cv w' ⟨w.heap.size + 1 + 1, 3, none⟩) ∧ w'.cell? ⟨w.heap.size + 1 + 1, 4, none⟩ = some (cv w' ⟨w.heap.size + 1 + 1, 4, none⟩) ∧ w'.cell? ⟨w.heap.size + 1 + 1, 5, none⟩ = some (cv w' ⟨w.heap.size + 1 + 1, 5, none⟩) ∧ w'.frozen? ⟨w.heap.size + 1 + 1, 0, none⟩ = false ∧ w'.frozen? ⟨w.heap.size + 1 + 1, 1, none⟩ = false ∧ w'.frozen? ⟨w.heap.size + 1 + 1, 2, none⟩ = false ∧ w'.frozen? ⟨w.heap.size + 1 + 1, 3, none⟩ = false ∧ w'.frozen? ⟨w.heap.size + 1 + 1, 4, none⟩ = false ∧ w'.frozen? ⟨w.heap.size + 1 + 1, 5, none⟩ = false ∧ Below w.heap.size w w') ⟨s0, s1, s2, s3, s4, s5, cvS (cvS (cvS (cvS (cvS (cvS g0))))), cvS (cvS (cvS (cvS (cvS (cvS g1))))), cvS (cvS (cvS (cvS (cvS (cvS g2))))), cvS (cvS (cvS (cvS (cvS (cvS g3))))), cvS (cvS (cvS (cvS (cvS (cvS g4))))), cvS (cvS (cvS (cvS (cvS (cvS g5))))), by simp only [World.frozen?_setCell]; exact z0, by simp only [World.frozen?_setCell]; exact z1, by simp only [World.frozen?_setCell]; exact z2, by simp only [World.frozen?_setCell]; exact z3, by simp only [World.frozen?_setCell]; exact z4, by simp only [World.frozen?_setCell]; exact z5, by (have hle : w.heap.size ≤ w1.heap.size := by omega); exact (((((hB.setCell hle _).setCell hle _).setCell hle _).setCell hle _).setCell hle _).setCell hle _⟩ (fun wd hd => ?_)
  clear s0 s1 s2 s3 s4 s5 n0 n1 n2 n3 n4 n5 f0 f1 f2 f3 f4 f5 g0 g1 g2 g3 g4 g5 z0 z1 z2 z3 z4 z5 hB
  obtain ⟨x0, x1, x2, x3, x4, x5, g0, g1, g2, g3, g4, g5, z0, z1, z2, z3, z4, z5, hB⟩ := hd
  refine regionP 18 0 [16, 17] (by kernel_rfl) (by kernel_rfl) (by kernel_rfl) (by kernel_rfl) (by decide) (fun _ _ d _ _ h => by cases d <;> exact h) ?_
  intro R hR
  simp only [List.take_succ_cons, List.take_zero]
  iterate 18 (first | (refine headP_val ?_ (by rfl) (by rfl) (fun w' hw' => ?_) ?_; rotate_left; (focus (have y0 := keepC hw' x0; have y1 := keepC hw' x1; have y2 := keepC hw' x2; have y3 := keepC hw' x3; have y4 := keepC hw' x4; have y5 := keepC hw' x5; first | (refine onlyMakes_val ?_; first | (go_simp; done) | (go_simp; with_reducible rfl)) | (apply onlyMakes_call; (first | (go_simp; done) | (go_simp; exact ⟨rfl, rfl⟩) | (go_simp; with_reducible rfl)); first | (with_reducible exact K0.out _) | (with_reducible exact K1.out _) | (with_reducible exact K2.out _)))); (try dsimp only); (try simp only [Act.put, List.setIfInBounds_toArray, List.set_cons_zero, List.set_cons_succ])) | (refine headP_pure ?_ (by rfl) (by rfl) (fun w' => ?_) ?_; rotate_left; (focus ((first | (go_simp; done) | (go_simp; with_reducible rfl)))); (try dsimp only); (try simp only [Act.put, List.setIfInBounds_toArray, List.set_cons_zero, List.set_cons_succ])) | (refine headP_skip (by rfl) ?_; (try dsimp only); (try simp only [Act.put, List.setIfInBounds_toArray, List.set_cons_zero, List.set_cons_succ])))
  refine headP_nil (hR.out _ ?_)
  refine AnyZ.tail (by kernel_rfl) (by kernel_rfl) (fun w3 hw3 => ?_)
  have hS := keepW6 hw3 ⟨x0, x1, x2, x3, x4, x5, g0, g1, g2, g3, g4, g5, z0, z1, z2, z3, z4, z5, hB⟩
  clear hR hw3 x0 x1 x2 x3 x4 x5 g0 g1 g2 g3 g4 g5 z0 z1 z2 z3 z4 z5 hB
  obtain ⟨x0, x1, x2, x3, x4, x5, g0, g1, g2, g3, g4, g5, z0, z1, z2, z3, z4, z5, hB⟩ := hS
  refine wpAny_each1 18 (by kernel_rfl) ?_
  refine wpOp_go rfl (by rfl) ?_
  (try simp only [List.getElem_toArray, List.getElem_cons_succ, List.getElem_cons_zero])
  (try simp only [Act.put, List.setIfInBounds_toArray, List.set_cons_succ, List.set_cons_zero])
  unfold Oper.wp
  go_simp
  refine wpAny_each1 19 (by kernel_rfl) ?_
  refine wpOp_go rfl (by rfl) ?_
  (try simp only [List.getElem_toArray, List.getElem_cons_succ, List.getElem_cons_zero])
  (try simp only [Act.put, List.setIfInBounds_toArray, List.set_cons_succ, List.set_cons_zero])
  unfold Oper.wp
  go_simp
  refine wpAny_done (by kernel_rfl) ?_
  go_wp2_with ((with_reducible refine bodyPost_ret (v := .tuple #[.agg #[.int .i64 m0, .int .i64 m1, .int .i64 m2, .int .i64 m3, .int .i64 m4, .int .i64 m5], .bool false]) ?_ rfl ?_); (have rr0 : ∀ (x0 : Value) (x1 : Value) (x2 : Value) (x3 : Value) (x4 : Value) (x5 : Value), ((((((w3.setCell ⟨w.heap.size + 1 + 1, 0, none⟩ x0).setCell ⟨w.heap.size + 1 + 1, 1, none⟩ x1).setCell ⟨w.heap.size + 1 + 1, 2, none⟩ x2).setCell ⟨w.heap.size + 1 + 1, 3, none⟩ x3).setCell ⟨w.heap.size + 1 + 1, 4, none⟩ x4).setCell ⟨w.heap.size + 1 + 1, 5, none⟩ x5).cell? ⟨w.heap.size + 1 + 1, 0, none⟩ = some x0 := fun x0 x1 x2 x3 x4 x5 => (set6 g0 g1 g2 g3 g4 g5 x0 x1 x2 x3 x4 x5).1; have rr1 : ∀ (x0 : Value) (x1 : Value) (x2 : Value) (x3 : Value) (x4 : Value) (x5 : Value), ((((((w3.setCell ⟨w.heap.size + 1 + 1, 0, none⟩ x0).setCell ⟨w.heap.size + 1 + 1, 1, none⟩ x1).setCell ⟨w.heap.size + 1 + 1, 2, none⟩ x2).setCell ⟨w.heap.size + 1 + 1, 3, none⟩ x3).setCell ⟨w.heap.size + 1 + 1, 4, none⟩ x4).setCell ⟨w.heap.size + 1 + 1, 5, none⟩ x5).cell? ⟨w.heap.size + 1 + 1, 1, none⟩ = some x1 := fun x0 x1 x2 x3 x4 x5 => (set6 g0 g1 g2 g3 g4 g5 x0 x1 x2 x3 x4 x5).2.1; have rr2 : ∀ (x0 : Value) (x1 : Value) (x2 : Value) (x3 : Value) (x4 : Value) (x5 : Value), ((((((w3.setCell ⟨w.heap.size + 1 + 1, 0, none⟩ x0).setCell ⟨w.heap.size + 1 + 1, 1, none⟩ x1).setCell ⟨w.heap.size + 1 + 1, 2, none⟩ x2).setCell ⟨w.heap.size + 1 + 1, 3, none⟩ x3).setCell ⟨w.heap.size + 1 + 1, 4, none⟩ x4).setCell ⟨w.heap.size + 1 + 1, 5, none⟩ x5).cell? ⟨w.heap.size + 1 + 1, 2, none⟩ = some x2 := fun x0 x1 x2 x3 x4 x5 => (set6 g0 g1 g2 g3 g4 g5 x0 x1 x2 x3 x4 x5).2.2.1; have rr3 : ∀ (x0 : Value) (x1 : Value) (x2 : Value) (x3 : Value) (x4 : Value) (x5 : Value), ((((((w3.setCell ⟨w.heap.size + 1 + 1, 0, none⟩ x0).setCell ⟨w.heap.size + 1 + 1, 1, none⟩ x1).setCell ⟨w.heap.size + 1 + 1, 2, none⟩ x2).setCell ⟨w.heap.size + 1 + 1, 3, none⟩ x3).setCell ⟨w.heap.size + 1 + 1, 4, none⟩ x4).setCell ⟨w.heap.size + 1 + 1, 5, none⟩ x5).cell? ⟨w.heap.size + 1 + 1, 3, none⟩ = some x3 := fun x0 x1 x2 x3 x4 x5 => (set6 g0 g1 g2 g3 g4 g5 x0 x1 x2 x3 x4 x5).2.2.2.1; have rr4 : ∀ (x0 : Value) (x1 : Value) (x2 : Value) (x3 : Value) (x4 : Value) (x5 : Value), ((((((w3.setCell ⟨w.heap.size + 1 + 1, 0, none⟩ x0).setCell ⟨w.heap.size + 1 + 1, 1, none⟩ x1).setCell ⟨w.heap.size + 1 + 1, 2, none⟩ x2).setCell ⟨w.heap.size + 1 + 1, 3, none⟩ x3).setCell ⟨w.heap.size + 1 + 1, 4, none⟩ x4).setCell ⟨w.heap.size + 1 + 1, 5, none⟩ x5).cell? ⟨w.heap.size + 1 + 1, 4, none⟩ = some x4 := fun x0 x1 x2 x3 x4 x5 => (set6 g0 g1 g2 g3 g4 g5 x0 x1 x2 x3 x4 x5).2.2.2.2.1; have rr5 : ∀ (x0 : Value) (x1 : Value) (x2 : Value) (x3 : Value) (x4 : Value) (x5 : Value), ((((((w3.setCell ⟨w.heap.size + 1 + 1, 0, none⟩ x0).setCell ⟨w.heap.size + 1 + 1, 1, none⟩ x1).setCell ⟨w.heap.size + 1 + 1, 2, none⟩ x2).setCell ⟨w.heap.size + 1 + 1, 3, none⟩ x3).setCell ⟨w.heap.size + 1 + 1, 4, none⟩ x4).setCell ⟨w.heap.size + 1 + 1, 5, none⟩ x5).cell? ⟨w.heap.size + 1 + 1, 5, none⟩ = some x5 := fun x0 x1 x2 x3 x4 x5 => (set6 g0 g1 g2 g3 g4 g5 x0 x1 x2 x3 x4 x5).2.2.2.2.2; simp [results, Try.results67, go_sem, rr0, rr1, rr2, rr3, rr4, rr5]); exact ⟨rfl, by go_grown⟩)
end Go.Proofs.Ytpccfjdgnmmfoaa
