/- Contracts of the reference of chapter 3: alcohol, rateOf. -/
import Derived.Test.YtcpkoapkmjcigaaF9
import Derived.Test.YtcpkoapkmjcigaaF11
import Derived.Test.YtcpkoapkmjcigaaQ1
namespace Go.Proofs.Ytcpkoapkmjcigaa
open Go.RowKit

set_option maxHeartbeats 1000000 in
theorem alcohol_any (v0 v1 s0 s1 c0 c1 : Int) (w : World) (v00 : 0 ≤ v0) (v01 : v0 ≤ 100000) (v10 : 0 ≤ v1) (v11 : v1 ≤ 100000) (s00 : 0 ≤ s0) (s01 : s0 ≤ 10000) (s10 : 0 ≤ s1) (s11 : s1 ≤ 10000) :
    Calls Try.prog 101 #[.agg #[.int .i64 v0, .int .i64 v1, .int .i64 s0, .int .i64 s1, .int .i64 c0, .int .i64 c1]] w fun e w' => e = .returned (.agg #[.int .i64 (v0 * s0), .int .i64 (v1 * s1)]) ∧ Below w.heap.size w w' := by
  obtain ⟨p0, p1⟩ := mul_bd v0 s0 100000 10000 v00 v01 s00 s01
  obtain ⟨p2, p3⟩ := mul_bd v1 s1 100000 10000 v10 v11 s10 s11
  go_enter Try.func101, Try.ntmps101
  go_wp2
  go_returns
  exact ⟨rfl, by go_grown⟩
set_option maxRecDepth 100000 in
set_option maxHeartbeats 4000000 in
theorem refRate_a (b0 b1 d0 d1 days lo hi : Int) (w : World) (B00 : 0 < b0) (B01 : b0 ≤ 1000000000) (B10 : 0 < b1) (B11 : b1 ≤ 1000000000) (D00 : 0 ≤ d0) (D01 : d0 ≤ 1000000000) (D10 : 0 ≤ d1) (D11 : d1 ≤ 1000000000) (Y0 : 0 < days) (Y1 : days ≤ 365) (he : 0 < lo) (hf : hi < 2000)
    (k1 : ∀ w : World, Calls Try.prog 68 #[.int .i64 (1000000 * (b0 - d1)), .int .i64 (b0 * days)] w fun x w' => x = .returned (.int .i64 lo) ∧ Below w.heap.size w w')
    (k2 : ∀ w : World, Calls Try.prog 69 #[.int .i64 (1000000 * (b1 - d0)), .int .i64 (b1 * days)] w fun x w' => x = .returned (.int .i64 hi) ∧ Below w.heap.size w w') :
    Calls Try.prog 100 #[.agg #[.int .i64 b0, .int .i64 b1], .agg #[.int .i64 d0, .int .i64 d1], .int .i64 days] w fun e w' => e = .returned (.agg #[.int .i64 lo, .int .i64 hi]) ∧ Below w.heap.size w w' := by
  obtain ⟨m0, m1⟩ := mul_bd b0 days 1000000000 365 (by omega) B01 (by omega) Y1
  obtain ⟨m2, m3⟩ := mul_bd b1 days 1000000000 365 (by omega) B11 (by omega) Y1
  have K1 := Lib.hid k1
  have K2 := Lib.hid k2
  clear k1 k2
  go_enter Try.func100, Try.ntmps100
  go_upto_region 1 with fail
  refine nameWorld (fun w' => w'.cell? ⟨w.heap.size, 0, none⟩ = some (.int .i64 b0) ∧ w'.cell? ⟨w.heap.size, 1, none⟩ = some (.int .i64 b1) ∧ w'.cell? ⟨w.heap.size + 1, 0, none⟩ = some (.int .i64 d0) ∧ w'.cell? ⟨w.heap.size + 1, 1, none⟩ = some (.int .i64 d1) ∧ w'.cell? ⟨w.heap.size + 1 + 1, 0, none⟩ = some (cv w' ⟨w.heap.size + 1 + 1, 0, none⟩) ∧ w'.cell? ⟨w.heap.size + 1 + 1, 1, none⟩ = some (cv w' ⟨w.heap.size + 1 + 1, 1, none⟩) ∧ w'.frozen? ⟨w.heap.size + 1 + 1, 0, none⟩ = false ∧ w'.frozen? ⟨w.heap.size + 1 + 1, 1, none⟩ = false ∧ Below w.heap.size w w') (by refine ⟨?_, ?_, ?_, ?_, ?_, ?_, ?_, ?_, ?_⟩ <;> first | (with_reducible assumption) | (go_grown; done) | (go_cell; done) | go_size | ((repeat first | (with_reducible assumption) | (with_reducible refine szA ?_) | (with_reducible refine szS ?_) | (with_reducible refine szD ?_)); done) | ((repeat first | (with_reducible assumption) | (with_reducible refine cvA ?_) | (with_reducible refine cvS ?_) | (with_reducible refine cvD ?_)); done) | (refine cv_of (v := .int .i64 0) ?_; go_cell; done) | (go_simp; done) | go_keep) (fun wc hc => ?_)
  obtain ⟨x0, x1, x2, x3, r0, r1, z0, z1, hB⟩ := hc
  have t0 : IntKind.i64.wrap (b0 - d1) = b0 - d1 := IntWalk.i64_in _ (by omega)
  have p0 : IntKind.i64.wrap (1000000 * (b0 - d1)) = 1000000 * (b0 - d1) := IntWalk.i64_in _ (by omega)
  have t1 : IntKind.i64.wrap (b1 - d0) = b1 - d0 := IntWalk.i64_in _ (by omega)
  have p1 : IntKind.i64.wrap (1000000 * (b1 - d0)) = 1000000 * (b1 - d0) := IntWalk.i64_in _ (by omega)
  have o0 : IntKind.i64.wrap (b0 * days) = b0 * days := IntWalk.i64_in _ (by omega)
  have o1 : IntKind.i64.wrap (b1 * days) = b1 * days := IntWalk.i64_in _ (by omega)
  refine region0 25 0 (by kernel_rfl) (by kernel_rfl) (by kernel_rfl) (by kernel_rfl) (by kernel_rfl) (by decide) ?_
  intro R hR
  simp only [List.take_succ_cons, List.take_zero]
  iterate 25 (refine head0_val ?_ (fun w' hw' => ?_) ?_; rotate_left; (focus (have y0 := keepC hw' x0; have y1 := keepC hw' x1; have y2 := keepC hw' x2; have y3 := keepC hw' x3; first | (refine onlyMakes_val ?_; first | (go_simp; done) | (go_simp; with_reducible rfl)) | (apply onlyMakes_call; (first | (go_simp; done) | (go_simp; exact ⟨rfl, rfl⟩) | (go_simp; with_reducible rfl)); first | (with_reducible exact K1.out _) | (with_reducible exact K2.out _)))); (try dsimp only); (try simp only [Act.put, List.setIfInBounds_toArray, List.set_cons_zero, List.set_cons_succ]))
  refine head0_nil (hR.out _ ?_)
  refine AnyZ.last 25 (by kernel_rfl) (by decide) (fun w2 hw2 => ?_)
  refine wpAny_one 25 (by kernel_rfl) rfl rfl ?_
  have R0 := keepV hw2 r0
  have R1 := keepV hw2 r1
  have Z0 := keepF hw2 r0 z0
  have Z1 := keepF hw2 r1 z1
  have hB2 := belowSeq hw2 hB
  clear hw2 hR hB x0 x1 x2 x3 r0 r1 z0 z1
  (try simp only [List.getElem_toArray, List.getElem_cons_succ, List.getElem_cons_zero])
  (try simp only [Act.put, List.setIfInBounds_toArray, List.set_cons_succ, List.set_cons_zero])
  unfold Oper.wp
  go_simp
  refine wpAny_done (by kernel_rfl) ?_
  go_wp2_with ((with_reducible refine bodyPost_ret (v := .agg #[.int .i64 lo, .int .i64 hi]) ?_ rfl ?_); (have rr0 : ∀ (x0 : Value) (x1 : Value), ((w2.setCell ⟨w.heap.size + 1 + 1, 0, none⟩ x0).setCell ⟨w.heap.size + 1 + 1, 1, none⟩ x1).cell? ⟨w.heap.size + 1 + 1, 0, none⟩ = some x0 := fun x0 x1 => (set2 R0 R1 x0 x1).1; have rr1 : ∀ (x0 : Value) (x1 : Value), ((w2.setCell ⟨w.heap.size + 1 + 1, 0, none⟩ x0).setCell ⟨w.heap.size + 1 + 1, 1, none⟩ x1).cell? ⟨w.heap.size + 1 + 1, 1, none⟩ = some x1 := fun x0 x1 => (set2 R0 R1 x0 x1).2; simp [results, Try.results100, go_sem, rr0, rr1]); exact ⟨rfl, by go_grown⟩)
set_option maxRecDepth 100000 in
set_option maxHeartbeats 4000000 in
theorem refRate_b (b0 b1 d0 d1 days lo hi : Int) (w : World) (B00 : 0 < b0) (B01 : b0 ≤ 1000000000) (B10 : 0 < b1) (B11 : b1 ≤ 1000000000) (D00 : 0 ≤ d0) (D01 : d0 ≤ 1000000000) (D10 : 0 ≤ d1) (D11 : d1 ≤ 1000000000) (Y0 : 0 < days) (Y1 : days ≤ 365) (he : 0 < lo) (hf : 2000 ≤ hi)
    (k1 : ∀ w : World, Calls Try.prog 68 #[.int .i64 (1000000 * (b0 - d1)), .int .i64 (b0 * days)] w fun x w' => x = .returned (.int .i64 lo) ∧ Below w.heap.size w w')
    (k2 : ∀ w : World, Calls Try.prog 69 #[.int .i64 (1000000 * (b1 - d0)), .int .i64 (b1 * days)] w fun x w' => x = .returned (.int .i64 hi) ∧ Below w.heap.size w w') :
    Calls Try.prog 100 #[.agg #[.int .i64 b0, .int .i64 b1], .agg #[.int .i64 d0, .int .i64 d1], .int .i64 days] w fun e w' => e = .returned (.agg #[.int .i64 lo, .int .i64 2000]) ∧ Below w.heap.size w w' := by
  obtain ⟨m0, m1⟩ := mul_bd b0 days 1000000000 365 (by omega) B01 (by omega) Y1
  obtain ⟨m2, m3⟩ := mul_bd b1 days 1000000000 365 (by omega) B11 (by omega) Y1
  have K1 := Lib.hid k1
  have K2 := Lib.hid k2
  clear k1 k2
  go_enter Try.func100, Try.ntmps100
  go_upto_region 1 with fail
  refine nameWorld (fun w' => w'.cell? ⟨w.heap.size, 0, none⟩ = some (.int .i64 b0) ∧ w'.cell? ⟨w.heap.size, 1, none⟩ = some (.int .i64 b1) ∧ w'.cell? ⟨w.heap.size + 1, 0, none⟩ = some (.int .i64 d0) ∧ w'.cell? ⟨w.heap.size + 1, 1, none⟩ = some (.int .i64 d1) ∧ w'.cell? ⟨w.heap.size + 1 + 1, 0, none⟩ = some (cv w' ⟨w.heap.size + 1 + 1, 0, none⟩) ∧ w'.cell? ⟨w.heap.size + 1 + 1, 1, none⟩ = some (cv w' ⟨w.heap.size + 1 + 1, 1, none⟩) ∧ w'.frozen? ⟨w.heap.size + 1 + 1, 0, none⟩ = false ∧ w'.frozen? ⟨w.heap.size + 1 + 1, 1, none⟩ = false ∧ Below w.heap.size w w') (by refine ⟨?_, ?_, ?_, ?_, ?_, ?_, ?_, ?_, ?_⟩ <;> first | (with_reducible assumption) | (go_grown; done) | (go_cell; done) | go_size | ((repeat first | (with_reducible assumption) | (with_reducible refine szA ?_) | (with_reducible refine szS ?_) | (with_reducible refine szD ?_)); done) | ((repeat first | (with_reducible assumption) | (with_reducible refine cvA ?_) | (with_reducible refine cvS ?_) | (with_reducible refine cvD ?_)); done) | (refine cv_of (v := .int .i64 0) ?_; go_cell; done) | (go_simp; done) | go_keep) (fun wc hc => ?_)
  obtain ⟨x0, x1, x2, x3, r0, r1, z0, z1, hB⟩ := hc
  have t0 : IntKind.i64.wrap (b0 - d1) = b0 - d1 := IntWalk.i64_in _ (by omega)
  have p0 : IntKind.i64.wrap (1000000 * (b0 - d1)) = 1000000 * (b0 - d1) := IntWalk.i64_in _ (by omega)
  have t1 : IntKind.i64.wrap (b1 - d0) = b1 - d0 := IntWalk.i64_in _ (by omega)
  have p1 : IntKind.i64.wrap (1000000 * (b1 - d0)) = 1000000 * (b1 - d0) := IntWalk.i64_in _ (by omega)
  have o0 : IntKind.i64.wrap (b0 * days) = b0 * days := IntWalk.i64_in _ (by omega)
  have o1 : IntKind.i64.wrap (b1 * days) = b1 * days := IntWalk.i64_in _ (by omega)
  refine region0 25 0 (by kernel_rfl) (by kernel_rfl) (by kernel_rfl) (by kernel_rfl) (by kernel_rfl) (by decide) ?_
  intro R hR
  simp only [List.take_succ_cons, List.take_zero]
  iterate 25 (refine head0_val ?_ (fun w' hw' => ?_) ?_; rotate_left; (focus (have y0 := keepC hw' x0; have y1 := keepC hw' x1; have y2 := keepC hw' x2; have y3 := keepC hw' x3; first | (refine onlyMakes_val ?_; first | (go_simp; done) | (go_simp; with_reducible rfl)) | (apply onlyMakes_call; (first | (go_simp; done) | (go_simp; exact ⟨rfl, rfl⟩) | (go_simp; with_reducible rfl)); first | (with_reducible exact K1.out _) | (with_reducible exact K2.out _)))); (try dsimp only); (try simp only [Act.put, List.setIfInBounds_toArray, List.set_cons_zero, List.set_cons_succ]))
  refine head0_nil (hR.out _ ?_)
  refine AnyZ.last 25 (by kernel_rfl) (by decide) (fun w2 hw2 => ?_)
  refine wpAny_one 25 (by kernel_rfl) rfl rfl ?_
  have R0 := keepV hw2 r0
  have R1 := keepV hw2 r1
  have Z0 := keepF hw2 r0 z0
  have Z1 := keepF hw2 r1 z1
  have hB2 := belowSeq hw2 hB
  clear hw2 hR hB x0 x1 x2 x3 r0 r1 z0 z1
  (try simp only [List.getElem_toArray, List.getElem_cons_succ, List.getElem_cons_zero])
  (try simp only [Act.put, List.setIfInBounds_toArray, List.set_cons_succ, List.set_cons_zero])
  unfold Oper.wp
  go_simp
  refine wpAny_done (by kernel_rfl) ?_
  go_wp2_with ((with_reducible refine bodyPost_ret (v := .agg #[.int .i64 lo, .int .i64 2000]) ?_ rfl ?_); (have rr0 : ∀ (x0 : Value) (x1 : Value), ((w2.setCell ⟨w.heap.size + 1 + 1, 0, none⟩ x0).setCell ⟨w.heap.size + 1 + 1, 1, none⟩ x1).cell? ⟨w.heap.size + 1 + 1, 0, none⟩ = some x0 := fun x0 x1 => (set2 R0 R1 x0 x1).1; have rr1 : ∀ (x0 : Value) (x1 : Value), ((w2.setCell ⟨w.heap.size + 1 + 1, 0, none⟩ x0).setCell ⟨w.heap.size + 1 + 1, 1, none⟩ x1).cell? ⟨w.heap.size + 1 + 1, 1, none⟩ = some x1 := fun x0 x1 => (set2 R0 R1 x0 x1).2; simp [results, Try.results100, go_sem, rr0, rr1]); exact ⟨rfl, by go_grown⟩)
set_option maxRecDepth 100000 in
set_option maxHeartbeats 4000000 in
theorem refRate_c (b0 b1 d0 d1 days lo hi : Int) (w : World) (B00 : 0 < b0) (B01 : b0 ≤ 1000000000) (B10 : 0 < b1) (B11 : b1 ≤ 1000000000) (D00 : 0 ≤ d0) (D01 : d0 ≤ 1000000000) (D10 : 0 ≤ d1) (D11 : d1 ≤ 1000000000) (Y0 : 0 < days) (Y1 : days ≤ 365) (he : lo ≤ 0) (hf : hi < 2000)
    (k1 : ∀ w : World, Calls Try.prog 68 #[.int .i64 (1000000 * (b0 - d1)), .int .i64 (b0 * days)] w fun x w' => x = .returned (.int .i64 lo) ∧ Below w.heap.size w w')
    (k2 : ∀ w : World, Calls Try.prog 69 #[.int .i64 (1000000 * (b1 - d0)), .int .i64 (b1 * days)] w fun x w' => x = .returned (.int .i64 hi) ∧ Below w.heap.size w w') :
    Calls Try.prog 100 #[.agg #[.int .i64 b0, .int .i64 b1], .agg #[.int .i64 d0, .int .i64 d1], .int .i64 days] w fun e w' => e = .returned (.agg #[.int .i64 0, .int .i64 hi]) ∧ Below w.heap.size w w' := by
  obtain ⟨m0, m1⟩ := mul_bd b0 days 1000000000 365 (by omega) B01 (by omega) Y1
  obtain ⟨m2, m3⟩ := mul_bd b1 days 1000000000 365 (by omega) B11 (by omega) Y1
  have K1 := Lib.hid k1
  have K2 := Lib.hid k2
  clear k1 k2
  go_enter Try.func100, Try.ntmps100
  go_upto_region 1 with fail
  refine nameWorld (fun w' => w'.cell? ⟨w.heap.size, 0, none⟩ = some (.int .i64 b0) ∧ w'.cell? ⟨w.heap.size, 1, none⟩ = some (.int .i64 b1) ∧ w'.cell? ⟨w.heap.size + 1, 0, none⟩ = some (.int .i64 d0) ∧ w'.cell? ⟨w.heap.size + 1, 1, none⟩ = some (.int .i64 d1) ∧ w'.cell? ⟨w.heap.size + 1 + 1, 0, none⟩ = some (cv w' ⟨w.heap.size + 1 + 1, 0, none⟩) ∧ w'.cell? ⟨w.heap.size + 1 + 1, 1, none⟩ = some (cv w' ⟨w.heap.size + 1 + 1, 1, none⟩) ∧ w'.frozen? ⟨w.heap.size + 1 + 1, 0, none⟩ = false ∧ w'.frozen? ⟨w.heap.size + 1 + 1, 1, none⟩ = false ∧ Below w.heap.size w w') (by refine ⟨?_, ?_, ?_, ?_, ?_, ?_, ?_, ?_, ?_⟩ <;> first | (with_reducible assumption) | (go_grown; done) | (go_cell; done) | go_size | ((repeat first | (with_reducible assumption) | (with_reducible refine szA ?_) | (with_reducible refine szS ?_) | (with_reducible refine szD ?_)); done) | ((repeat first | (with_reducible assumption) | (with_reducible refine cvA ?_) | (with_reducible refine cvS ?_) | (with_reducible refine cvD ?_)); done) | (refine cv_of (v := .int .i64 0) ?_; go_cell; done) | (go_simp; done) | go_keep) (fun wc hc => ?_)
  obtain ⟨x0, x1, x2, x3, r0, r1, z0, z1, hB⟩ := hc
  have t0 : IntKind.i64.wrap (b0 - d1) = b0 - d1 := IntWalk.i64_in _ (by omega)
  have p0 : IntKind.i64.wrap (1000000 * (b0 - d1)) = 1000000 * (b0 - d1) := IntWalk.i64_in _ (by omega)
  have t1 : IntKind.i64.wrap (b1 - d0) = b1 - d0 := IntWalk.i64_in _ (by omega)
  have p1 : IntKind.i64.wrap (1000000 * (b1 - d0)) = 1000000 * (b1 - d0) := IntWalk.i64_in _ (by omega)
  have o0 : IntKind.i64.wrap (b0 * days) = b0 * days := IntWalk.i64_in _ (by omega)
  have o1 : IntKind.i64.wrap (b1 * days) = b1 * days := IntWalk.i64_in _ (by omega)
  refine region0 25 0 (by kernel_rfl) (by kernel_rfl) (by kernel_rfl) (by kernel_rfl) (by kernel_rfl) (by decide) ?_
  intro R hR
  simp only [List.take_succ_cons, List.take_zero]
  iterate 25 (refine head0_val ?_ (fun w' hw' => ?_) ?_; rotate_left; (focus (have y0 := keepC hw' x0; have y1 := keepC hw' x1; have y2 := keepC hw' x2; have y3 := keepC hw' x3; first | (refine onlyMakes_val ?_; first | (go_simp; done) | (go_simp; with_reducible rfl)) | (apply onlyMakes_call; (first | (go_simp; done) | (go_simp; exact ⟨rfl, rfl⟩) | (go_simp; with_reducible rfl)); first | (with_reducible exact K1.out _) | (with_reducible exact K2.out _)))); (try dsimp only); (try simp only [Act.put, List.setIfInBounds_toArray, List.set_cons_zero, List.set_cons_succ]))
  refine head0_nil (hR.out _ ?_)
  refine AnyZ.last 25 (by kernel_rfl) (by decide) (fun w2 hw2 => ?_)
  refine wpAny_one 25 (by kernel_rfl) rfl rfl ?_
  have R0 := keepV hw2 r0
  have R1 := keepV hw2 r1
  have Z0 := keepF hw2 r0 z0
  have Z1 := keepF hw2 r1 z1
  have hB2 := belowSeq hw2 hB
  clear hw2 hR hB x0 x1 x2 x3 r0 r1 z0 z1
  (try simp only [List.getElem_toArray, List.getElem_cons_succ, List.getElem_cons_zero])
  (try simp only [Act.put, List.setIfInBounds_toArray, List.set_cons_succ, List.set_cons_zero])
  unfold Oper.wp
  go_simp
  refine wpAny_done (by kernel_rfl) ?_
  go_wp2_with ((with_reducible refine bodyPost_ret (v := .agg #[.int .i64 0, .int .i64 hi]) ?_ rfl ?_); (have rr0 : ∀ (x0 : Value) (x1 : Value), ((w2.setCell ⟨w.heap.size + 1 + 1, 0, none⟩ x0).setCell ⟨w.heap.size + 1 + 1, 1, none⟩ x1).cell? ⟨w.heap.size + 1 + 1, 0, none⟩ = some x0 := fun x0 x1 => (set2 R0 R1 x0 x1).1; have rr1 : ∀ (x0 : Value) (x1 : Value), ((w2.setCell ⟨w.heap.size + 1 + 1, 0, none⟩ x0).setCell ⟨w.heap.size + 1 + 1, 1, none⟩ x1).cell? ⟨w.heap.size + 1 + 1, 1, none⟩ = some x1 := fun x0 x1 => (set2 R0 R1 x0 x1).2; simp [results, Try.results100, go_sem, rr0, rr1]); exact ⟨rfl, by go_grown⟩)
set_option maxRecDepth 100000 in
set_option maxHeartbeats 4000000 in
theorem refRate_d (b0 b1 d0 d1 days lo hi : Int) (w : World) (B00 : 0 < b0) (B01 : b0 ≤ 1000000000) (B10 : 0 < b1) (B11 : b1 ≤ 1000000000) (D00 : 0 ≤ d0) (D01 : d0 ≤ 1000000000) (D10 : 0 ≤ d1) (D11 : d1 ≤ 1000000000) (Y0 : 0 < days) (Y1 : days ≤ 365) (he : lo ≤ 0) (hf : 2000 ≤ hi)
    (k1 : ∀ w : World, Calls Try.prog 68 #[.int .i64 (1000000 * (b0 - d1)), .int .i64 (b0 * days)] w fun x w' => x = .returned (.int .i64 lo) ∧ Below w.heap.size w w')
    (k2 : ∀ w : World, Calls Try.prog 69 #[.int .i64 (1000000 * (b1 - d0)), .int .i64 (b1 * days)] w fun x w' => x = .returned (.int .i64 hi) ∧ Below w.heap.size w w') :
    Calls Try.prog 100 #[.agg #[.int .i64 b0, .int .i64 b1], .agg #[.int .i64 d0, .int .i64 d1], .int .i64 days] w fun e w' => e = .returned (.agg #[.int .i64 0, .int .i64 2000]) ∧ Below w.heap.size w w' := by
  obtain ⟨m0, m1⟩ := mul_bd b0 days 1000000000 365 (by omega) B01 (by omega) Y1
  obtain ⟨m2, m3⟩ := mul_bd b1 days 1000000000 365 (by omega) B11 (by omega) Y1
  have K1 := Lib.hid k1
  have K2 := Lib.hid k2
  clear k1 k2
  go_enter Try.func100, Try.ntmps100
  go_upto_region 1 with fail
  refine nameWorld (fun w' => w'.cell? ⟨w.heap.size, 0, none⟩ = some (.int .i64 b0) ∧ w'.cell? ⟨w.heap.size, 1, none⟩ = some (.int .i64 b1) ∧ w'.cell? ⟨w.heap.size + 1, 0, none⟩ = some (.int .i64 d0) ∧ w'.cell? ⟨w.heap.size + 1, 1, none⟩ = some (.int .i64 d1) ∧ w'.cell? ⟨w.heap.size + 1 + 1, 0, none⟩ = some (cv w' ⟨w.heap.size + 1 + 1, 0, none⟩) ∧ w'.cell? ⟨w.heap.size + 1 + 1, 1, none⟩ = some (cv w' ⟨w.heap.size + 1 + 1, 1, none⟩) ∧ w'.frozen? ⟨w.heap.size + 1 + 1, 0, none⟩ = false ∧ w'.frozen? ⟨w.heap.size + 1 + 1, 1, none⟩ = false ∧ Below w.heap.size w w') (by refine ⟨?_, ?_, ?_, ?_, ?_, ?_, ?_, ?_, ?_⟩ <;> first | (with_reducible assumption) | (go_grown; done) | (go_cell; done) | go_size | ((repeat first | (with_reducible assumption) | (with_reducible refine szA ?_) | (with_reducible refine szS ?_) | (with_reducible refine szD ?_)); done) | ((repeat first | (with_reducible assumption) | (with_reducible refine cvA ?_) | (with_reducible refine cvS ?_) | (with_reducible refine cvD ?_)); done) | (refine cv_of (v := .int .i64 0) ?_; go_cell; done) | (go_simp; done) | go_keep) (fun wc hc => ?_)
  obtain ⟨x0, x1, x2, x3, r0, r1, z0, z1, hB⟩ := hc
  have t0 : IntKind.i64.wrap (b0 - d1) = b0 - d1 := IntWalk.i64_in _ (by omega)
  have p0 : IntKind.i64.wrap (1000000 * (b0 - d1)) = 1000000 * (b0 - d1) := IntWalk.i64_in _ (by omega)
  have t1 : IntKind.i64.wrap (b1 - d0) = b1 - d0 := IntWalk.i64_in _ (by omega)
  have p1 : IntKind.i64.wrap (1000000 * (b1 - d0)) = 1000000 * (b1 - d0) := IntWalk.i64_in _ (by omega)
  have o0 : IntKind.i64.wrap (b0 * days) = b0 * days := IntWalk.i64_in _ (by omega)
  have o1 : IntKind.i64.wrap (b1 * days) = b1 * days := IntWalk.i64_in _ (by omega)
  refine region0 25 0 (by kernel_rfl) (by kernel_rfl) (by kernel_rfl) (by kernel_rfl) (by kernel_rfl) (by decide) ?_
  intro R hR
  simp only [List.take_succ_cons, List.take_zero]
  iterate 25 (refine head0_val ?_ (fun w' hw' => ?_) ?_; rotate_left; (focus (have y0 := keepC hw' x0; have y1 := keepC hw' x1; have y2 := keepC hw' x2; have y3 := keepC hw' x3; first | (refine onlyMakes_val ?_; first | (go_simp; done) | (go_simp; with_reducible rfl)) | (apply onlyMakes_call; (first | (go_simp; done) | (go_simp; exact ⟨rfl, rfl⟩) | (go_simp; with_reducible rfl)); first | (with_reducible exact K1.out _) | (with_reducible exact K2.out _)))); (try dsimp only); (try simp only [Act.put, List.setIfInBounds_toArray, List.set_cons_zero, List.set_cons_succ]))
  refine head0_nil (hR.out _ ?_)
  refine AnyZ.last 25 (by kernel_rfl) (by decide) (fun w2 hw2 => ?_)
  refine wpAny_one 25 (by kernel_rfl) rfl rfl ?_
  have R0 := keepV hw2 r0
  have R1 := keepV hw2 r1
  have Z0 := keepF hw2 r0 z0
  have Z1 := keepF hw2 r1 z1
  have hB2 := belowSeq hw2 hB
  clear hw2 hR hB x0 x1 x2 x3 r0 r1 z0 z1
  (try simp only [List.getElem_toArray, List.getElem_cons_succ, List.getElem_cons_zero])
  (try simp only [Act.put, List.setIfInBounds_toArray, List.set_cons_succ, List.set_cons_zero])
  unfold Oper.wp
  go_simp
  refine wpAny_done (by kernel_rfl) ?_
  go_wp2_with ((with_reducible refine bodyPost_ret (v := .agg #[.int .i64 0, .int .i64 2000]) ?_ rfl ?_); (have rr0 : ∀ (x0 : Value) (x1 : Value), ((w2.setCell ⟨w.heap.size + 1 + 1, 0, none⟩ x0).setCell ⟨w.heap.size + 1 + 1, 1, none⟩ x1).cell? ⟨w.heap.size + 1 + 1, 0, none⟩ = some x0 := fun x0 x1 => (set2 R0 R1 x0 x1).1; have rr1 : ∀ (x0 : Value) (x1 : Value), ((w2.setCell ⟨w.heap.size + 1 + 1, 0, none⟩ x0).setCell ⟨w.heap.size + 1 + 1, 1, none⟩ x1).cell? ⟨w.heap.size + 1 + 1, 1, none⟩ = some x1 := fun x0 x1 => (set2 R0 R1 x0 x1).2; simp [results, Try.results100, go_sem, rr0, rr1]); exact ⟨rfl, by go_grown⟩)
theorem refRate_any (b0 b1 d0 d1 days : Int) (w : World) (B00 : 0 < b0) (B01 : b0 ≤ 1000000000) (B10 : 0 < b1) (B11 : b1 ≤ 1000000000) (D00 : 0 ≤ d0) (D01 : d0 ≤ 1000000000) (D10 : 0 ≤ d1) (D11 : d1 ≤ 1000000000) (Y0 : 0 < days) (Y1 : days ≤ 365) :
    Calls Try.prog 100 #[.agg #[.int .i64 b0, .int .i64 b1], .agg #[.int .i64 d0, .int .i64 d1], .int .i64 days] w fun e w' => e = .returned (.agg #[.int .i64 (mx (fl (1000000 * (b0 - d1)) (b0 * days)) 0), .int .i64 (mn (ce (1000000 * (b1 - d0)) (b1 * days)) 2000)]) ∧ Below w.heap.size w w' := by
  obtain ⟨m0, m1⟩ := mul_bd b0 days 1000000000 365 (by omega) B01 (by omega) Y1
  obtain ⟨m2, m3⟩ := mul_bd b1 days 1000000000 365 (by omega) B11 (by omega) Y1
  have n0 : 0 < b0 * days := Int.mul_pos B00 Y0
  have n1 : 0 < b1 * days := Int.mul_pos B10 Y0
  have k1 := fun w => still_call (fl_any (1000000 * (b0 - d1)) (b0 * days) w (by omega) (by omega) n0 (by omega))
  have k2 := fun w => still_call (ce_any (1000000 * (b1 - d0)) (b1 * days) w (by omega) (by omega) n1 (by omega))
  generalize fl (1000000 * (b0 - d1)) (b0 * days) = lo at k1 ⊢
  generalize ce (1000000 * (b1 - d0)) (b1 * days) = hi at k2 ⊢
  by_cases he : 0 < lo <;> by_cases hf : hi < 2000
  · have e1 : mx lo 0 = lo := by unfold mx; split <;> omega
    have e2 : mn hi 2000 = hi := by unfold mn; split <;> omega
    rw [e1, e2]
    exact refRate_a b0 b1 d0 d1 days lo hi w B00 B01 B10 B11 D00 D01 D10 D11 Y0 Y1 (by omega) (by omega) k1 k2
  · have e1 : mx lo 0 = lo := by unfold mx; split <;> omega
    have e2 : mn hi 2000 = 2000 := by unfold mn; split <;> omega
    rw [e1, e2]
    exact refRate_b b0 b1 d0 d1 days lo hi w B00 B01 B10 B11 D00 D01 D10 D11 Y0 Y1 (by omega) (by omega) k1 k2
  · have e1 : mx lo 0 = 0 := by unfold mx; split <;> omega
    have e2 : mn hi 2000 = hi := by unfold mn; split <;> omega
    rw [e1, e2]
    exact refRate_c b0 b1 d0 d1 days lo hi w B00 B01 B10 B11 D00 D01 D10 D11 Y0 Y1 (by omega) (by omega) k1 k2
  · have e1 : mx lo 0 = 0 := by unfold mx; split <;> omega
    have e2 : mn hi 2000 = 2000 := by unfold mn; split <;> omega
    rw [e1, e2]
    exact refRate_d b0 b1 d0 d1 days lo hi w B00 B01 B10 B11 D00 D01 D10 D11 Y0 Y1 (by omega) (by omega) k1 k2
end Go.Proofs.Ytcpkoapkmjcigaa
