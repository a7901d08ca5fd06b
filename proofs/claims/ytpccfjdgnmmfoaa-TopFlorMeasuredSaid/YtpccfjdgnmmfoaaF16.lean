/- flor's own rateOf. -/
import Derived.Test.YtpccfjdgnmmfoaaF9
import Derived.Test.YtpccfjdgnmmfoaaF11
import Derived.Test.YtpccfjdgnmmfoaaQQ
namespace Go.Proofs.Ytpccfjdgnmmfoaa
open Go.RowKit

set_option maxHeartbeats 1000000 in
theorem leastAlcohol_any (v0 v1 s0 s1 c0 c1 : Int) (w : World) (v00 : 0 ≤ v0) (v01 : v0 ≤ 100000) (v10 : 0 ≤ v1) (v11 : v1 ≤ 100000) (s00 : 0 ≤ s0) (s01 : s0 ≤ 10000) (s10 : 0 ≤ s1) (s11 : s1 ≤ 10000) :
    Calls Try.prog 77 #[.agg #[.int .i64 v0, .int .i64 v1, .int .i64 s0, .int .i64 s1, .int .i64 c0, .int .i64 c1]] w fun e w' => e = .returned (.int .i64 (v0 * s0)) ∧ Below w.heap.size w w' := by
  obtain ⟨p0, p1⟩ := mul_bd v0 s0 100000 10000 v00 v01 s00 s01
  obtain ⟨p2, p3⟩ := mul_bd v1 s1 100000 10000 v10 v11 s10 s11
  go_enter Try.func77, Try.ntmps77
  go_wp2
  go_ret
  exact ⟨rfl, by go_grown⟩
set_option maxHeartbeats 1000000 in
theorem mostAlcohol_any (v0 v1 s0 s1 c0 c1 : Int) (w : World) (v00 : 0 ≤ v0) (v01 : v0 ≤ 100000) (v10 : 0 ≤ v1) (v11 : v1 ≤ 100000) (s00 : 0 ≤ s0) (s01 : s0 ≤ 10000) (s10 : 0 ≤ s1) (s11 : s1 ≤ 10000) :
    Calls Try.prog 78 #[.agg #[.int .i64 v0, .int .i64 v1, .int .i64 s0, .int .i64 s1, .int .i64 c0, .int .i64 c1]] w fun e w' => e = .returned (.int .i64 (v1 * s1)) ∧ Below w.heap.size w w' := by
  obtain ⟨p0, p1⟩ := mul_bd v0 s0 100000 10000 v00 v01 s00 s01
  obtain ⟨p2, p3⟩ := mul_bd v1 s1 100000 10000 v10 v11 s10 s11
  go_enter Try.func78, Try.ntmps78
  go_wp2
  go_ret
  exact ⟨rfl, by go_grown⟩
set_option maxRecDepth 100000 in
set_option maxHeartbeats 8000000 in
theorem rateWine (v0 v1 s0 s1 c0 c1 u0 u1 r0 r1 q0 q1 days b0 b1 d0 d1 : Int) (w : World) (B00 : 0 < b0) (B01 : b0 ≤ 1000000000) (B10 : 0 < b1) (B11 : b1 ≤ 1000000000) (D00 : 0 ≤ d0) (D01 : d0 ≤ 1000000000) (D10 : 0 ≤ d1) (D11 : d1 ≤ 1000000000) (Y0 : 0 < days) (Y1 : days ≤ 365)
    (k1 : ∀ w : World, Calls Try.prog 60 #[.agg #[.int .i64 v0, .int .i64 v1, .int .i64 s0, .int .i64 s1, .int .i64 c0, .int .i64 c1]] w fun e w' => e = .returned (.int .i64 b0) ∧ Below w.heap.size w w') (k2 : ∀ w : World, Calls Try.prog 61 #[.agg #[.int .i64 u0, .int .i64 u1, .int .i64 r0, .int .i64 r1, .int .i64 q0, .int .i64 q1]] w fun e w' => e = .returned (.int .i64 d1) ∧ Below w.heap.size w w')
    (k3 : ∀ w : World, Calls Try.prog 61 #[.agg #[.int .i64 v0, .int .i64 v1, .int .i64 s0, .int .i64 s1, .int .i64 c0, .int .i64 c1]] w fun e w' => e = .returned (.int .i64 b1) ∧ Below w.heap.size w w') (k4 : ∀ w : World, Calls Try.prog 60 #[.agg #[.int .i64 u0, .int .i64 u1, .int .i64 r0, .int .i64 r1, .int .i64 q0, .int .i64 q1]] w fun e w' => e = .returned (.int .i64 d0) ∧ Below w.heap.size w w') :
    Calls Try.prog 76 #[.agg #[.int .i64 v0, .int .i64 v1, .int .i64 s0, .int .i64 s1, .int .i64 c0, .int .i64 c1], .agg #[.int .i64 u0, .int .i64 u1, .int .i64 r0, .int .i64 r1, .int .i64 q0, .int .i64 q1], .int .i64 days, .func (.func 60) #[] #[], .func (.func 61) #[] #[]] w fun e w' => e = .returned (.agg #[.int .i64 (mx (fl (1000000 * (b0 - d1)) (b0 * days)) 0), .int .i64 (mn (ce (1000000 * (b1 - d0)) (b1 * days)) 2000)]) ∧ Below w.heap.size w w' := by
  obtain ⟨m0, m1⟩ := mul_bd b0 days 1000000000 365 (by omega) B01 (by omega) Y1
  obtain ⟨m2, m3⟩ := mul_bd b1 days 1000000000 365 (by omega) B11 (by omega) Y1
  have n0 : 0 < b0 * days := Int.mul_pos B00 Y0
  have n1 : 0 < b1 * days := Int.mul_pos B10 Y0
  have L0 := Lib.hid (fun w => still_call (ffl_any (1000000 * (b0 - d1)) (b0 * days) w (by omega) (by omega) n0 (by omega)))
  have L1 := Lib.hid (fun w => still_call (fce_any (1000000 * (b1 - d0)) (b1 * days) w (by omega) (by omega) n1 (by omega)))
  have K1 := Lib.hid k1
  have K2 := Lib.hid k2
  have K3 := Lib.hid k3
  have K4 := Lib.hid k4
  clear k1 k2 k3 k4
  go_enter Try.func76, Try.ntmps76
  go_upto_region 1 with fail
  refine nameWorld (fun w' => w'.cell? ⟨w.heap.size, 0, none⟩ = some (.int .i64 v0) ∧ w'.cell? ⟨w.heap.size, 1, none⟩ = some (.int .i64 v1) ∧ w'.cell? ⟨w.heap.size, 2, none⟩ = some (.int .i64 s0) ∧ w'.cell? ⟨w.heap.size, 3, none⟩ = some (.int .i64 s1) ∧ w'.cell? ⟨w.heap.size, 4, none⟩ = some (.int .i64 c0) ∧ w'.cell? ⟨w.heap.size, 5, none⟩ = some (.int .i64 c1) ∧ w'.cell? ⟨w.heap.size + 1, 0, none⟩ = some (.int .i64 u0) ∧ w'.cell? ⟨w.heap.size + 1, 1, none⟩ = some (.int .i64 u1) ∧ w'.cell? ⟨w.heap.size + 1, 2, none⟩ = some (.int .i64 r0) ∧ w'.cell? ⟨w.heap.size + 1, 3, none⟩ = some (.int .i64 r1) ∧ w'.cell? ⟨w.heap.size + 1, 4, none⟩ = some (.int .i64 q0) ∧ w'.cell? ⟨w.heap.size + 1, 5, none⟩ = some (.int .i64 q1) ∧ w'.cell? ⟨w.heap.size + 1 + 1, 0, none⟩ = some (cv w' ⟨w.heap.size + 1 + 1, 0, none⟩) ∧ w'.cell? ⟨w.heap.size + 1 + 1, 1, none⟩ = some (cv w' ⟨w.heap.size + 1 + 1, 1, none⟩) ∧ w'.frozen? ⟨w.heap.size + 1 + 1, 0, none⟩ = false ∧ w'.frozen? ⟨w.heap.size + 1 + 1, 1, none⟩ = false ∧ Below w.heap.size w w') (by refine ⟨?_, ?_, ?_, ?_, ?_, ?_, ?_, ?_, ?_, ?_, ?_, ?_, ?_, ?_, ?_, ?_, ?_⟩ <;> first | (with_reducible assumption) | (go_grown; done) | (go_cell; done) | go_size | ((repeat first | (with_reducible assumption) | (with_reducible refine szA ?_) | (with_reducible refine szS ?_) | (with_reducible refine szD ?_)); done) | ((repeat first | (with_reducible assumption) | (with_reducible refine cvA ?_) | (with_reducible refine cvS ?_) | (with_reducible refine cvD ?_)); done) | (refine cv_of (v := .int .i64 0) ?_; go_cell; done) | (go_simp; done) | go_keep) (fun wc hc => ?_)
  obtain ⟨x0, x1, x2, x3, x4, x5, x6, x7, x8, x9, x10, x11, r0, r1, z0, z1, hB⟩ := hc
  have t0 : IntKind.i64.wrap (b0 - d1) = b0 - d1 := IntWalk.i64_in _ (by omega)
  have p0 : IntKind.i64.wrap (1000000 * (b0 - d1)) = 1000000 * (b0 - d1) := IntWalk.i64_in _ (by omega)
  have t1 : IntKind.i64.wrap (b1 - d0) = b1 - d0 := IntWalk.i64_in _ (by omega)
  have p1 : IntKind.i64.wrap (1000000 * (b1 - d0)) = 1000000 * (b1 - d0) := IntWalk.i64_in _ (by omega)
  have o0 : IntKind.i64.wrap (b0 * days) = b0 * days := IntWalk.i64_in _ (by omega)
  have o1 : IntKind.i64.wrap (b1 * days) = b1 * days := IntWalk.i64_in _ (by omega)
  refine region0 29 1 (by kernel_rfl) (by kernel_rfl) (by kernel_rfl) (by kernel_rfl) (by kernel_rfl) (by decide) ?_
  intro R hR
  simp only [List.take_succ_cons, List.take_zero]
  iterate 29 (refine head0_val ?_ (fun w' hw' => ?_) ?_; rotate_left; (focus (have y0 := keepC hw' x0; have y1 := keepC hw' x1; have y2 := keepC hw' x2; have y3 := keepC hw' x3; have y4 := keepC hw' x4; have y5 := keepC hw' x5; have y6 := keepC hw' x6; have y7 := keepC hw' x7; have y8 := keepC hw' x8; have y9 := keepC hw' x9; have y10 := keepC hw' x10; have y11 := keepC hw' x11; first | (refine onlyMakes_val ?_; first | (go_simp; done) | (go_simp; with_reducible rfl)) | (apply onlyMakes_call; (first | (go_simp; done) | (go_simp; exact ⟨rfl, rfl⟩) | (go_simp; with_reducible rfl)); first | (with_reducible exact K1.out _) | (with_reducible exact K2.out _) | (with_reducible exact K3.out _) | (with_reducible exact K4.out _) | (with_reducible exact L0.out _) | (with_reducible exact L1.out _)))); (try dsimp only); (try simp only [Act.put, List.setIfInBounds_toArray, List.set_cons_zero, List.set_cons_succ]))
  refine head0_nil (hR.out _ ?_)
  refine AnyZ.one_alloc 29 (obj := .cells #[.int .i64 0, .int .i64 0] 25) (by kernel_rfl) rfl rfl ⟨rfl, fun w' hw' => ?_⟩ (fun w1 hw1 => ?_)
  · first | (go_simp; done) | (go_simp; with_reducible rfl) | (go_simp; exact ⟨rfl, rfl⟩)
  refine AnyZ.last 30 (by kernel_rfl) (by decide) (fun w2 hw2 => ?_)
  refine wpAny_one 30 (by kernel_rfl) rfl rfl ?_
  have n0 := (newHeld hw2 0 _ rfl)
  have n1 := (newHeld hw2 1 _ rfl)
  have hX : Below wc.heap.size wc w2 := belowSq (hw1.alloc hw1.size _) hw2
  have R0 := keepV hX r0
  have R1 := keepV hX r1
  have Z0 := keepF hX r0 z0
  have Z1 := keepF hX r1 z1
  have hB2 := belowSeq hX hB
  have hz : w.heap.size + 1 + 1 < w1.heap.size := keepZ hw1 (World.block_lt_of_cell? wc _ r0)
  obtain ⟨n0, f0⟩ := n0
  obtain ⟨n1, f1⟩ := n1
  clear hX hR x0 x1 x2 x3 x4 x5 x6 x7 x8 x9 x10 x11 r0 r1 z0 z1 hB
  (try simp only [List.getElem_toArray, List.getElem_cons_succ, List.getElem_cons_zero])
  (try simp only [Act.put, List.setIfInBounds_toArray, List.set_cons_succ, List.set_cons_zero])
  unfold Oper.wp
  go_simp
  refine wpAny_done (by kernel_rfl) ?_
  go_wp2_with (first | (go_at_call 88; refine (florCommon_any _ _ _ _ _).mono ?_; rintro e w3 ⟨rfl, hb3⟩; have Q0 := keepV hb3 (cvS (cvS R0)); have Q1 := keepV hb3 (cvS (cvS R1)); have Y0 := keepF hb3 (cvS (cvS R0)) (by rw [World.frozen?_setCell, World.frozen?_setCell]; exact Z0); have Y1 := keepF hb3 (cvS (cvS R1)) (by rw [World.frozen?_setCell, World.frozen?_setCell]; exact Z1); have hB3 := belowSeq hb3 ((hB2.setCell (by show w.heap.size ≤ w1.heap.size; omega) _).setCell (by show w.heap.size ≤ w1.heap.size; omega) _)) | ((with_reducible refine bodyPost_ret (v := .agg #[.int .i64 (mx (fl (1000000 * (b0 - d1)) (b0 * days)) 0), .int .i64 (mn (ce (1000000 * (b1 - d0)) (b1 * days)) 2000)]) ?_ rfl ?_); (have rr0 : ∀ (x0 : Value) (x1 : Value), ((w3.setCell ⟨w.heap.size + 1 + 1, 0, none⟩ x0).setCell ⟨w.heap.size + 1 + 1, 1, none⟩ x1).cell? ⟨w.heap.size + 1 + 1, 0, none⟩ = some x0 := fun x0 x1 => (set2 Q0 Q1 x0 x1).1; have rr1 : ∀ (x0 : Value) (x1 : Value), ((w3.setCell ⟨w.heap.size + 1 + 1, 0, none⟩ x0).setCell ⟨w.heap.size + 1 + 1, 1, none⟩ x1).cell? ⟨w.heap.size + 1 + 1, 1, none⟩ = some x1 := fun x0 x1 => (set2 Q0 Q1 x0 x1).2; simp [results, Try.results76, go_sem, rr0, rr1]); exact ⟨rfl, by go_grown⟩))
set_option maxRecDepth 100000 in
set_option maxHeartbeats 8000000 in
theorem rateAlc (v0 v1 s0 s1 c0 c1 u0 u1 r0 r1 q0 q1 days b0 b1 d0 d1 : Int) (w : World) (B00 : 0 < b0) (B01 : b0 ≤ 1000000000) (B10 : 0 < b1) (B11 : b1 ≤ 1000000000) (D00 : 0 ≤ d0) (D01 : d0 ≤ 1000000000) (D10 : 0 ≤ d1) (D11 : d1 ≤ 1000000000) (Y0 : 0 < days) (Y1 : days ≤ 365)
    (k1 : ∀ w : World, Calls Try.prog 77 #[.agg #[.int .i64 v0, .int .i64 v1, .int .i64 s0, .int .i64 s1, .int .i64 c0, .int .i64 c1]] w fun e w' => e = .returned (.int .i64 b0) ∧ Below w.heap.size w w') (k2 : ∀ w : World, Calls Try.prog 78 #[.agg #[.int .i64 u0, .int .i64 u1, .int .i64 r0, .int .i64 r1, .int .i64 q0, .int .i64 q1]] w fun e w' => e = .returned (.int .i64 d1) ∧ Below w.heap.size w w')
    (k3 : ∀ w : World, Calls Try.prog 78 #[.agg #[.int .i64 v0, .int .i64 v1, .int .i64 s0, .int .i64 s1, .int .i64 c0, .int .i64 c1]] w fun e w' => e = .returned (.int .i64 b1) ∧ Below w.heap.size w w') (k4 : ∀ w : World, Calls Try.prog 77 #[.agg #[.int .i64 u0, .int .i64 u1, .int .i64 r0, .int .i64 r1, .int .i64 q0, .int .i64 q1]] w fun e w' => e = .returned (.int .i64 d0) ∧ Below w.heap.size w w') :
    Calls Try.prog 76 #[.agg #[.int .i64 v0, .int .i64 v1, .int .i64 s0, .int .i64 s1, .int .i64 c0, .int .i64 c1], .agg #[.int .i64 u0, .int .i64 u1, .int .i64 r0, .int .i64 r1, .int .i64 q0, .int .i64 q1], .int .i64 days, .func (.func 77) #[] #[], .func (.func 78) #[] #[]] w fun e w' => e = .returned (.agg #[.int .i64 (mx (fl (1000000 * (b0 - d1)) (b0 * days)) 0), .int .i64 (mn (ce (1000000 * (b1 - d0)) (b1 * days)) 2000)]) ∧ Below w.heap.size w w' := by
  obtain ⟨m0, m1⟩ := mul_bd b0 days 1000000000 365 (by omega) B01 (by omega) Y1
  obtain ⟨m2, m3⟩ := mul_bd b1 days 1000000000 365 (by omega) B11 (by omega) Y1
  have n0 : 0 < b0 * days := Int.mul_pos B00 Y0
  have n1 : 0 < b1 * days := Int.mul_pos B10 Y0
  have L0 := Lib.hid (fun w => still_call (ffl_any (1000000 * (b0 - d1)) (b0 * days) w (by omega) (by omega) n0 (by omega)))
  have L1 := Lib.hid (fun w => still_call (fce_any (1000000 * (b1 - d0)) (b1 * days) w (by omega) (by omega) n1 (by omega)))
  have K1 := Lib.hid k1
  have K2 := Lib.hid k2
  have K3 := Lib.hid k3
  have K4 := Lib.hid k4
  clear k1 k2 k3 k4
  go_enter Try.func76, Try.ntmps76
  go_upto_region 1 with fail
  refine nameWorld (fun w' => w'.cell? ⟨w.heap.size, 0, none⟩ = some (.int .i64 v0) ∧ w'.cell? ⟨w.heap.size, 1, none⟩ = some (.int .i64 v1) ∧ w'.cell? ⟨w.heap.size, 2, none⟩ = some (.int .i64 s0) ∧ w'.cell? ⟨w.heap.size, 3, none⟩ = some (.int .i64 s1) ∧ w'.cell? ⟨w.heap.size, 4, none⟩ = some (.int .i64 c0) ∧ w'.cell? ⟨w.heap.size, 5, none⟩ = some (.int .i64 c1) ∧ w'.cell? ⟨w.heap.size + 1, 0, none⟩ = some (.int .i64 u0) ∧ w'.cell? ⟨w.heap.size + 1, 1, none⟩ = some (.int .i64 u1) ∧ w'.cell? ⟨w.heap.size + 1, 2, none⟩ = some (.int .i64 r0) ∧ w'.cell? ⟨w.heap.size + 1, 3, none⟩ = some (.int .i64 r1) ∧ w'.cell? ⟨w.heap.size + 1, 4, none⟩ = some (.int .i64 q0) ∧ w'.cell? ⟨w.heap.size + 1, 5, none⟩ = some (.int .i64 q1) ∧ w'.cell? ⟨w.heap.size + 1 + 1, 0, none⟩ = some (cv w' ⟨w.heap.size + 1 + 1, 0, none⟩) ∧ w'.cell? ⟨w.heap.size + 1 + 1, 1, none⟩ = some (cv w' ⟨w.heap.size + 1 + 1, 1, none⟩) ∧ w'.frozen? ⟨w.heap.size + 1 + 1, 0, none⟩ = false ∧ w'.frozen? ⟨w.heap.size + 1 + 1, 1, none⟩ = false ∧ Below w.heap.size w w') (by refine ⟨?_, ?_, ?_, ?_, ?_, ?_, ?_, ?_, ?_, ?_, ?_, ?_, ?_, ?_, ?_, ?_, ?_⟩ <;> first | (with_reducible assumption) | (go_grown; done) | (go_cell; done) | go_size | ((repeat first | (with_reducible assumption) | (with_reducible refine szA ?_) | (with_reducible refine szS ?_) | (with_reducible refine szD ?_)); done) | ((repeat first | (with_reducible assumption) | (with_reducible refine cvA ?_) | (with_reducible refine cvS ?_) | (with_reducible refine cvD ?_)); done) | (refine cv_of (v := .int .i64 0) ?_; go_cell; done) | (go_simp; done) | go_keep) (fun wc hc => ?_)
  obtain ⟨x0, x1, x2, x3, x4, x5, x6, x7, x8, x9, x10, x11, r0, r1, z0, z1, hB⟩ := hc
  have t0 : IntKind.i64.wrap (b0 - d1) = b0 - d1 := IntWalk.i64_in _ (by omega)
  have p0 : IntKind.i64.wrap (1000000 * (b0 - d1)) = 1000000 * (b0 - d1) := IntWalk.i64_in _ (by omega)
  have t1 : IntKind.i64.wrap (b1 - d0) = b1 - d0 := IntWalk.i64_in _ (by omega)
  have p1 : IntKind.i64.wrap (1000000 * (b1 - d0)) = 1000000 * (b1 - d0) := IntWalk.i64_in _ (by omega)
  have o0 : IntKind.i64.wrap (b0 * days) = b0 * days := IntWalk.i64_in _ (by omega)
  have o1 : IntKind.i64.wrap (b1 * days) = b1 * days := IntWalk.i64_in _ (by omega)
  refine region0 29 1 (by kernel_rfl) (by kernel_rfl) (by kernel_rfl) (by kernel_rfl) (by kernel_rfl) (by decide) ?_
  intro R hR
  simp only [List.take_succ_cons, List.take_zero]
  iterate 29 (refine head0_val ?_ (fun w' hw' => ?_) ?_; rotate_left; (focus (have y0 := keepC hw' x0; have y1 := keepC hw' x1; have y2 := keepC hw' x2; have y3 := keepC hw' x3; have y4 := keepC hw' x4; have y5 := keepC hw' x5; have y6 := keepC hw' x6; have y7 := keepC hw' x7; have y8 := keepC hw' x8; have y9 := keepC hw' x9; have y10 := keepC hw' x10; have y11 := keepC hw' x11; first | (refine onlyMakes_val ?_; first | (go_simp; done) | (go_simp; with_reducible rfl)) | (apply onlyMakes_call; (first | (go_simp; done) | (go_simp; exact ⟨rfl, rfl⟩) | (go_simp; with_reducible rfl)); first | (with_reducible exact K1.out _) | (with_reducible exact K2.out _) | (with_reducible exact K3.out _) | (with_reducible exact K4.out _) | (with_reducible exact L0.out _) | (with_reducible exact L1.out _)))); (try dsimp only); (try simp only [Act.put, List.setIfInBounds_toArray, List.set_cons_zero, List.set_cons_succ]))
  refine head0_nil (hR.out _ ?_)
  refine AnyZ.one_alloc 29 (obj := .cells #[.int .i64 0, .int .i64 0] 25) (by kernel_rfl) rfl rfl ⟨rfl, fun w' hw' => ?_⟩ (fun w1 hw1 => ?_)
  · first | (go_simp; done) | (go_simp; with_reducible rfl) | (go_simp; exact ⟨rfl, rfl⟩)
  refine AnyZ.last 30 (by kernel_rfl) (by decide) (fun w2 hw2 => ?_)
  refine wpAny_one 30 (by kernel_rfl) rfl rfl ?_
  have n0 := (newHeld hw2 0 _ rfl)
  have n1 := (newHeld hw2 1 _ rfl)
  have hX : Below wc.heap.size wc w2 := belowSq (hw1.alloc hw1.size _) hw2
  have R0 := keepV hX r0
  have R1 := keepV hX r1
  have Z0 := keepF hX r0 z0
  have Z1 := keepF hX r1 z1
  have hB2 := belowSeq hX hB
  have hz : w.heap.size + 1 + 1 < w1.heap.size := keepZ hw1 (World.block_lt_of_cell? wc _ r0)
  obtain ⟨n0, f0⟩ := n0
  obtain ⟨n1, f1⟩ := n1
  clear hX hR x0 x1 x2 x3 x4 x5 x6 x7 x8 x9 x10 x11 r0 r1 z0 z1 hB
  (try simp only [List.getElem_toArray, List.getElem_cons_succ, List.getElem_cons_zero])
  (try simp only [Act.put, List.setIfInBounds_toArray, List.set_cons_succ, List.set_cons_zero])
  unfold Oper.wp
  go_simp
  refine wpAny_done (by kernel_rfl) ?_
  go_wp2_with (first | (go_at_call 88; refine (florCommon_any _ _ _ _ _).mono ?_; rintro e w3 ⟨rfl, hb3⟩; have Q0 := keepV hb3 (cvS (cvS R0)); have Q1 := keepV hb3 (cvS (cvS R1)); have Y0 := keepF hb3 (cvS (cvS R0)) (by rw [World.frozen?_setCell, World.frozen?_setCell]; exact Z0); have Y1 := keepF hb3 (cvS (cvS R1)) (by rw [World.frozen?_setCell, World.frozen?_setCell]; exact Z1); have hB3 := belowSeq hb3 ((hB2.setCell (by show w.heap.size ≤ w1.heap.size; omega) _).setCell (by show w.heap.size ≤ w1.heap.size; omega) _)) | ((with_reducible refine bodyPost_ret (v := .agg #[.int .i64 (mx (fl (1000000 * (b0 - d1)) (b0 * days)) 0), .int .i64 (mn (ce (1000000 * (b1 - d0)) (b1 * days)) 2000)]) ?_ rfl ?_); (have rr0 : ∀ (x0 : Value) (x1 : Value), ((w3.setCell ⟨w.heap.size + 1 + 1, 0, none⟩ x0).setCell ⟨w.heap.size + 1 + 1, 1, none⟩ x1).cell? ⟨w.heap.size + 1 + 1, 0, none⟩ = some x0 := fun x0 x1 => (set2 Q0 Q1 x0 x1).1; have rr1 : ∀ (x0 : Value) (x1 : Value), ((w3.setCell ⟨w.heap.size + 1 + 1, 0, none⟩ x0).setCell ⟨w.heap.size + 1 + 1, 1, none⟩ x1).cell? ⟨w.heap.size + 1 + 1, 1, none⟩ = some x1 := fun x0 x1 => (set2 Q0 Q1 x0 x1).2; simp [results, Try.results76, go_sem, rr0, rr1]); exact ⟨rfl, by go_grown⟩))
end Go.Proofs.Ytpccfjdgnmmfoaa
