/- flor's own scaled, strengthAfter, after. -/
import Derived.Test.YtbijhcoloajjaaaF3
import Derived.Test.YtbijhcoloajjaaaR4
namespace Go.Proofs.Ytbijhcoloajjaaa
open Go.RowKit

theorem keepS6_2 {w W w1 : World} {p0 p1 p2 p3 p4 p5 q0 q1 : Addr} {v0 v1 v2 v3 v4 v5 : Value} (hb : Below W.heap.size W w1) (h : W.cell? p0 = some v0 ∧ W.cell? p1 = some v1 ∧ W.cell? p2 = some v2 ∧ W.cell? p3 = some v3 ∧ W.cell? p4 = some v4 ∧ W.cell? p5 = some v5 ∧ W.cell? q0 = some (cv W q0) ∧ W.cell? q1 = some (cv W q1) ∧ W.frozen? q0 = false ∧ W.frozen? q1 = false ∧ Below w.heap.size w W) : w1.cell? p0 = some v0 ∧ w1.cell? p1 = some v1 ∧ w1.cell? p2 = some v2 ∧ w1.cell? p3 = some v3 ∧ w1.cell? p4 = some v4 ∧ w1.cell? p5 = some v5 ∧ w1.cell? q0 = some (cv w1 q0) ∧ w1.cell? q1 = some (cv w1 q1) ∧ w1.frozen? q0 = false ∧ w1.frozen? q1 = false ∧ Below w.heap.size w w1 := by
  obtain ⟨h0, h1, h2, h3, h4, h5, r0, r1, z0, z1, hB⟩ := h
  exact ⟨keepC hb h0, keepC hb h1, keepC hb h2, keepC hb h3, keepC hb h4, keepC hb h5, keepV hb r0, keepV hb r1, keepF hb r0 z0, keepF hb r1 z1, belowSeq hb hB⟩
theorem allocS6_2 {w W : World} {o : Obj} {p0 p1 p2 p3 p4 p5 q0 q1 : Addr} {v0 v1 v2 v3 v4 v5 : Value} (h : W.cell? p0 = some v0 ∧ W.cell? p1 = some v1 ∧ W.cell? p2 = some v2 ∧ W.cell? p3 = some v3 ∧ W.cell? p4 = some v4 ∧ W.cell? p5 = some v5 ∧ W.cell? q0 = some (cv W q0) ∧ W.cell? q1 = some (cv W q1) ∧ W.frozen? q0 = false ∧ W.frozen? q1 = false ∧ Below w.heap.size w W) : (W.alloc o).cell? p0 = some v0 ∧ (W.alloc o).cell? p1 = some v1 ∧ (W.alloc o).cell? p2 = some v2 ∧ (W.alloc o).cell? p3 = some v3 ∧ (W.alloc o).cell? p4 = some v4 ∧ (W.alloc o).cell? p5 = some v5 ∧ (W.alloc o).cell? q0 = some (cv (W.alloc o) q0) ∧ (W.alloc o).cell? q1 = some (cv (W.alloc o) q1) ∧ (W.alloc o).frozen? q0 = false ∧ (W.alloc o).frozen? q1 = false ∧ Below w.heap.size w (W.alloc o) := keepS6_2 ((Below.refl _ _).alloc (Nat.le_refl _) o) h
theorem drewS6_2 {w W : World} {p0 p1 p2 p3 p4 p5 q0 q1 : Addr} {v0 v1 v2 v3 v4 v5 : Value} (h : W.cell? p0 = some v0 ∧ W.cell? p1 = some v1 ∧ W.cell? p2 = some v2 ∧ W.cell? p3 = some v3 ∧ W.cell? p4 = some v4 ∧ W.cell? p5 = some v5 ∧ W.cell? q0 = some (cv W q0) ∧ W.cell? q1 = some (cv W q1) ∧ W.frozen? q0 = false ∧ W.frozen? q1 = false ∧ Below w.heap.size w W) : W.drew.cell? p0 = some v0 ∧ W.drew.cell? p1 = some v1 ∧ W.drew.cell? p2 = some v2 ∧ W.drew.cell? p3 = some v3 ∧ W.drew.cell? p4 = some v4 ∧ W.drew.cell? p5 = some v5 ∧ W.drew.cell? q0 = some (cv W.drew q0) ∧ W.drew.cell? q1 = some (cv W.drew q1) ∧ W.drew.frozen? q0 = false ∧ W.drew.frozen? q1 = false ∧ Below w.heap.size w W.drew := keepS6_2 ((Below.refl _ _).drew) h
theorem keepS8_2 {w W w1 : World} {p0 p1 p2 p3 p4 p5 p6 p7 q0 q1 : Addr} {v0 v1 v2 v3 v4 v5 v6 v7 : Value} (hb : Below W.heap.size W w1) (h : W.cell? p0 = some v0 ∧ W.cell? p1 = some v1 ∧ W.cell? p2 = some v2 ∧ W.cell? p3 = some v3 ∧ W.cell? p4 = some v4 ∧ W.cell? p5 = some v5 ∧ W.cell? p6 = some v6 ∧ W.cell? p7 = some v7 ∧ W.cell? q0 = some (cv W q0) ∧ W.cell? q1 = some (cv W q1) ∧ W.frozen? q0 = false ∧ W.frozen? q1 = false ∧ Below w.heap.size w W) : w1.cell? p0 = some v0 ∧ w1.cell? p1 = some v1 ∧ w1.cell? p2 = some v2 ∧ w1.cell? p3 = some v3 ∧ w1.cell? p4 = some v4 ∧ w1.cell? p5 = some v5 ∧ w1.cell? p6 = some v6 ∧ w1.cell? p7 = some v7 ∧ w1.cell? q0 = some (cv w1 q0) ∧ w1.cell? q1 = some (cv w1 q1) ∧ w1.frozen? q0 = false ∧ w1.frozen? q1 = false ∧ Below w.heap.size w w1 := by
  obtain ⟨h0, h1, h2, h3, h4, h5, h6, h7, r0, r1, z0, z1, hB⟩ := h
  exact ⟨keepC hb h0, keepC hb h1, keepC hb h2, keepC hb h3, keepC hb h4, keepC hb h5, keepC hb h6, keepC hb h7, keepV hb r0, keepV hb r1, keepF hb r0 z0, keepF hb r1 z1, belowSeq hb hB⟩
theorem allocS8_2 {w W : World} {o : Obj} {p0 p1 p2 p3 p4 p5 p6 p7 q0 q1 : Addr} {v0 v1 v2 v3 v4 v5 v6 v7 : Value} (h : W.cell? p0 = some v0 ∧ W.cell? p1 = some v1 ∧ W.cell? p2 = some v2 ∧ W.cell? p3 = some v3 ∧ W.cell? p4 = some v4 ∧ W.cell? p5 = some v5 ∧ W.cell? p6 = some v6 ∧ W.cell? p7 = some v7 ∧ W.cell? q0 = some (cv W q0) ∧ W.cell? q1 = some (cv W q1) ∧ W.frozen? q0 = false ∧ W.frozen? q1 = false ∧ Below w.heap.size w W) : (W.alloc o).cell? p0 = some v0 ∧ (W.alloc o).cell? p1 = some v1 ∧ (W.alloc o).cell? p2 = some v2 ∧ (W.alloc o).cell? p3 = some v3 ∧ (W.alloc o).cell? p4 = some v4 ∧ (W.alloc o).cell? p5 = some v5 ∧ (W.alloc o).cell? p6 = some v6 ∧ (W.alloc o).cell? p7 = some v7 ∧ (W.alloc o).cell? q0 = some (cv (W.alloc o) q0) ∧ (W.alloc o).cell? q1 = some (cv (W.alloc o) q1) ∧ (W.alloc o).frozen? q0 = false ∧ (W.alloc o).frozen? q1 = false ∧ Below w.heap.size w (W.alloc o) := keepS8_2 ((Below.refl _ _).alloc (Nat.le_refl _) o) h
theorem drewS8_2 {w W : World} {p0 p1 p2 p3 p4 p5 p6 p7 q0 q1 : Addr} {v0 v1 v2 v3 v4 v5 v6 v7 : Value} (h : W.cell? p0 = some v0 ∧ W.cell? p1 = some v1 ∧ W.cell? p2 = some v2 ∧ W.cell? p3 = some v3 ∧ W.cell? p4 = some v4 ∧ W.cell? p5 = some v5 ∧ W.cell? p6 = some v6 ∧ W.cell? p7 = some v7 ∧ W.cell? q0 = some (cv W q0) ∧ W.cell? q1 = some (cv W q1) ∧ W.frozen? q0 = false ∧ W.frozen? q1 = false ∧ Below w.heap.size w W) : W.drew.cell? p0 = some v0 ∧ W.drew.cell? p1 = some v1 ∧ W.drew.cell? p2 = some v2 ∧ W.drew.cell? p3 = some v3 ∧ W.drew.cell? p4 = some v4 ∧ W.drew.cell? p5 = some v5 ∧ W.drew.cell? p6 = some v6 ∧ W.drew.cell? p7 = some v7 ∧ W.drew.cell? q0 = some (cv W.drew q0) ∧ W.drew.cell? q1 = some (cv W.drew q1) ∧ W.drew.frozen? q0 = false ∧ W.drew.frozen? q1 = false ∧ Below w.heap.size w W.drew := keepS8_2 ((Below.refl _ _).drew) h
set_option maxHeartbeats 1000000 in
theorem scaled_any (t0 t1 n0 n1 d0 d1 : Int) (w : World) (P0 : 0 ≤ t0 * n0) (P1 : t0 * n0 ≤ 1000000000000000000) (P2 : 0 ≤ t1 * n1) (P3 : t1 * n1 ≤ 1000000000000000000) (D0 : 0 < d0) (D1 : d0 ≤ 1000000000000000000) (D2 : 0 < d1) (D3 : d1 ≤ 1000000000000000000) :
    Calls Try.prog 64 #[.agg #[.int .i64 t0, .int .i64 t1], .agg #[.int .i64 n0, .int .i64 n1], .agg #[.int .i64 d0, .int .i64 d1]] w fun e w' => e = .returned (.agg #[.int .i64 (fl (t0 * n0) d1), .int .i64 (ce (t1 * n1) d0)]) ∧ Below w.heap.size w w' := by
  go_enter Try.func64, Try.ntmps64
  go_upto_region 1 with fail
  refine nameWorld (fun w' => w'.cell? ⟨w.heap.size, 0, none⟩ = some (.int .i64 t0) ∧ w'.cell? ⟨w.heap.size, 1, none⟩ = some (.int .i64 t1) ∧ w'.cell? ⟨w.heap.size + 1, 0, none⟩ = some (.int .i64 n0) ∧ w'.cell? ⟨w.heap.size + 1, 1, none⟩ = some (.int .i64 n1) ∧ w'.cell? ⟨w.heap.size + 1 + 1, 0, none⟩ = some (.int .i64 d0) ∧ w'.cell? ⟨w.heap.size + 1 + 1, 1, none⟩ = some (.int .i64 d1) ∧ w'.cell? ⟨w.heap.size + 1 + 1 + 1, 0, none⟩ = some (cv w' ⟨w.heap.size + 1 + 1 + 1, 0, none⟩) ∧ w'.cell? ⟨w.heap.size + 1 + 1 + 1, 1, none⟩ = some (cv w' ⟨w.heap.size + 1 + 1 + 1, 1, none⟩) ∧ w'.frozen? ⟨w.heap.size + 1 + 1 + 1, 0, none⟩ = false ∧ w'.frozen? ⟨w.heap.size + 1 + 1 + 1, 1, none⟩ = false ∧ Below w.heap.size w w') (by refine ⟨?_, ?_, ?_, ?_, ?_, ?_, ?_, ?_, ?_, ?_, ?_⟩ <;> first | (with_reducible assumption) | (go_grown; done) | (go_cell; done) | go_size | ((repeat first | (with_reducible assumption) | (with_reducible refine szA ?_) | (with_reducible refine szS ?_) | (with_reducible refine szD ?_)); done) | ((repeat first | (with_reducible assumption) | (with_reducible refine cvA ?_) | (with_reducible refine cvS ?_) | (with_reducible refine cvD ?_)); done) | (refine cv_of (v := .int .i64 0) ?_; go_cell; done) | (go_simp; done) | go_keep) (fun wc hc => ?_)
  obtain ⟨x0, x1, x2, x3, x4, x5, r0, r1, z0, z1, hB⟩ := hc
  have l0 : -1000000000000000000 ≤ t0 * n0 := by omega
  have m0 : t0 * n0 ≤ 1000000000000000000 := by omega
  have l1 : -1000000000000000000 ≤ t1 * n1 := by omega
  have m1 : t1 * n1 ≤ 1000000000000000000 := by omega
  have e0 : 0 < d0 := by omega
  have q0 : d0 ≤ 1000000000000000000 := by omega
  have e1 : 0 < d1 := by omega
  have q1 : d1 ≤ 1000000000000000000 := by omega
  have u0 : IntKind.i64.wrap (t0 * n0) = t0 * n0 := IntWalk.i64_in _ (by omega)
  have u1 : IntKind.i64.wrap (t1 * n1) = t1 * n1 := IntWalk.i64_in _ (by omega)
  go_region_held3 (fun w' => w'.cell? ⟨w.heap.size, 0, none⟩ = some (.int .i64 t0) ∧ w'.cell? ⟨w.heap.size, 1, none⟩ = some (.int .i64 t1) ∧ w'.cell? ⟨w.heap.size + 1, 0, none⟩ = some (.int .i64 n0) ∧ w'.cell? ⟨w.heap.size + 1, 1, none⟩ = some (.int .i64 n1) ∧ w'.cell? ⟨w.heap.size + 1 + 1, 0, none⟩ = some (.int .i64 d0) ∧ w'.cell? ⟨w.heap.size + 1 + 1, 1, none⟩ = some (.int .i64 d1) ∧ w'.cell? ⟨w.heap.size + 1 + 1 + 1, 0, none⟩ = some (cv w' ⟨w.heap.size + 1 + 1 + 1, 0, none⟩) ∧ w'.cell? ⟨w.heap.size + 1 + 1 + 1, 1, none⟩ = some (cv w' ⟨w.heap.size + 1 + 1 + 1, 1, none⟩) ∧ w'.frozen? ⟨w.heap.size + 1 + 1 + 1, 0, none⟩ = false ∧ w'.frozen? ⟨w.heap.size + 1 + 1 + 1, 1, none⟩ = false ∧ Below w.heap.size w w')
      (first | (with_reducible assumption) | ((with_reducible apply keepS6_2 hb1); (with_reducible assumption)) | ((with_reducible apply allocS6_2); (with_reducible assumption)) | ((with_reducible apply drewS6_2); (with_reducible assumption)) | ((try go_split_ands); (refine ⟨?_, ?_, ?_, ?_, ?_, ?_, ?_, ?_, ?_, ?_, ?_⟩ <;> first | (with_reducible assumption) | (go_grown; done) | (go_cell; done) | go_size | ((repeat first | (with_reducible assumption) | (with_reducible refine szA ?_) | (with_reducible refine szS ?_) | (with_reducible refine szD ?_)); done) | ((repeat first | (with_reducible assumption) | (with_reducible refine cvA ?_) | (with_reducible refine cvS ?_) | (with_reducible refine cvD ?_)); done) | (refine cv_of (v := .int .i64 0) ?_; go_cell; done) | (go_simp; done) | go_keep)))
      (first
        | (go_at_call 59; go_call ffl_any as e w1 ⟨rfl, rfl⟩)
        | (go_at_call 46; go_call fce_any as e w1 ⟨rfl, rfl⟩))
  clear u0 u1
  rename_i hS
  obtain ⟨-, -, -, -, -, -, q0, q1, -, -, hB1⟩ := hS
  obtain ⟨q0, q1⟩ := res2 q0 q1
  go_wp2
  exact bodyPost_ret (v := .agg #[.int .i64 (fl (t0 * n0) d1), .int .i64 (ce (t1 * n1) d0)]) (by simp [results, Try.results64, go_sem, q0, q1]) rfl ⟨rfl, hB1⟩
set_option maxHeartbeats 1000000 in
theorem mostStrength_any (v0 v1 s0 s1 c0 c1 : Int) (w : World)  :
    Calls Try.prog 35 #[.agg #[.int .i64 v0, .int .i64 v1, .int .i64 s0, .int .i64 s1, .int .i64 c0, .int .i64 c1]] w fun e w' => e = .returned (.int .i64 s1) ∧ Below w.heap.size w w' := by
  go_enter Try.func35, Try.ntmps35
  go_wp2
  go_ret
  exact ⟨rfl, by go_grown⟩
set_option maxHeartbeats 1000000 in
theorem mostSugar_any (v0 v1 s0 s1 c0 c1 : Int) (w : World)  :
    Calls Try.prog 37 #[.agg #[.int .i64 v0, .int .i64 v1, .int .i64 s0, .int .i64 s1, .int .i64 c0, .int .i64 c1]] w fun e w' => e = .returned (.int .i64 c1) ∧ Below w.heap.size w w' := by
  go_enter Try.func37, Try.ntmps37
  go_wp2
  go_ret
  exact ⟨rfl, by go_grown⟩
set_option maxHeartbeats 1000000 in
theorem strengthAfter_any (v0 v1 s0 s1 c0 c1 a0 a1 g0 g1 days : Int) (w : World) (a00 : 0 ≤ a0) (a01 : a0 ≤ 2000) (a10 : 0 ≤ a1) (a11 : a1 ≤ 2000) (g00 : 0 ≤ g0) (g01 : g0 ≤ 2000) (g10 : 0 ≤ g1) (g11 : g1 ≤ 2000) (s00 : 0 ≤ s0) (s01 : s0 ≤ 10000) (s10 : 0 ≤ s1) (s11 : s1 ≤ 10000) (d0 : 0 ≤ days) (d1 : days ≤ 366) :
    Calls Try.prog 56 #[.agg #[.int .i64 v0, .int .i64 v1, .int .i64 s0, .int .i64 s1, .int .i64 c0, .int .i64 c1], .agg #[.int .i64 a0, .int .i64 a1, .int .i64 g0, .int .i64 g1], .int .i64 days] w fun e w' => e = .returned (.agg #[.int .i64 (fl (s0 * lft g1 days) (lft a0 days)), .int .i64 (ce (s1 * lft g0 days) (lft a1 days))]) ∧ Below w.heap.size w w' := by
  obtain ⟨A0, A0'⟩ := lft_bd a0 days a00 a01 d0 d1
  obtain ⟨A1, A1'⟩ := lft_bd a1 days a10 a11 d0 d1
  obtain ⟨G0, G0'⟩ := lft_bd g0 days g00 g01 d0 d1
  obtain ⟨G1, G1'⟩ := lft_bd g1 days g10 g11 d0 d1
  obtain ⟨P0, P0'⟩ := mul_bd s0 (lft g1 days) 10000 1000000 s00 s01 (by omega) G1'
  obtain ⟨P1, P1'⟩ := mul_bd s1 (lft g0 days) 10000 1000000 s10 s11 (by omega) G0'
  have P2 : s0 * lft g1 days ≤ 1000000000000000000 := by omega
  have P3 : s1 * lft g0 days ≤ 1000000000000000000 := by omega
  have D0 : 0 < lft a0 days := by omega
  have D1 : lft a0 days ≤ 1000000000000000000 := by omega
  have D2 : 0 < lft a1 days := by omega
  have D3 : lft a1 days ≤ 1000000000000000000 := by omega
  go_enter Try.func56, Try.ntmps56
  go_upto_region 1 with fail
  refine nameWorld (fun w' => w'.cell? ⟨w.heap.size, 2, none⟩ = some (.int .i64 s0) ∧ w'.cell? ⟨w.heap.size, 3, none⟩ = some (.int .i64 s1) ∧ w'.cell? ⟨w.heap.size + 1, 0, none⟩ = some (.int .i64 a0) ∧ w'.cell? ⟨w.heap.size + 1, 1, none⟩ = some (.int .i64 a1) ∧ w'.cell? ⟨w.heap.size + 1, 2, none⟩ = some (.int .i64 g0) ∧ w'.cell? ⟨w.heap.size + 1, 3, none⟩ = some (.int .i64 g1) ∧ w'.cell? ⟨w.heap.size + 1 + 1, 0, none⟩ = some (cv w' ⟨w.heap.size + 1 + 1, 0, none⟩) ∧ w'.cell? ⟨w.heap.size + 1 + 1, 1, none⟩ = some (cv w' ⟨w.heap.size + 1 + 1, 1, none⟩) ∧ w'.frozen? ⟨w.heap.size + 1 + 1, 0, none⟩ = false ∧ w'.frozen? ⟨w.heap.size + 1 + 1, 1, none⟩ = false ∧ Below w.heap.size w w') (by refine ⟨?_, ?_, ?_, ?_, ?_, ?_, ?_, ?_, ?_, ?_, ?_⟩ <;> first | (with_reducible assumption) | (go_grown; done) | (go_cell; done) | go_size | ((repeat first | (with_reducible assumption) | (with_reducible refine szA ?_) | (with_reducible refine szS ?_) | (with_reducible refine szD ?_)); done) | ((repeat first | (with_reducible assumption) | (with_reducible refine cvA ?_) | (with_reducible refine cvS ?_) | (with_reducible refine cvD ?_)); done) | (refine cv_of (v := .int .i64 0) ?_; go_cell; done) | (go_simp; done) | go_keep) (fun wc hc => ?_)
  obtain ⟨x0, x1, x2, x3, x4, x5, r0, r1, z0, z1, hB⟩ := hc
  go_region_held3 (fun w' => w'.cell? ⟨w.heap.size, 2, none⟩ = some (.int .i64 s0) ∧ w'.cell? ⟨w.heap.size, 3, none⟩ = some (.int .i64 s1) ∧ w'.cell? ⟨w.heap.size + 1, 0, none⟩ = some (.int .i64 a0) ∧ w'.cell? ⟨w.heap.size + 1, 1, none⟩ = some (.int .i64 a1) ∧ w'.cell? ⟨w.heap.size + 1, 2, none⟩ = some (.int .i64 g0) ∧ w'.cell? ⟨w.heap.size + 1, 3, none⟩ = some (.int .i64 g1) ∧ w'.cell? ⟨w.heap.size + 1 + 1, 0, none⟩ = some (cv w' ⟨w.heap.size + 1 + 1, 0, none⟩) ∧ w'.cell? ⟨w.heap.size + 1 + 1, 1, none⟩ = some (cv w' ⟨w.heap.size + 1 + 1, 1, none⟩) ∧ w'.frozen? ⟨w.heap.size + 1 + 1, 0, none⟩ = false ∧ w'.frozen? ⟨w.heap.size + 1 + 1, 1, none⟩ = false ∧ Below w.heap.size w w')
      (first | (with_reducible assumption) | ((with_reducible apply keepS6_2 hb1); (with_reducible assumption)) | ((with_reducible apply allocS6_2); (with_reducible assumption)) | ((with_reducible apply drewS6_2); (with_reducible assumption)) | ((try go_split_ands); (refine ⟨?_, ?_, ?_, ?_, ?_, ?_, ?_, ?_, ?_, ?_, ?_⟩ <;> first | (with_reducible assumption) | (go_grown; done) | (go_cell; done) | go_size | ((repeat first | (with_reducible assumption) | (with_reducible refine szA ?_) | (with_reducible refine szS ?_) | (with_reducible refine szD ?_)); done) | ((repeat first | (with_reducible assumption) | (with_reducible refine cvA ?_) | (with_reducible refine cvS ?_) | (with_reducible refine cvD ?_)); done) | (refine cv_of (v := .int .i64 0) ?_; go_cell; done) | (go_simp; done) | go_keep)))
      (first
        | (go_at_call 63; go_call leftOf_any as e w1 ⟨rfl, hb1⟩)
        | (go_at_call 64; go_call scaled_any as e w1 ⟨rfl, hb1⟩))
  all_goals (
    rename_i hS
    obtain ⟨-, -, -, -, -, -, q0, q1, -, -, hB1⟩ := hS
    obtain ⟨q0, q1⟩ := res2 q0 q1
    go_wp2
    exact bodyPost_ret (v := .agg #[.int .i64 (fl (s0 * lft g1 days) (lft a0 days)), .int .i64 (ce (s1 * lft g0 days) (lft a1 days))]) (by simp [results, Try.results56, go_sem, q0, q1]) rfl ⟨rfl, hB1⟩)
end Go.Proofs.Ytbijhcoloajjaaa
