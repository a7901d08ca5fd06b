/- Contracts of the reference of chapter 3: left, strength, LossOf, After, Drawn. -/
import Derived.Test.YtpccfjdgnmmfoaaR2
namespace Go.Proofs.Ytpccfjdgnmmfoaa
open Go.RowKit

theorem mul_bd (x y a b : Int) (x0 : 0 ≤ x) (x1 : x ≤ a) (y0 : 0 ≤ y) (y1 : y ≤ b) : 0 ≤ x * y ∧ x * y ≤ a * b :=
  ⟨Int.mul_nonneg x0 y0, Int.mul_le_mul x1 y1 y0 (by omega)⟩
def lft (a days : Int) : Int := 1000000 - a * days
theorem lft_bd (a days : Int) (h0 : 0 ≤ a) (h1 : a ≤ 2000) (d0 : 0 ≤ days) (d1 : days ≤ 366) : 268000 ≤ lft a days ∧ lft a days ≤ 1000000 := by
  have := mul_bd a days 2000 366 h0 h1 d0 d1
  unfold lft; omega
theorem left_any (a0 a1 days : Int) (w : World) (h0 : 0 ≤ a0) (h1 : a0 ≤ 2000) (h2 : 0 ≤ a1) (h3 : a1 ≤ 2000) (d0 : 0 ≤ days) (d1 : days ≤ 366) :
    Calls Try.prog 89 #[.agg #[.int .i64 a0, .int .i64 a1], .int .i64 days] w fun e w' => e = .returned (.agg #[.int .i64 (lft a1 days), .int .i64 (lft a0 days)]) ∧ ((w.alloc (.cells #[.int .i64 a0, .int .i64 a1] 25)).alloc (.cells #[.int .i64 (lft a1 days), .int .i64 (lft a0 days)] 25)) = w' := by
  obtain ⟨m0, m1⟩ := mul_bd a0 days 2000 366 h0 h1 d0 d1
  obtain ⟨m2, m3⟩ := mul_bd a1 days 2000 366 h2 h3 d0 d1
  go_enter Try.func89, Try.ntmps89
  go_wp2
  go_returns
  exact ⟨by simp [lft], by simp [lft]⟩
def fl (n d : Int) : Int := n / d
def ce (n d : Int) : Int := -((-n) / d)
theorem fl_any (n b : Int) (w : World) (h0 : -1000000000000000000 ≤ n) (h1 : n ≤ 1000000000000000000) (hb : 0 < b) (hb1 : b ≤ 1000000000000000000) :
    Calls Try.prog 36 #[.int .i64 n, .int .i64 b] w fun e w' => e = .returned (.int .i64 (fl n b)) ∧ w = w' := floor_any n b w h0 h1 hb hb1
theorem ce_any (n b : Int) (w : World) (h0 : -1000000000000000000 ≤ n) (h1 : n ≤ 1000000000000000000) (hb : 0 < b) (hb1 : b ≤ 1000000000000000000) :
    Calls Try.prog 37 #[.int .i64 n, .int .i64 b] w fun e w' => e = .returned (.int .i64 (ce n b)) ∧ w = w' := ceil_any n b w h0 h1 hb hb1
set_option maxHeartbeats 2000000 in
theorem strength_any (v0 v1 s0 s1 c0 c1 a0 a1 g0 g1 days : Int) (w : World) (a00 : 0 ≤ a0) (a01 : a0 ≤ 2000) (a10 : 0 ≤ a1) (a11 : a1 ≤ 2000) (g00 : 0 ≤ g0) (g01 : g0 ≤ 2000) (g10 : 0 ≤ g1) (g11 : g1 ≤ 2000) (s00 : 0 ≤ s0) (s01 : s0 ≤ 10000) (s10 : 0 ≤ s1) (s11 : s1 ≤ 10000) (d0 : 0 ≤ days) (d1 : days ≤ 366) :
    Calls Try.prog 90 #[.agg #[.int .i64 v0, .int .i64 v1, .int .i64 s0, .int .i64 s1, .int .i64 c0, .int .i64 c1], .agg #[.int .i64 a0, .int .i64 a1, .int .i64 g0, .int .i64 g1], .int .i64 days] w fun e w' => e = .returned (.agg #[.int .i64 (fl (s0 * lft g1 days) (lft a0 days)), .int .i64 (ce (s1 * lft g0 days) (lft a1 days))]) ∧ Below w.heap.size w w' := by
  obtain ⟨A0, A0'⟩ := lft_bd a0 days a00 a01 d0 d1
  obtain ⟨A1, A1'⟩ := lft_bd a1 days a10 a11 d0 d1
  obtain ⟨G0, G0'⟩ := lft_bd g0 days g00 g01 d0 d1
  obtain ⟨G1, G1'⟩ := lft_bd g1 days g10 g11 d0 d1
  obtain ⟨P0, P0'⟩ := mul_bd s0 (lft g1 days) 10000 1000000 s00 s01 (by omega) G1'
  obtain ⟨P1, P1'⟩ := mul_bd s1 (lft g0 days) 10000 1000000 s10 s11 (by omega) G0'
  go_enter Try.func90, Try.ntmps90
  go_upto_region 1 with fail
  go_cut [7, 8] (fun s7 s8 wx => ∃ b7 b8 : Nat, s7 = .pointer (some ⟨b7, 0, none⟩) ∧ s8 = .pointer (some ⟨b8, 0, none⟩) ∧ w.heap.size + 1 + 1 < b7 ∧ w.heap.size + 1 + 1 < b8 ∧ wx.cell? ⟨b7, 0, none⟩ = some (.int .i64 (lft a1 days)) ∧ wx.cell? ⟨b7, 1, none⟩ = some (.int .i64 (lft a0 days)) ∧ wx.cell? ⟨b8, 0, none⟩ = some (.int .i64 (lft g1 days)) ∧ wx.cell? ⟨b8, 1, none⟩ = some (.int .i64 (lft g0 days)) ∧ wx.cell? ⟨w.heap.size, 2, none⟩ = some (.int .i64 s0) ∧ wx.cell? ⟨w.heap.size, 3, none⟩ = some (.int .i64 s1) ∧ wx.cell? ⟨w.heap.size + 1 + 1, 0, none⟩ = some (.int .i64 0) ∧ wx.cell? ⟨w.heap.size + 1 + 1, 1, none⟩ = some (.int .i64 0) ∧ wx.frozen? ⟨w.heap.size + 1 + 1, 0, none⟩ = false ∧ wx.frozen? ⟨w.heap.size + 1 + 1, 1, none⟩ = false ∧ Below w.heap.size w wx)
  case first =>
    go_region_held3 (fun w' => w'.cell? ⟨w.heap.size + 1, 0, none⟩ = some (.int .i64 a0) ∧ w'.cell? ⟨w.heap.size + 1, 1, none⟩ = some (.int .i64 a1) ∧ w'.cell? ⟨w.heap.size + 1, 2, none⟩ = some (.int .i64 g0) ∧ w'.cell? ⟨w.heap.size + 1, 3, none⟩ = some (.int .i64 g1) ∧ Below w.heap.size w w' ∧ w.heap.size + 1 + 1 < w'.heap.size)
        (first | (with_reducible assumption) | (exact hk1.out) | (have hk2 := hk1.out; (try go_split_ands); (refine ⟨?_, ?_, ?_, ?_, ?_, ?_⟩ <;> first | (with_reducible assumption) | (go_grown; done) | (go_cell; done) | go_size | ((repeat first | (with_reducible assumption) | (with_reducible refine szA ?_) | (with_reducible refine szS ?_) | (with_reducible refine szD ?_)); done) | go_keep)) | ((try go_split_ands); (refine ⟨?_, ?_, ?_, ?_, ?_, ?_⟩ <;> first | (with_reducible assumption) | (go_grown; done) | (go_cell; done) | go_size | ((repeat first | (with_reducible assumption) | (with_reducible refine szA ?_) | (with_reducible refine szS ?_) | (with_reducible refine szD ?_)); done) | go_keep)))
        (first
          | (go_at_call 89; go_call left_any as e w1 ⟨rfl, rfl⟩))
    all_goals (go_wp2_with fail; go_meet)
    all_goals (refine ⟨_, _, rfl, rfl, ?_, ?_, ?_, ?_, ?_, ?_, ?_, ?_, ?_, ?_, ?_, ?_, ?_⟩ <;> first | (with_reducible assumption) | omega | (go_grown; done) | (go_cell; done) | (simp; done))
  case rest =>
    obtain ⟨b7, b8, rfl, rfl, h7, h8, f0, f1, f2, f3, x0, x1, r0, r1, z0, z1, hB⟩ := hcut
    have r0 := cv_of r0
    have r1 := cv_of r1
    go_wp2_with fail
    have l0 : -1000000000000000000 ≤ s0 * lft g1 days := by omega
    have m0 : s0 * lft g1 days ≤ 1000000000000000000 := by omega
    have l1 : -1000000000000000000 ≤ s1 * lft g0 days := by omega
    have m1 : s1 * lft g0 days ≤ 1000000000000000000 := by omega
    have e0 : 0 < lft a0 days := by omega
    have q0 : lft a0 days ≤ 1000000000000000000 := by omega
    have e1 : 0 < lft a1 days := by omega
    have q1 : lft a1 days ≤ 1000000000000000000 := by omega
    have u0 : IntKind.i64.wrap (s0 * lft g1 days) = s0 * lft g1 days := IntWalk.i64_in _ (by omega)
    have u1 : IntKind.i64.wrap (s1 * lft g0 days) = s1 * lft g0 days := IntWalk.i64_in _ (by omega)
    go_region_held3 (fun w' => w'.cell? ⟨b7, 0, none⟩ = some (.int .i64 (lft a1 days)) ∧ w'.cell? ⟨b7, 1, none⟩ = some (.int .i64 (lft a0 days)) ∧ w'.cell? ⟨b8, 0, none⟩ = some (.int .i64 (lft g1 days)) ∧ w'.cell? ⟨b8, 1, none⟩ = some (.int .i64 (lft g0 days)) ∧ w'.cell? ⟨w.heap.size, 2, none⟩ = some (.int .i64 s0) ∧ w'.cell? ⟨w.heap.size, 3, none⟩ = some (.int .i64 s1) ∧ w'.cell? ⟨w.heap.size + 1 + 1, 0, none⟩ = some (cv w' ⟨w.heap.size + 1 + 1, 0, none⟩) ∧ w'.cell? ⟨w.heap.size + 1 + 1, 1, none⟩ = some (cv w' ⟨w.heap.size + 1 + 1, 1, none⟩) ∧ w'.frozen? ⟨w.heap.size + 1 + 1, 0, none⟩ = false ∧ w'.frozen? ⟨w.heap.size + 1 + 1, 1, none⟩ = false ∧ Below w.heap.size w w')
        (first | (with_reducible assumption) | (exact hk1.out) | (have hk2 := hk1.out; (try go_split_ands); (refine ⟨?_, ?_, ?_, ?_, ?_, ?_, ?_, ?_, ?_, ?_, ?_⟩ <;> first | (with_reducible assumption) | (go_grown; done) | (go_cell; done) | go_size | ((repeat first | (with_reducible assumption) | (with_reducible refine szA ?_) | (with_reducible refine szS ?_) | (with_reducible refine szD ?_)); done) | ((repeat first | (with_reducible assumption) | (with_reducible refine cvA ?_) | (with_reducible refine cvS ?_) | (with_reducible refine cvD ?_)); done) | (refine cv_of (v := .int .i64 0) ?_; go_cell; done) | (go_simp; done) | go_keep)) | ((try go_split_ands); (refine ⟨?_, ?_, ?_, ?_, ?_, ?_, ?_, ?_, ?_, ?_, ?_⟩ <;> first | (with_reducible assumption) | (go_grown; done) | (go_cell; done) | go_size | ((repeat first | (with_reducible assumption) | (with_reducible refine szA ?_) | (with_reducible refine szS ?_) | (with_reducible refine szD ?_)); done) | ((repeat first | (with_reducible assumption) | (with_reducible refine cvA ?_) | (with_reducible refine cvS ?_) | (with_reducible refine cvD ?_)); done) | (refine cv_of (v := .int .i64 0) ?_; go_cell; done) | (go_simp; done) | go_keep)))
        (first
          | (go_at_call 36; go_call fl_any as e w1 ⟨rfl, rfl⟩)
          | (go_at_call 37; go_call ce_any as e w1 ⟨rfl, rfl⟩))
    clear u0 u1
    rename_i hS
    have hB1 := hS.2.2.2.2.2.2.2.2.2.2
    clear hS
    have rr0 : ∀ v, (wc.setCell ⟨w.heap.size + 1 + 1, 0, none⟩ v).cell? ⟨w.heap.size + 1 + 1, 0, none⟩ = some v := fun v => World.cell?_setCell_same _ _ _ r0
    have rr1 : ∀ u v, ((wc.setCell ⟨w.heap.size + 1 + 1, 0, none⟩ u).setCell ⟨w.heap.size + 1 + 1, 1, none⟩ v).cell? ⟨w.heap.size + 1 + 1, 1, none⟩ = some v := fun u v => World.cell?_setCell_same _ _ _ (cvS r1)
    clear r0 r1 f0 f1 f2 f3 x0 x1 z0 z1
    go_wp2
    exact bodyPost_ret (v := .agg #[.int .i64 (fl (s0 * lft g1 days) (lft a0 days)), .int .i64 (ce (s1 * lft g0 days) (lft a1 days))]) (by simp [results, Try.results90, go_sem, rr0, rr1]) rfl ⟨rfl, hB1⟩
end Go.Proofs.Ytpccfjdgnmmfoaa
