/- flor's own floor, ceiling, lostOf, leftOf, exactly, scaled. -/
import Derived.Test.YtbijhcoloajjaaaF2
import Derived.Test.YtbijhcoloajjaaaR3
import Derived.Test.YtbijhcoloajjaaaH1
namespace Go.Proofs.Ytbijhcoloajjaaa
open Go.RowKit

theorem florFloor_any (n b : Int) (w : World) (h0 : -1000000000000000000 ≤ n) (h1 : n ≤ 1000000000000000000) (hb : 0 < b) (hb1 : b ≤ 1000000000000000000) :
    Calls Try.prog 59 #[.int .i64 n, .int .i64 b] w fun e w' => e = .returned (.int .i64 (n / b)) ∧ w = w' := by
  by_cases hn : 0 ≤ n
  · have hm : 0 ≤ n % b := Int.emod_nonneg n (by omega)
    go_enter Try.func59, Try.ntmps59
    go_wp2
    go_ret
    exact ⟨rfl, rfl⟩
  · obtain ⟨e1, e2⟩ := tdiv_neg_facts n b (by omega)
    have g := floor_neg (-n) b hb
    have hd : (-n) / b ≤ -n := Int.ediv_le_self _ (by omega)
    have hd0 : 0 ≤ (-n) / b := Int.ediv_nonneg (by omega) (by omega)
    have hm : 0 ≤ (-n) % b := Int.emod_nonneg (-n) (by omega)
    rw [Int.neg_neg] at g
    by_cases hz : (-n) % b = 0
    · have g1 := Lib.hid (g.2 hz).1
      have E1 := Lib.hid e1
      have z : ¬ n.tmod b < 0 := by omega
      clear g e1 e2
      go_enter Try.func59, Try.ntmps59
      go_wp2
      go_ret
      exact ⟨ret_int (by rw [g1.out, E1.out]), rfl⟩
    · have g1 := Lib.hid (g.1 (by omega)).1
      have E1 := Lib.hid e1
      have z : n.tmod b < 0 := by omega
      have q0 : -1000000000000000000 ≤ n.tdiv b := by omega
      have q1 : n.tdiv b ≤ 0 := by omega
      clear g e1 e2
      go_enter Try.func59, Try.ntmps59
      go_wp2
      go_ret
      exact ⟨ret_int (by rw [g1.out, E1.out]), rfl⟩

theorem florCeil_any (n b : Int) (w : World) (h0 : -1000000000000000000 ≤ n) (h1 : n ≤ 1000000000000000000) (hb : 0 < b) (hb1 : b ≤ 1000000000000000000) :
    Calls Try.prog 46 #[.int .i64 n, .int .i64 b] w fun e w' => e = .returned (.int .i64 (-((-n) / b))) ∧ w = w' := by
  have q := florFloor_any (-n) b w (by omega) (by omega) hb hb1
  have q0 : -1000000000000000000 ≤ (-n) / b := Int.le_ediv_of_mul_le hb (by
    have : -1000000000000000000 * b ≤ -1000000000000000000 * 1 := Int.mul_le_mul_of_nonpos_left (by omega) (by omega)
    omega)
  have q1 : (-n) / b ≤ 1000000000000000000 := by
    have := Int.ediv_le_self (a := 1000000000000000000) b (by omega)
    have := Int.ediv_le_ediv hb (show -n ≤ 1000000000000000000 by omega)
    omega
  have Q := Lib.hid q; clear q
  go_enter Try.func46, Try.ntmps46
  go_wp2_with (go_at_call 59; refine Q.out.mono ?_; rintro e w' ⟨rfl, rfl⟩)
  go_ret
  exact ⟨rfl, rfl⟩

theorem ffl_any (n b : Int) (w : World) (h0 : -1000000000000000000 ≤ n) (h1 : n ≤ 1000000000000000000) (hb : 0 < b) (hb1 : b ≤ 1000000000000000000) :
    Calls Try.prog 59 #[.int .i64 n, .int .i64 b] w fun e w' => e = .returned (.int .i64 (fl n b)) ∧ w = w' := florFloor_any n b w h0 h1 hb hb1
theorem fce_any (n b : Int) (w : World) (h0 : -1000000000000000000 ≤ n) (h1 : n ≤ 1000000000000000000) (hb : 0 < b) (hb1 : b ≤ 1000000000000000000) :
    Calls Try.prog 46 #[.int .i64 n, .int .i64 b] w fun e w' => e = .returned (.int .i64 (ce n b)) ∧ w = w' := florCeil_any n b w h0 h1 hb hb1
set_option maxHeartbeats 1000000 in
theorem lostOf_any2 (a0 a1 days : Int) (w : World) (h0 : 0 ≤ a0) (h1 : a0 ≤ 2000) (h2 : 0 ≤ a1) (h3 : a1 ≤ 2000) (d0 : 0 ≤ days) (d1 : days ≤ 366) :
    Calls Try.prog 69 #[.agg #[.int .i64 a0, .int .i64 a1], .int .i64 days] w fun e w' => e = .returned (.agg #[.int .i64 (a0 * days), .int .i64 (a1 * days)]) ∧ Below w.heap.size w w' := by
  obtain ⟨m0, m1⟩ := mul_bd a0 days 2000 366 h0 h1 d0 d1
  obtain ⟨m2, m3⟩ := mul_bd a1 days 2000 366 h2 h3 d0 d1
  go_enter Try.func69, Try.ntmps69
  go_wp2
  go_returns
  exact ⟨rfl, by go_grown⟩
set_option maxHeartbeats 1000000 in
theorem leftOf_any (a0 a1 days : Int) (w : World) (h0 : 0 ≤ a0) (h1 : a0 ≤ 2000) (h2 : 0 ≤ a1) (h3 : a1 ≤ 2000) (d0 : 0 ≤ days) (d1 : days ≤ 366) :
    Calls Try.prog 63 #[.agg #[.int .i64 a0, .int .i64 a1], .int .i64 days] w fun e w' => e = .returned (.agg #[.int .i64 (lft a1 days), .int .i64 (lft a0 days)]) ∧ Below w.heap.size w w' := by
  obtain ⟨m0, m1⟩ := mul_bd a0 days 2000 366 h0 h1 d0 d1
  obtain ⟨m2, m3⟩ := mul_bd a1 days 2000 366 h2 h3 d0 d1
  have HL := Lib.hid (fun w => lostOf_any2 a0 a1 days w h0 h1 h2 h3 d0 d1)
  go_enter Try.func63, Try.ntmps63
  go_upto_region 1 with fail
  refine nameWorld (fun w' => w'.cell? ⟨w.heap.size, 0, none⟩ = some (.int .i64 a0) ∧ w'.cell? ⟨w.heap.size, 1, none⟩ = some (.int .i64 a1) ∧ w'.cell? ⟨w.heap.size + 1, 0, none⟩ = some (cv w' ⟨w.heap.size + 1, 0, none⟩) ∧ w'.cell? ⟨w.heap.size + 1, 1, none⟩ = some (cv w' ⟨w.heap.size + 1, 1, none⟩) ∧ w'.frozen? ⟨w.heap.size + 1, 0, none⟩ = false ∧ w'.frozen? ⟨w.heap.size + 1, 1, none⟩ = false ∧ Below w.heap.size w w') (by refine ⟨?_, ?_, ?_, ?_, ?_, ?_, ?_⟩ <;> first | (with_reducible assumption) | (go_grown; done) | (go_cell; done) | go_size | ((repeat first | (with_reducible assumption) | (with_reducible refine szA ?_) | (with_reducible refine szS ?_) | (with_reducible refine szD ?_)); done) | ((repeat first | (with_reducible assumption) | (with_reducible refine cvA ?_) | (with_reducible refine cvS ?_) | (with_reducible refine cvD ?_)); done) | (refine cv_of (v := .int .i64 0) ?_; go_cell; done) | (go_simp; done) | go_keep) (fun wc hc => ?_)
  obtain ⟨x0, x1, r0, r1, z0, z1, hB⟩ := hc
  go_wp2_with (go_at_call 69; refine (HL.out _).mono ?_; rintro e w2 ⟨rfl, hb2⟩; have R0 := keepV hb2 r0; have R1 := keepV hb2 r1; have Z0 := keepF hb2 r0 z0; have Z1 := keepF hb2 r1 z1; have hz : w.heap.size + 1 < w2.heap.size := keepZ hb2 (World.block_lt_of_cell? wc _ r0); have hB2 := belowSeq hb2 hB; have rr0 : ∀ (o0 : Obj) (x0 : Value) (x1 : Value), (((w2.setCell ⟨w.heap.size + 1, 0, none⟩ x0).setCell ⟨w.heap.size + 1, 1, none⟩ x1).alloc o0).cell? ⟨w.heap.size + 1, 0, none⟩ = some x0 := fun _ x0 x1 => keepC ((Below.refl _ _).alloc (Nat.le_refl _) _) ((set2 R0 R1 x0 x1).1); have rr1 : ∀ (o0 : Obj) (x0 : Value) (x1 : Value), (((w2.setCell ⟨w.heap.size + 1, 0, none⟩ x0).setCell ⟨w.heap.size + 1, 1, none⟩ x1).alloc o0).cell? ⟨w.heap.size + 1, 1, none⟩ = some x1 := fun _ x0 x1 => keepC ((Below.refl _ _).alloc (Nat.le_refl _) _) ((set2 R0 R1 x0 x1).2))
  exact bodyPost_ret (v := .agg #[.int .i64 (lft a1 days), .int .i64 (lft a0 days)]) (by simp [results, Try.results63, go_sem, rr0, rr1, lft]) rfl ⟨rfl, by go_grown⟩
set_option maxHeartbeats 1000000 in
theorem exactly_any (n : Int) (w : World)  :
    Calls Try.prog 43 #[.int .i64 n] w fun e w' => e = .returned (.agg #[.int .i64 n, .int .i64 n]) ∧ Below w.heap.size w w' := by
  go_enter Try.func43, Try.ntmps43
  go_wp2
  go_returns
  exact ⟨rfl, by go_grown⟩
end Go.Proofs.Ytbijhcoloajjaaa
