/- flor's own SafeDays. -/
import Derived.Test.YtbijhcoloajjaaaF4
import Derived.Test.YtbijhcoloajjaaaR8
namespace Go.Proofs.Ytbijhcoloajjaaa
open Go.RowKit

theorem keepS10_0 {w W w1 : World} {p0 p1 p2 p3 p4 p5 p6 p7 p8 p9 : Addr} {v0 v1 v2 v3 v4 v5 v6 v7 v8 v9 : Value} (hb : Below W.heap.size W w1) (h : W.cell? p0 = some v0 ∧ W.cell? p1 = some v1 ∧ W.cell? p2 = some v2 ∧ W.cell? p3 = some v3 ∧ W.cell? p4 = some v4 ∧ W.cell? p5 = some v5 ∧ W.cell? p6 = some v6 ∧ W.cell? p7 = some v7 ∧ W.cell? p8 = some v8 ∧ W.cell? p9 = some v9 ∧ Below w.heap.size w W) : w1.cell? p0 = some v0 ∧ w1.cell? p1 = some v1 ∧ w1.cell? p2 = some v2 ∧ w1.cell? p3 = some v3 ∧ w1.cell? p4 = some v4 ∧ w1.cell? p5 = some v5 ∧ w1.cell? p6 = some v6 ∧ w1.cell? p7 = some v7 ∧ w1.cell? p8 = some v8 ∧ w1.cell? p9 = some v9 ∧ Below w.heap.size w w1 := by
  obtain ⟨h0, h1, h2, h3, h4, h5, h6, h7, h8, h9, hB⟩ := h
  exact ⟨keepC hb h0, keepC hb h1, keepC hb h2, keepC hb h3, keepC hb h4, keepC hb h5, keepC hb h6, keepC hb h7, keepC hb h8, keepC hb h9, belowSeq hb hB⟩
theorem allocS10_0 {w W : World} {o : Obj} {p0 p1 p2 p3 p4 p5 p6 p7 p8 p9 : Addr} {v0 v1 v2 v3 v4 v5 v6 v7 v8 v9 : Value} (h : W.cell? p0 = some v0 ∧ W.cell? p1 = some v1 ∧ W.cell? p2 = some v2 ∧ W.cell? p3 = some v3 ∧ W.cell? p4 = some v4 ∧ W.cell? p5 = some v5 ∧ W.cell? p6 = some v6 ∧ W.cell? p7 = some v7 ∧ W.cell? p8 = some v8 ∧ W.cell? p9 = some v9 ∧ Below w.heap.size w W) : (W.alloc o).cell? p0 = some v0 ∧ (W.alloc o).cell? p1 = some v1 ∧ (W.alloc o).cell? p2 = some v2 ∧ (W.alloc o).cell? p3 = some v3 ∧ (W.alloc o).cell? p4 = some v4 ∧ (W.alloc o).cell? p5 = some v5 ∧ (W.alloc o).cell? p6 = some v6 ∧ (W.alloc o).cell? p7 = some v7 ∧ (W.alloc o).cell? p8 = some v8 ∧ (W.alloc o).cell? p9 = some v9 ∧ Below w.heap.size w (W.alloc o) := keepS10_0 ((Below.refl _ _).alloc (Nat.le_refl _) o) h
theorem drewS10_0 {w W : World} {p0 p1 p2 p3 p4 p5 p6 p7 p8 p9 : Addr} {v0 v1 v2 v3 v4 v5 v6 v7 v8 v9 : Value} (h : W.cell? p0 = some v0 ∧ W.cell? p1 = some v1 ∧ W.cell? p2 = some v2 ∧ W.cell? p3 = some v3 ∧ W.cell? p4 = some v4 ∧ W.cell? p5 = some v5 ∧ W.cell? p6 = some v6 ∧ W.cell? p7 = some v7 ∧ W.cell? p8 = some v8 ∧ W.cell? p9 = some v9 ∧ Below w.heap.size w W) : W.drew.cell? p0 = some v0 ∧ W.drew.cell? p1 = some v1 ∧ W.drew.cell? p2 = some v2 ∧ W.drew.cell? p3 = some v3 ∧ W.drew.cell? p4 = some v4 ∧ W.drew.cell? p5 = some v5 ∧ W.drew.cell? p6 = some v6 ∧ W.drew.cell? p7 = some v7 ∧ W.drew.cell? p8 = some v8 ∧ W.drew.cell? p9 = some v9 ∧ Below w.heap.size w W.drew := keepS10_0 ((Below.refl _ _).drew) h
def first4 (a b c d : Int) : Int := if firstE a b c ≠ 0 then firstE a b c else d
theorem first4_any (a b c d : Int) (p : Nat) (w : World) (h0 : w.cell? ⟨p, 0, none⟩ = some (.int .i64 a)) (h1 : w.cell? ⟨p, 1, none⟩ = some (.int .i64 b)) (h2 : w.cell? ⟨p, 2, none⟩ = some (.int .i64 c)) (h3 : w.cell? ⟨p, 3, none⟩ = some (.int .i64 d)) :
    Calls Try.prog 29 #[.slice (some ⟨p, 0, none⟩) 4 4] w fun x w' => x = .returned (.int .i64 (first4 a b c d)) ∧ w = w' := by
  have := first_list [a, b, c, d] p 0 w (by simp) (by intro j hj; match j, hj with | 0, _ => exact h0 | 1, _ => exact h1 | 2, _ => exact h2 | 3, _ => exact h3)
  have e : firstL [a, b, c, d] = first4 a b c d := by
    unfold first4 firstE
    by_cases ha : a = 0 <;> by_cases hb : b = 0 <;> by_cases hc : c = 0 <;> simp [firstL, ha, hb, hc]
    all_goals (intro h; exact h.symm)
  rw [e] at this
  exact this
set_option maxHeartbeats 1000000 in
theorem florSafe_err (v0 v1 s0 s1 c0 c1 a0 a1 g0 g1 least : Int) (w : World) (hd : (first4 (wineE v0 v1 s0 s1 c0 c1) (rateE a0 a1 g0 g1) (numE least 0 10000) (unlE (decide (least ≤ s0)) 24) != 0) = true) :
    Calls Try.prog 28 #[.agg #[.int .i64 v0, .int .i64 v1, .int .i64 s0, .int .i64 s1, .int .i64 c0, .int .i64 c1], .agg #[.int .i64 a0, .int .i64 a1, .int .i64 g0, .int .i64 g1], .int .i64 least] w fun e w' => e = .returned (.tuple #[.int .i64 0, .int .i64 (first4 (wineE v0 v1 s0 s1 c0 c1) (rateE a0 a1 g0 g1) (numE least 0 10000) (unlE (decide (least ≤ s0)) 24))]) ∧ Below w.heap.size w w' := by
  go_enter Try.func28, Try.ntmps28
  go_upto_region 1 with fail
  go_cut [8] (fun s wx => s = .int .i64 (first4 (wineE v0 v1 s0 s1 c0 c1) (rateE a0 a1 g0 g1) (numE least 0 10000) (unlE (decide (least ≤ s0)) 24)) ∧ wx.cell? ⟨w.heap.size, 0, none⟩ = some (.int .i64 v0) ∧ wx.cell? ⟨w.heap.size, 1, none⟩ = some (.int .i64 v1) ∧ wx.cell? ⟨w.heap.size, 2, none⟩ = some (.int .i64 s0) ∧ wx.cell? ⟨w.heap.size, 3, none⟩ = some (.int .i64 s1) ∧ wx.cell? ⟨w.heap.size, 4, none⟩ = some (.int .i64 c0) ∧ wx.cell? ⟨w.heap.size, 5, none⟩ = some (.int .i64 c1) ∧ wx.cell? ⟨w.heap.size + 1, 0, none⟩ = some (.int .i64 a0) ∧ wx.cell? ⟨w.heap.size + 1, 1, none⟩ = some (.int .i64 a1) ∧ wx.cell? ⟨w.heap.size + 1, 2, none⟩ = some (.int .i64 g0) ∧ wx.cell? ⟨w.heap.size + 1, 3, none⟩ = some (.int .i64 g1) ∧ Below w.heap.size w wx)
  case first =>
    refine nameWorld (fun w' => w'.cell? ⟨w.heap.size, 0, none⟩ = some (.int .i64 v0) ∧ w'.cell? ⟨w.heap.size, 1, none⟩ = some (.int .i64 v1) ∧ w'.cell? ⟨w.heap.size, 2, none⟩ = some (.int .i64 s0) ∧ w'.cell? ⟨w.heap.size, 3, none⟩ = some (.int .i64 s1) ∧ w'.cell? ⟨w.heap.size, 4, none⟩ = some (.int .i64 c0) ∧ w'.cell? ⟨w.heap.size, 5, none⟩ = some (.int .i64 c1) ∧ w'.cell? ⟨w.heap.size + 1, 0, none⟩ = some (.int .i64 a0) ∧ w'.cell? ⟨w.heap.size + 1, 1, none⟩ = some (.int .i64 a1) ∧ w'.cell? ⟨w.heap.size + 1, 2, none⟩ = some (.int .i64 g0) ∧ w'.cell? ⟨w.heap.size + 1, 3, none⟩ = some (.int .i64 g1) ∧ Below w.heap.size w w') (by refine ⟨?_, ?_, ?_, ?_, ?_, ?_, ?_, ?_, ?_, ?_, ?_⟩ <;> first | (with_reducible assumption) | (go_grown; done) | (go_cell; done) | go_size | ((repeat first | (with_reducible assumption) | (with_reducible refine szA ?_) | (with_reducible refine szS ?_) | (with_reducible refine szD ?_)); done) | ((repeat first | (with_reducible assumption) | (with_reducible refine cvA ?_) | (with_reducible refine cvS ?_) | (with_reducible refine cvD ?_)); done) | (refine cv_of (v := .int .i64 0) ?_; go_cell; done) | (go_simp; done) | go_keep) (fun wc hc => ?_)
    obtain ⟨x0, x1, x2, x3, x4, x5, x6, x7, x8, x9, hB⟩ := hc
    go_region_held3 (fun w' => w'.cell? ⟨w.heap.size, 0, none⟩ = some (.int .i64 v0) ∧ w'.cell? ⟨w.heap.size, 1, none⟩ = some (.int .i64 v1) ∧ w'.cell? ⟨w.heap.size, 2, none⟩ = some (.int .i64 s0) ∧ w'.cell? ⟨w.heap.size, 3, none⟩ = some (.int .i64 s1) ∧ w'.cell? ⟨w.heap.size, 4, none⟩ = some (.int .i64 c0) ∧ w'.cell? ⟨w.heap.size, 5, none⟩ = some (.int .i64 c1) ∧ w'.cell? ⟨w.heap.size + 1, 0, none⟩ = some (.int .i64 a0) ∧ w'.cell? ⟨w.heap.size + 1, 1, none⟩ = some (.int .i64 a1) ∧ w'.cell? ⟨w.heap.size + 1, 2, none⟩ = some (.int .i64 g0) ∧ w'.cell? ⟨w.heap.size + 1, 3, none⟩ = some (.int .i64 g1) ∧ Below w.heap.size w w')
        (first | (with_reducible assumption) | ((with_reducible apply keepS10_0 hb1); (with_reducible assumption)) | ((with_reducible apply allocS10_0); (with_reducible assumption)) | ((with_reducible apply drewS10_0); (with_reducible assumption)) | ((try go_split_ands); (refine ⟨?_, ?_, ?_, ?_, ?_, ?_, ?_, ?_, ?_, ?_, ?_⟩ <;> first | (with_reducible assumption) | (go_grown; done) | (go_cell; done) | go_size | ((repeat first | (with_reducible assumption) | (with_reducible refine szA ?_) | (with_reducible refine szS ?_) | (with_reducible refine szD ?_)); done) | ((repeat first | (with_reducible assumption) | (with_reducible refine cvA ?_) | (with_reducible refine cvS ?_) | (with_reducible refine cvD ?_)); done) | (refine cv_of (v := .int .i64 0) ?_; go_cell; done) | (go_simp; done) | go_keep)))
        (first
          | (go_at_call 31; refine (florCheckWine_any _ _ _ _ _ _ _).mono ?_; rintro e w1 ⟨rfl, hb1⟩)
          | (go_at_call 51; refine (florCheckRate_any _ _ _ _ _).mono ?_; rintro e w1 ⟨rfl, hb1⟩)
          | (go_at_call 44; refine (florStrength_any _ _).mono ?_; rintro e w1 ⟨rfl, rfl⟩)
          | (go_at_call 30; refine (unless_any _ _ _).mono ?_; rintro e w1 ⟨rfl, rfl⟩)
          | (go_at_call 29; with_reducible first | (refine Calls.mono (first4_any _ _ _ _ _ _ (newCellD 0 _ rfl) (newCellD 1 _ rfl) (newCellD 2 _ rfl) (newCellD 3 _ rfl)) ?_; rintro e w1 ⟨rfl, rfl⟩) | (refine Calls.mono (first4_any _ _ _ _ _ _ (newCell 0 _ rfl) (newCell 1 _ rfl) (newCell 2 _ rfl) (newCell 3 _ rfl)) ?_; rintro e w1 ⟨rfl, rfl⟩)))
    all_goals (go_wp2_with fail; go_meet)
    all_goals (rename_i hS; exact ⟨rfl, hS⟩)
  case rest =>
    obtain ⟨rfl, x0, x1, x2, x3, x4, x5, x6, x7, x8, x9, hB⟩ := hcut
    go_wp2
    exact bodyPost_ret (v := .tuple #[.int .i64 0, .int .i64 (first4 (wineE v0 v1 s0 s1 c0 c1) (rateE a0 a1 g0 g1) (numE least 0 10000) (unlE (decide (least ≤ s0)) 24))]) (by simp [results, Try.results28, go_sem]) rfl ⟨rfl, hB⟩
set_option maxRecDepth 100000 in
set_option maxHeartbeats 1000000 in
theorem florSafe_ok (v0 v1 s0 s1 c0 c1 a0 a1 g0 g1 least : Int) (w : World) (n : Nat) (hd : (first4 (wineE v0 v1 s0 s1 c0 c1) (rateE a0 a1 g0 g1) (numE least 0 10000) (unlE (decide (least ≤ s0)) 24) != 0) = false) (hz : firstE (wineE v0 v1 s0 s1 c0 c1) (rateE a0 a1 g0 g1) (strE least) = 0) (hn : isSafe s0 a0 g1 least n) :
    Calls Try.prog 28 #[.agg #[.int .i64 v0, .int .i64 v1, .int .i64 s0, .int .i64 s1, .int .i64 c0, .int .i64 c1], .agg #[.int .i64 a0, .int .i64 a1, .int .i64 g0, .int .i64 g1], .int .i64 least] w fun e w' => e = .returned (.tuple #[.int .i64 n, .int .i64 0]) ∧ Below w.heap.size w w' := by
  rw [firstE_zero, wineE_zero, rateE_zero, strE_zero] at hz
  obtain ⟨⟨⟨V0, V1, V2⟩, ⟨S0, S1, S2⟩, ⟨C0, C1, C2⟩⟩, ⟨⟨A0, A1, A2⟩, ⟨G0, G1, G2⟩⟩, L0, L1⟩ := hz
  go_enter Try.func28, Try.ntmps28
  go_upto_region 1 with fail
  go_cut [8] (fun s wx => s = .int .i64 (first4 (wineE v0 v1 s0 s1 c0 c1) (rateE a0 a1 g0 g1) (numE least 0 10000) (unlE (decide (least ≤ s0)) 24)) ∧ wx.cell? ⟨w.heap.size, 0, none⟩ = some (.int .i64 v0) ∧ wx.cell? ⟨w.heap.size, 1, none⟩ = some (.int .i64 v1) ∧ wx.cell? ⟨w.heap.size, 2, none⟩ = some (.int .i64 s0) ∧ wx.cell? ⟨w.heap.size, 3, none⟩ = some (.int .i64 s1) ∧ wx.cell? ⟨w.heap.size, 4, none⟩ = some (.int .i64 c0) ∧ wx.cell? ⟨w.heap.size, 5, none⟩ = some (.int .i64 c1) ∧ wx.cell? ⟨w.heap.size + 1, 0, none⟩ = some (.int .i64 a0) ∧ wx.cell? ⟨w.heap.size + 1, 1, none⟩ = some (.int .i64 a1) ∧ wx.cell? ⟨w.heap.size + 1, 2, none⟩ = some (.int .i64 g0) ∧ wx.cell? ⟨w.heap.size + 1, 3, none⟩ = some (.int .i64 g1) ∧ Below w.heap.size w wx)
  case first =>
    refine nameWorld (fun w' => w'.cell? ⟨w.heap.size, 0, none⟩ = some (.int .i64 v0) ∧ w'.cell? ⟨w.heap.size, 1, none⟩ = some (.int .i64 v1) ∧ w'.cell? ⟨w.heap.size, 2, none⟩ = some (.int .i64 s0) ∧ w'.cell? ⟨w.heap.size, 3, none⟩ = some (.int .i64 s1) ∧ w'.cell? ⟨w.heap.size, 4, none⟩ = some (.int .i64 c0) ∧ w'.cell? ⟨w.heap.size, 5, none⟩ = some (.int .i64 c1) ∧ w'.cell? ⟨w.heap.size + 1, 0, none⟩ = some (.int .i64 a0) ∧ w'.cell? ⟨w.heap.size + 1, 1, none⟩ = some (.int .i64 a1) ∧ w'.cell? ⟨w.heap.size + 1, 2, none⟩ = some (.int .i64 g0) ∧ w'.cell? ⟨w.heap.size + 1, 3, none⟩ = some (.int .i64 g1) ∧ Below w.heap.size w w') (by refine ⟨?_, ?_, ?_, ?_, ?_, ?_, ?_, ?_, ?_, ?_, ?_⟩ <;> first | (with_reducible assumption) | (go_grown; done) | (go_cell; done) | go_size | ((repeat first | (with_reducible assumption) | (with_reducible refine szA ?_) | (with_reducible refine szS ?_) | (with_reducible refine szD ?_)); done) | ((repeat first | (with_reducible assumption) | (with_reducible refine cvA ?_) | (with_reducible refine cvS ?_) | (with_reducible refine cvD ?_)); done) | (refine cv_of (v := .int .i64 0) ?_; go_cell; done) | (go_simp; done) | go_keep) (fun wc hc => ?_)
    obtain ⟨x0, x1, x2, x3, x4, x5, x6, x7, x8, x9, hB⟩ := hc
    go_region_held3 (fun w' => w'.cell? ⟨w.heap.size, 0, none⟩ = some (.int .i64 v0) ∧ w'.cell? ⟨w.heap.size, 1, none⟩ = some (.int .i64 v1) ∧ w'.cell? ⟨w.heap.size, 2, none⟩ = some (.int .i64 s0) ∧ w'.cell? ⟨w.heap.size, 3, none⟩ = some (.int .i64 s1) ∧ w'.cell? ⟨w.heap.size, 4, none⟩ = some (.int .i64 c0) ∧ w'.cell? ⟨w.heap.size, 5, none⟩ = some (.int .i64 c1) ∧ w'.cell? ⟨w.heap.size + 1, 0, none⟩ = some (.int .i64 a0) ∧ w'.cell? ⟨w.heap.size + 1, 1, none⟩ = some (.int .i64 a1) ∧ w'.cell? ⟨w.heap.size + 1, 2, none⟩ = some (.int .i64 g0) ∧ w'.cell? ⟨w.heap.size + 1, 3, none⟩ = some (.int .i64 g1) ∧ Below w.heap.size w w')
        (first | (with_reducible assumption) | ((with_reducible apply keepS10_0 hb1); (with_reducible assumption)) | ((with_reducible apply allocS10_0); (with_reducible assumption)) | ((with_reducible apply drewS10_0); (with_reducible assumption)) | ((try go_split_ands); (refine ⟨?_, ?_, ?_, ?_, ?_, ?_, ?_, ?_, ?_, ?_, ?_⟩ <;> first | (with_reducible assumption) | (go_grown; done) | (go_cell; done) | go_size | ((repeat first | (with_reducible assumption) | (with_reducible refine szA ?_) | (with_reducible refine szS ?_) | (with_reducible refine szD ?_)); done) | ((repeat first | (with_reducible assumption) | (with_reducible refine cvA ?_) | (with_reducible refine cvS ?_) | (with_reducible refine cvD ?_)); done) | (refine cv_of (v := .int .i64 0) ?_; go_cell; done) | (go_simp; done) | go_keep)))
        (first
          | (go_at_call 31; refine (florCheckWine_any _ _ _ _ _ _ _).mono ?_; rintro e w1 ⟨rfl, hb1⟩)
          | (go_at_call 51; refine (florCheckRate_any _ _ _ _ _).mono ?_; rintro e w1 ⟨rfl, hb1⟩)
          | (go_at_call 44; refine (florStrength_any _ _).mono ?_; rintro e w1 ⟨rfl, rfl⟩)
          | (go_at_call 30; refine (unless_any _ _ _).mono ?_; rintro e w1 ⟨rfl, rfl⟩)
          | (go_at_call 29; with_reducible first | (refine Calls.mono (first4_any _ _ _ _ _ _ (newCellD 0 _ rfl) (newCellD 1 _ rfl) (newCellD 2 _ rfl) (newCellD 3 _ rfl)) ?_; rintro e w1 ⟨rfl, rfl⟩) | (refine Calls.mono (first4_any _ _ _ _ _ _ (newCell 0 _ rfl) (newCell 1 _ rfl) (newCell 2 _ rfl) (newCell 3 _ rfl)) ?_; rintro e w1 ⟨rfl, rfl⟩)))
    all_goals (go_wp2_with fail; go_meet)
    all_goals (rename_i hS; exact ⟨rfl, hS⟩)
  case rest =>
    obtain ⟨rfl, x0, x1, x2, x3, x4, x5, x6, x7, x8, x9, hB⟩ := hcut
    go_wp2_with fail
    go_loopw [9] (fun d wr => ∃ k : Nat, k ≤ n ∧ d = .int .i64 k ∧ wr.cell? ⟨w.heap.size, 0, none⟩ = some (.int .i64 v0) ∧ wr.cell? ⟨w.heap.size, 1, none⟩ = some (.int .i64 v1) ∧ wr.cell? ⟨w.heap.size, 2, none⟩ = some (.int .i64 s0) ∧ wr.cell? ⟨w.heap.size, 3, none⟩ = some (.int .i64 s1) ∧ wr.cell? ⟨w.heap.size, 4, none⟩ = some (.int .i64 c0) ∧ wr.cell? ⟨w.heap.size, 5, none⟩ = some (.int .i64 c1) ∧ wr.cell? ⟨w.heap.size + 1, 0, none⟩ = some (.int .i64 a0) ∧ wr.cell? ⟨w.heap.size + 1, 1, none⟩ = some (.int .i64 a1) ∧ wr.cell? ⟨w.heap.size + 1, 2, none⟩ = some (.int .i64 g0) ∧ wr.cell? ⟨w.heap.size + 1, 3, none⟩ = some (.int .i64 g1) ∧ Below w.heap.size w wr)
      (fun d _ => 400 - (intOf d).toNat)
    case atStart => exact ⟨0, Nat.zero_le _, rfl, x0, x1, x2, x3, x4, x5, x6, x7, x8, x9, hB⟩
    case round =>
      clear hB x0 x1 x2 x3 x4 x5 x6 x7 x8 x9
      obtain ⟨k, hk, rfl, x0, x1, x2, x3, x4, x5, x6, x7, x8, x9, hB⟩ := hrel
      have u0 : IntKind.i64.wrap ((k : Int) + 1) = (k : Int) + 1 := IntWalk.i64_in _ (by have := hn.1; omega)
      have hS1 := Lib.hid (fun (w : World) (hk : (k : Int) < 365) => strengthAfter_any v0 v1 s0 s1 c0 c1 a0 a1 g0 g1 ((k : Int) + 1) w (by omega) (by omega) (by omega) (by omega) (by omega) (by omega) (by omega) (by omega) (by omega) (by omega) (by omega) (by omega) (by omega) (by omega))
      have hfd := field_lo
      by_cases c : k < n
      · have g : least ≤ fl (s0 * lft g1 ((k : Int) + 1)) (lft a0 ((k : Int) + 1)) := hn.2.1 k c
        have hlt : (k : Int) < 365 := by have := hn.1; omega
        go_wp2_with (go_at_call 56; refine ((hS1.out _ (by assumption))).mono ?_; rintro e w1 ⟨rfl, hb1⟩; have z0 := keepC hb1 x0; have z1 := keepC hb1 x1; have z2 := keepC hb1 x2; have z3 := keepC hb1 x3; have z4 := keepC hb1 x4; have z5 := keepC hb1 x5; have z6 := keepC hb1 x6; have z7 := keepC hb1 x7; have z8 := keepC hb1 x8; have z9 := keepC hb1 x9; have hB2 := belowSeq hb1 hB)
        go_roundw
        case rel => exact ⟨k + 1, by omega, by go_num, z0, z1, z2, z3, z4, z5, z6, z7, z8, z9, hB2⟩
        case measure => simp [intOf]; omega
      · have e : k = n := by omega
        subst e
        by_cases q : k = 365
        · have hge : ¬ (k : Int) < 365 := by omega
          have Q := Lib.hid q
          clear q
          go_wp2
          exact bodyPost_ret (v := .tuple #[.int .i64 k, .int .i64 0]) (by simp [results, Try.results28, go_sem]) rfl ⟨rfl, hB⟩
        · have hlt : (k : Int) < 365 := by have := hn.1; omega
          have g : fl (s0 * lft g1 ((k : Int) + 1)) (lft a0 ((k : Int) + 1)) < least := hn.2.2.resolve_left q
          go_wp2_with (go_at_call 56; refine ((hS1.out _ (by assumption))).mono ?_; rintro e w1 ⟨rfl, hb1⟩; have z0 := keepC hb1 x0; have z1 := keepC hb1 x1; have z2 := keepC hb1 x2; have z3 := keepC hb1 x3; have z4 := keepC hb1 x4; have z5 := keepC hb1 x5; have z6 := keepC hb1 x6; have z7 := keepC hb1 x7; have z8 := keepC hb1 x8; have z9 := keepC hb1 x9; have hB2 := belowSeq hb1 hB)
          exact bodyPost_ret (v := .tuple #[.int .i64 k, .int .i64 0]) (by simp [results, Try.results28, go_sem]) rfl ⟨rfl, hB2⟩
set_option maxHeartbeats 1000000 in
theorem florSafe_wrong (v0 v1 s0 s1 c0 c1 a0 a1 g0 g1 least : Int) (w : World) (h : (firstE (wineE v0 v1 s0 s1 c0 c1) (rateE a0 a1 g0 g1) (strE least) != 0) = true) :
    Calls Try.prog 28 #[.agg #[.int .i64 v0, .int .i64 v1, .int .i64 s0, .int .i64 s1, .int .i64 c0, .int .i64 c1], .agg #[.int .i64 a0, .int .i64 a1, .int .i64 g0, .int .i64 g1], .int .i64 least] w fun e w' => e = .returned (.tuple #[.int .i64 0, .int .i64 (firstE (wineE v0 v1 s0 s1 c0 c1) (rateE a0 a1 g0 g1) (strE least))]) ∧ Below w.heap.size w w' := by
  have hv : first4 (wineE v0 v1 s0 s1 c0 c1) (rateE a0 a1 g0 g1) (numE least 0 10000) (unlE (decide (least ≤ s0)) 24) = firstE (wineE v0 v1 s0 s1 c0 c1) (rateE a0 a1 g0 g1) (strE least) := by
    have hs : numE least 0 10000 = strE least := rfl
    rw [first4, hs, if_pos (by simpa using h)]
  rw [← hv] at h ⊢
  exact florSafe_err _ _ _ _ _ _ _ _ _ _ _ w h
set_option maxHeartbeats 1000000 in
theorem florSafe_break (v0 v1 s0 s1 c0 c1 a0 a1 g0 g1 least : Int) (w : World) (h : (firstE (wineE v0 v1 s0 s1 c0 c1) (rateE a0 a1 g0 g1) (strE least) != 0) = false) (hl : s0 < least) :
    Calls Try.prog 28 #[.agg #[.int .i64 v0, .int .i64 v1, .int .i64 s0, .int .i64 s1, .int .i64 c0, .int .i64 c1], .agg #[.int .i64 a0, .int .i64 a1, .int .i64 g0, .int .i64 g1], .int .i64 least] w fun e w' => e = .returned (.tuple #[.int .i64 0, .int .i64 24]) ∧ Below w.heap.size w w' := by
  have hv : first4 (wineE v0 v1 s0 s1 c0 c1) (rateE a0 a1 g0 g1) (numE least 0 10000) (unlE (decide (least ≤ s0)) 24) = 24 := by
    have hs : numE least 0 10000 = strE least := rfl
    rw [first4, hs, if_neg (by simpa using h)]
    have : ¬ least ≤ s0 := by omega
    simp [unlE, this]
  have := florSafe_err v0 v1 s0 s1 c0 c1 a0 a1 g0 g1 least w (by rw [hv]; rfl)
  rwa [hv] at this
set_option maxHeartbeats 1000000 in
theorem florSafe_fine (v0 v1 s0 s1 c0 c1 a0 a1 g0 g1 least : Int) (w : World) (n : Nat) (h : (firstE (wineE v0 v1 s0 s1 c0 c1) (rateE a0 a1 g0 g1) (strE least) != 0) = false) (hl : least ≤ s0) (hn : isSafe s0 a0 g1 least n) :
    Calls Try.prog 28 #[.agg #[.int .i64 v0, .int .i64 v1, .int .i64 s0, .int .i64 s1, .int .i64 c0, .int .i64 c1], .agg #[.int .i64 a0, .int .i64 a1, .int .i64 g0, .int .i64 g1], .int .i64 least] w fun e w' => e = .returned (.tuple #[.int .i64 n, .int .i64 0]) ∧ Below w.heap.size w w' := by
  have hv : first4 (wineE v0 v1 s0 s1 c0 c1) (rateE a0 a1 g0 g1) (numE least 0 10000) (unlE (decide (least ≤ s0)) 24) = 0 := by
    have hs : numE least 0 10000 = strE least := rfl
    rw [first4, hs, if_neg (by simpa using h)]
    simp [unlE, hl]
  exact florSafe_ok _ _ _ _ _ _ _ _ _ _ _ w n (by rw [hv]; rfl) (by simpa using h) hn
end Go.Proofs.Ytbijhcoloajjaaa
