/- LegalIs: flor's own, and the reference's of right ones. -/
import Derived.Test.YtbijhcoloajjaaaF11
import Derived.Test.YtbijhcoloajjaaaF5
namespace Go.Proofs.Ytbijhcoloajjaaa
open Go.RowKit

theorem keepS10_0 {w W w1 : World} {p0 p1 p2 p3 p4 p5 p6 p7 p8 p9 : Addr} {v0 v1 v2 v3 v4 v5 v6 v7 v8 v9 : Value} (hb : Below W.heap.size W w1) (h : W.cell? p0 = some v0 ∧ W.cell? p1 = some v1 ∧ W.cell? p2 = some v2 ∧ W.cell? p3 = some v3 ∧ W.cell? p4 = some v4 ∧ W.cell? p5 = some v5 ∧ W.cell? p6 = some v6 ∧ W.cell? p7 = some v7 ∧ W.cell? p8 = some v8 ∧ W.cell? p9 = some v9 ∧ Below w.heap.size w W) : w1.cell? p0 = some v0 ∧ w1.cell? p1 = some v1 ∧ w1.cell? p2 = some v2 ∧ w1.cell? p3 = some v3 ∧ w1.cell? p4 = some v4 ∧ w1.cell? p5 = some v5 ∧ w1.cell? p6 = some v6 ∧ w1.cell? p7 = some v7 ∧ w1.cell? p8 = some v8 ∧ w1.cell? p9 = some v9 ∧ Below w.heap.size w w1 := by
  obtain ⟨h0, h1, h2, h3, h4, h5, h6, h7, h8, h9, hB⟩ := h
  exact ⟨keepC hb h0, keepC hb h1, keepC hb h2, keepC hb h3, keepC hb h4, keepC hb h5, keepC hb h6, keepC hb h7, keepC hb h8, keepC hb h9, belowSeq hb hB⟩
theorem allocS10_0 {w W : World} {o : Obj} {p0 p1 p2 p3 p4 p5 p6 p7 p8 p9 : Addr} {v0 v1 v2 v3 v4 v5 v6 v7 v8 v9 : Value} (h : W.cell? p0 = some v0 ∧ W.cell? p1 = some v1 ∧ W.cell? p2 = some v2 ∧ W.cell? p3 = some v3 ∧ W.cell? p4 = some v4 ∧ W.cell? p5 = some v5 ∧ W.cell? p6 = some v6 ∧ W.cell? p7 = some v7 ∧ W.cell? p8 = some v8 ∧ W.cell? p9 = some v9 ∧ Below w.heap.size w W) : (W.alloc o).cell? p0 = some v0 ∧ (W.alloc o).cell? p1 = some v1 ∧ (W.alloc o).cell? p2 = some v2 ∧ (W.alloc o).cell? p3 = some v3 ∧ (W.alloc o).cell? p4 = some v4 ∧ (W.alloc o).cell? p5 = some v5 ∧ (W.alloc o).cell? p6 = some v6 ∧ (W.alloc o).cell? p7 = some v7 ∧ (W.alloc o).cell? p8 = some v8 ∧ (W.alloc o).cell? p9 = some v9 ∧ Below w.heap.size w (W.alloc o) := keepS10_0 ((Below.refl _ _).alloc (Nat.le_refl _) o) h
theorem drewS10_0 {w W : World} {p0 p1 p2 p3 p4 p5 p6 p7 p8 p9 : Addr} {v0 v1 v2 v3 v4 v5 v6 v7 v8 v9 : Value} (h : W.cell? p0 = some v0 ∧ W.cell? p1 = some v1 ∧ W.cell? p2 = some v2 ∧ W.cell? p3 = some v3 ∧ W.cell? p4 = some v4 ∧ W.cell? p5 = some v5 ∧ W.cell? p6 = some v6 ∧ W.cell? p7 = some v7 ∧ W.cell? p8 = some v8 ∧ W.cell? p9 = some v9 ∧ Below w.heap.size w W) : W.drew.cell? p0 = some v0 ∧ W.drew.cell? p1 = some v1 ∧ W.drew.cell? p2 = some v2 ∧ W.drew.cell? p3 = some v3 ∧ W.drew.cell? p4 = some v4 ∧ W.drew.cell? p5 = some v5 ∧ W.drew.cell? p6 = some v6 ∧ W.drew.cell? p7 = some v7 ∧ W.drew.cell? p8 = some v8 ∧ W.drew.cell? p9 = some v9 ∧ Below w.heap.size w W.drew := keepS10_0 ((Below.refl _ _).drew) h
def ans2 (s0 s1 p0 p1 c0 c1 q0 q1 : Int) : Int := if mn s1 p1 < mx s0 p0 then 0 else if mn c1 q1 < mx c0 q0 then 0 else if inR c0 c1 q0 q1 then (if inR s0 s1 p0 p1 then 2 else 1) else 1
def f8 (a0 a1 a2 a3 b0 b1 b2 b3 : Int) : Nat → Nat → Int
  | 0, 0 => a0 | 0, 1 => a1 | 0, 2 => a2 | 0, _ => a3
  | _, 0 => b0 | _, 1 => b1 | _, 2 => b2 | _, _ => b3
theorem answer2_any (s0 s1 p0 p1 c0 c1 q0 q1 : Int) (b : Nat) (w : World) (h0 : w.cell? ⟨b, 0, none⟩ = some (.int .i64 s0)) (h1 : w.cell? ⟨b, 1, none⟩ = some (.int .i64 s1)) (h2 : w.cell? ⟨b, 2, none⟩ = some (.int .i64 p0)) (h3 : w.cell? ⟨b, 3, none⟩ = some (.int .i64 p1)) (h4 : w.cell? ⟨b, 4, none⟩ = some (.int .i64 c0)) (h5 : w.cell? ⟨b, 5, none⟩ = some (.int .i64 c1)) (h6 : w.cell? ⟨b, 6, none⟩ = some (.int .i64 q0)) (h7 : w.cell? ⟨b, 7, none⟩ = some (.int .i64 q1)) :
    Calls Try.prog 55 #[.slice (some ⟨b, 0, none⟩) 2 2] w fun e w' => e = .returned (.int .i64 (ans2 s0 s1 p0 p1 c0 c1 q0 q1)) ∧ Below w.heap.size w w' := by
  have := answer_list 2 (f8 s0 s1 p0 p1 c0 c1 q0 q1) b 0 w (by omega) (by
    intro j i hj hi
    match j, i, hj, hi with
    | 0, 0, _, _ => exact h0
    | 0, 1, _, _ => exact h1
    | 0, 2, _, _ => exact h2
    | 0, 3, _, _ => exact h3
    | 1, 0, _, _ => exact h4
    | 1, 1, _, _ => exact h5
    | 1, 2, _, _ => exact h6
    | 1, 3, _, _ => exact h7)
  exact this
theorem mx_eq {a b : Int} : mx a b = a ↔ b ≤ a := by unfold mx; split <;> omega
theorem mn_eq {a b : Int} : mn a b = a ↔ a ≤ b := by unfold mn; split <;> omega
theorem lgR_ans (s0 s1 c0 c1 p0 p1 q0 q1 : Int) : lgR s0 s1 c0 c1 p0 p1 q0 q1 = ans2 s0 s1 p0 p1 c0 c1 q0 q1 := by
  unfold lgR ans2
  simp only [mx_eq, mn_eq, inR, Bool.and_eq_true, decide_eq_true_eq]
  by_cases a : mn s1 p1 < mx s0 p0 <;> by_cases b : mn c1 q1 < mx c0 q0 <;> by_cases c : p0 ≤ s0 ∧ s1 ≤ p1 <;> by_cases d : q0 ≤ c0 ∧ c1 ≤ q1 <;> simp [a, b, c, d]
set_option maxHeartbeats 1000000 in
theorem florLegal_wrong (v0 v1 s0 s1 c0 c1 p0 p1 q0 q1 : Int) (w : World) (hd : (firstE (wineE v0 v1 s0 s1 c0 c1) (lawE p0 p1 q0 q1) 0 != 0) = true) :
    Calls Try.prog 25 #[.agg #[.int .i64 v0, .int .i64 v1, .int .i64 s0, .int .i64 s1, .int .i64 c0, .int .i64 c1], .agg #[.int .i64 p0, .int .i64 p1, .int .i64 q0, .int .i64 q1]] w fun e w' => e = .returned (.tuple #[.int .i64 0, .int .i64 (firstE (wineE v0 v1 s0 s1 c0 c1) (lawE p0 p1 q0 q1) 0)]) ∧ Below w.heap.size w w' := by
  go_enter Try.func25, Try.ntmps25
  go_upto_region 1 with fail
  go_cut [6] (fun s wx => s = .int .i64 (firstE (wineE v0 v1 s0 s1 c0 c1) (lawE p0 p1 q0 q1) 0) ∧ wx.cell? ⟨w.heap.size, 0, none⟩ = some (.int .i64 v0) ∧ wx.cell? ⟨w.heap.size, 1, none⟩ = some (.int .i64 v1) ∧ wx.cell? ⟨w.heap.size, 2, none⟩ = some (.int .i64 s0) ∧ wx.cell? ⟨w.heap.size, 3, none⟩ = some (.int .i64 s1) ∧ wx.cell? ⟨w.heap.size, 4, none⟩ = some (.int .i64 c0) ∧ wx.cell? ⟨w.heap.size, 5, none⟩ = some (.int .i64 c1) ∧ wx.cell? ⟨w.heap.size + 1, 0, none⟩ = some (.int .i64 p0) ∧ wx.cell? ⟨w.heap.size + 1, 1, none⟩ = some (.int .i64 p1) ∧ wx.cell? ⟨w.heap.size + 1, 2, none⟩ = some (.int .i64 q0) ∧ wx.cell? ⟨w.heap.size + 1, 3, none⟩ = some (.int .i64 q1) ∧ Below w.heap.size w wx)
  case first =>
    refine nameWorld (fun w' => w'.cell? ⟨w.heap.size, 0, none⟩ = some (.int .i64 v0) ∧ w'.cell? ⟨w.heap.size, 1, none⟩ = some (.int .i64 v1) ∧ w'.cell? ⟨w.heap.size, 2, none⟩ = some (.int .i64 s0) ∧ w'.cell? ⟨w.heap.size, 3, none⟩ = some (.int .i64 s1) ∧ w'.cell? ⟨w.heap.size, 4, none⟩ = some (.int .i64 c0) ∧ w'.cell? ⟨w.heap.size, 5, none⟩ = some (.int .i64 c1) ∧ w'.cell? ⟨w.heap.size + 1, 0, none⟩ = some (.int .i64 p0) ∧ w'.cell? ⟨w.heap.size + 1, 1, none⟩ = some (.int .i64 p1) ∧ w'.cell? ⟨w.heap.size + 1, 2, none⟩ = some (.int .i64 q0) ∧ w'.cell? ⟨w.heap.size + 1, 3, none⟩ = some (.int .i64 q1) ∧ Below w.heap.size w w') (by refine ⟨?_, ?_, ?_, ?_, ?_, ?_, ?_, ?_, ?_, ?_, ?_⟩ <;> first | (with_reducible assumption) | (go_grown; done) | (go_cell; done) | go_size | ((repeat first | (with_reducible assumption) | (with_reducible refine szA ?_) | (with_reducible refine szS ?_) | (with_reducible refine szD ?_)); done) | ((repeat first | (with_reducible assumption) | (with_reducible refine cvA ?_) | (with_reducible refine cvS ?_) | (with_reducible refine cvD ?_)); done) | (refine cv_of (v := .int .i64 0) ?_; go_cell; done) | (go_simp; done) | go_keep) (fun wc hc => ?_)
    obtain ⟨x0, x1, x2, x3, x4, x5, x6, x7, x8, x9, hB⟩ := hc
    go_region_held3 (fun w' => w'.cell? ⟨w.heap.size, 0, none⟩ = some (.int .i64 v0) ∧ w'.cell? ⟨w.heap.size, 1, none⟩ = some (.int .i64 v1) ∧ w'.cell? ⟨w.heap.size, 2, none⟩ = some (.int .i64 s0) ∧ w'.cell? ⟨w.heap.size, 3, none⟩ = some (.int .i64 s1) ∧ w'.cell? ⟨w.heap.size, 4, none⟩ = some (.int .i64 c0) ∧ w'.cell? ⟨w.heap.size, 5, none⟩ = some (.int .i64 c1) ∧ w'.cell? ⟨w.heap.size + 1, 0, none⟩ = some (.int .i64 p0) ∧ w'.cell? ⟨w.heap.size + 1, 1, none⟩ = some (.int .i64 p1) ∧ w'.cell? ⟨w.heap.size + 1, 2, none⟩ = some (.int .i64 q0) ∧ w'.cell? ⟨w.heap.size + 1, 3, none⟩ = some (.int .i64 q1) ∧ Below w.heap.size w w')
        (first | (with_reducible assumption) | ((with_reducible apply keepS10_0 hb1); (with_reducible assumption)) | ((with_reducible apply allocS10_0); (with_reducible assumption)) | ((with_reducible apply drewS10_0); (with_reducible assumption)) | ((try go_split_ands); (refine ⟨?_, ?_, ?_, ?_, ?_, ?_, ?_, ?_, ?_, ?_, ?_⟩ <;> first | (with_reducible assumption) | (go_grown; done) | (go_cell; done) | go_size | ((repeat first | (with_reducible assumption) | (with_reducible refine szA ?_) | (with_reducible refine szS ?_) | (with_reducible refine szD ?_)); done) | ((repeat first | (with_reducible assumption) | (with_reducible refine cvA ?_) | (with_reducible refine cvS ?_) | (with_reducible refine cvD ?_)); done) | (refine cv_of (v := .int .i64 0) ?_; go_cell; done) | (go_simp; done) | go_keep)))
        (first
          | (go_at_call 31; refine (florCheckWine_any _ _ _ _ _ _ _).mono ?_; rintro e w1 ⟨rfl, hb1⟩)
          | (go_at_call 54; refine (florCheckLaw_any _ _ _ _ _).mono ?_; rintro e w1 ⟨rfl, hb1⟩)
          | (go_at_call 29; with_reducible first | (refine Calls.mono (first2_any _ _ _ _ (newCellD 0 _ rfl) (newCellD 1 _ rfl)) ?_; rintro e w1 ⟨rfl, rfl⟩) | (refine Calls.mono (first2_any _ _ _ _ (newCell 0 _ rfl) (newCell 1 _ rfl)) ?_; rintro e w1 ⟨rfl, rfl⟩)))
    all_goals (go_wp2_with fail; go_meet)
    all_goals (rename_i hS; exact ⟨rfl, hS⟩)
  case rest =>
    obtain ⟨rfl, x0, x1, x2, x3, x4, x5, x6, x7, x8, x9, hB⟩ := hcut
    go_wp2
    exact bodyPost_ret (v := .tuple #[.int .i64 0, .int .i64 (firstE (wineE v0 v1 s0 s1 c0 c1) (lawE p0 p1 q0 q1) 0)]) (by simp [results, Try.results25, go_sem]) rfl ⟨rfl, hB⟩
set_option maxHeartbeats 1000000 in
theorem florLegal_right (v0 v1 s0 s1 c0 c1 p0 p1 q0 q1 : Int) (w : World) (hd : (firstE (wineE v0 v1 s0 s1 c0 c1) (lawE p0 p1 q0 q1) 0 != 0) = false) :
    Calls Try.prog 25 #[.agg #[.int .i64 v0, .int .i64 v1, .int .i64 s0, .int .i64 s1, .int .i64 c0, .int .i64 c1], .agg #[.int .i64 p0, .int .i64 p1, .int .i64 q0, .int .i64 q1]] w fun e w' => e = .returned (.tuple #[.int .i64 (lgR s0 s1 c0 c1 p0 p1 q0 q1), .int .i64 0]) ∧ Below w.heap.size w w' := by
  rw [lgR_ans]
  go_enter Try.func25, Try.ntmps25
  go_upto_region 1 with fail
  go_cut [6] (fun s wx => s = .int .i64 (firstE (wineE v0 v1 s0 s1 c0 c1) (lawE p0 p1 q0 q1) 0) ∧ wx.cell? ⟨w.heap.size, 0, none⟩ = some (.int .i64 v0) ∧ wx.cell? ⟨w.heap.size, 1, none⟩ = some (.int .i64 v1) ∧ wx.cell? ⟨w.heap.size, 2, none⟩ = some (.int .i64 s0) ∧ wx.cell? ⟨w.heap.size, 3, none⟩ = some (.int .i64 s1) ∧ wx.cell? ⟨w.heap.size, 4, none⟩ = some (.int .i64 c0) ∧ wx.cell? ⟨w.heap.size, 5, none⟩ = some (.int .i64 c1) ∧ wx.cell? ⟨w.heap.size + 1, 0, none⟩ = some (.int .i64 p0) ∧ wx.cell? ⟨w.heap.size + 1, 1, none⟩ = some (.int .i64 p1) ∧ wx.cell? ⟨w.heap.size + 1, 2, none⟩ = some (.int .i64 q0) ∧ wx.cell? ⟨w.heap.size + 1, 3, none⟩ = some (.int .i64 q1) ∧ Below w.heap.size w wx)
  case first =>
    refine nameWorld (fun w' => w'.cell? ⟨w.heap.size, 0, none⟩ = some (.int .i64 v0) ∧ w'.cell? ⟨w.heap.size, 1, none⟩ = some (.int .i64 v1) ∧ w'.cell? ⟨w.heap.size, 2, none⟩ = some (.int .i64 s0) ∧ w'.cell? ⟨w.heap.size, 3, none⟩ = some (.int .i64 s1) ∧ w'.cell? ⟨w.heap.size, 4, none⟩ = some (.int .i64 c0) ∧ w'.cell? ⟨w.heap.size, 5, none⟩ = some (.int .i64 c1) ∧ w'.cell? ⟨w.heap.size + 1, 0, none⟩ = some (.int .i64 p0) ∧ w'.cell? ⟨w.heap.size + 1, 1, none⟩ = some (.int .i64 p1) ∧ w'.cell? ⟨w.heap.size + 1, 2, none⟩ = some (.int .i64 q0) ∧ w'.cell? ⟨w.heap.size + 1, 3, none⟩ = some (.int .i64 q1) ∧ Below w.heap.size w w') (by refine ⟨?_, ?_, ?_, ?_, ?_, ?_, ?_, ?_, ?_, ?_, ?_⟩ <;> first | (with_reducible assumption) | (go_grown; done) | (go_cell; done) | go_size | ((repeat first | (with_reducible assumption) | (with_reducible refine szA ?_) | (with_reducible refine szS ?_) | (with_reducible refine szD ?_)); done) | ((repeat first | (with_reducible assumption) | (with_reducible refine cvA ?_) | (with_reducible refine cvS ?_) | (with_reducible refine cvD ?_)); done) | (refine cv_of (v := .int .i64 0) ?_; go_cell; done) | (go_simp; done) | go_keep) (fun wc hc => ?_)
    obtain ⟨x0, x1, x2, x3, x4, x5, x6, x7, x8, x9, hB⟩ := hc
    go_region_held3 (fun w' => w'.cell? ⟨w.heap.size, 0, none⟩ = some (.int .i64 v0) ∧ w'.cell? ⟨w.heap.size, 1, none⟩ = some (.int .i64 v1) ∧ w'.cell? ⟨w.heap.size, 2, none⟩ = some (.int .i64 s0) ∧ w'.cell? ⟨w.heap.size, 3, none⟩ = some (.int .i64 s1) ∧ w'.cell? ⟨w.heap.size, 4, none⟩ = some (.int .i64 c0) ∧ w'.cell? ⟨w.heap.size, 5, none⟩ = some (.int .i64 c1) ∧ w'.cell? ⟨w.heap.size + 1, 0, none⟩ = some (.int .i64 p0) ∧ w'.cell? ⟨w.heap.size + 1, 1, none⟩ = some (.int .i64 p1) ∧ w'.cell? ⟨w.heap.size + 1, 2, none⟩ = some (.int .i64 q0) ∧ w'.cell? ⟨w.heap.size + 1, 3, none⟩ = some (.int .i64 q1) ∧ Below w.heap.size w w')
        (first | (with_reducible assumption) | ((with_reducible apply keepS10_0 hb1); (with_reducible assumption)) | ((with_reducible apply allocS10_0); (with_reducible assumption)) | ((with_reducible apply drewS10_0); (with_reducible assumption)) | ((try go_split_ands); (refine ⟨?_, ?_, ?_, ?_, ?_, ?_, ?_, ?_, ?_, ?_, ?_⟩ <;> first | (with_reducible assumption) | (go_grown; done) | (go_cell; done) | go_size | ((repeat first | (with_reducible assumption) | (with_reducible refine szA ?_) | (with_reducible refine szS ?_) | (with_reducible refine szD ?_)); done) | ((repeat first | (with_reducible assumption) | (with_reducible refine cvA ?_) | (with_reducible refine cvS ?_) | (with_reducible refine cvD ?_)); done) | (refine cv_of (v := .int .i64 0) ?_; go_cell; done) | (go_simp; done) | go_keep)))
        (first
          | (go_at_call 31; refine (florCheckWine_any _ _ _ _ _ _ _).mono ?_; rintro e w1 ⟨rfl, hb1⟩)
          | (go_at_call 54; refine (florCheckLaw_any _ _ _ _ _).mono ?_; rintro e w1 ⟨rfl, hb1⟩)
          | (go_at_call 29; with_reducible first | (refine Calls.mono (first2_any _ _ _ _ (newCellD 0 _ rfl) (newCellD 1 _ rfl)) ?_; rintro e w1 ⟨rfl, rfl⟩) | (refine Calls.mono (first2_any _ _ _ _ (newCell 0 _ rfl) (newCell 1 _ rfl)) ?_; rintro e w1 ⟨rfl, rfl⟩)))
    all_goals (go_wp2_with fail; go_meet)
    all_goals (rename_i hS; exact ⟨rfl, hS⟩)
  case rest =>
    obtain ⟨rfl, x0, x1, x2, x3, x4, x5, x6, x7, x8, x9, hB⟩ := hcut
    go_wp2_with (go_at_call 55; with_reducible first | (refine Calls.mono (answer2_any _ _ _ _ _ _ _ _ _ _ (newCell 0 _ rfl) (newCell 1 _ rfl) (newCell 2 _ rfl) (newCell 3 _ rfl) (newCell 4 _ rfl) (newCell 5 _ rfl) (newCell 6 _ rfl) (newCell 7 _ rfl)) ?_; rintro e w3 ⟨rfl, hb3⟩; have hB3 := belowSeq hb3 (hB.alloc hB.size _)) | (refine Calls.mono (answer2_any _ _ _ _ _ _ _ _ _ _ (newCellD 0 _ rfl) (newCellD 1 _ rfl) (newCellD 2 _ rfl) (newCellD 3 _ rfl) (newCellD 4 _ rfl) (newCellD 5 _ rfl) (newCellD 6 _ rfl) (newCellD 7 _ rfl)) ?_; rintro e w3 ⟨rfl, hb3⟩; have hB3 := belowSeq hb3 (hB.alloc hB.size _)))
    exact bodyPost_ret (v := .tuple #[.int .i64 (ans2 s0 s1 p0 p1 c0 c1 q0 q1), .int .i64 0]) (by simp [results, Try.results25, go_sem]) rfl ⟨rfl, hB3⟩
end Go.Proofs.Ytbijhcoloajjaaa
