/- Contracts of the reference of chapter 3: common, LegalIs. -/
import Derived.Test.YtcpkoapkmjcigaaR5
namespace Go.Proofs.Ytcpkoapkmjcigaa
open Go.RowKit

def mx (a b : Int) : Int := if a < b then b else a
def mn (a b : Int) : Int := if b < a then b else a
theorem common_any (a0 a1 b0 b1 : Int) (w : World) :
    Calls Try.prog 88 #[.agg #[.int .i64 a0, .int .i64 a1], .agg #[.int .i64 b0, .int .i64 b1]] w fun e w' => e = .returned (.agg #[.int .i64 (mx a0 b0), .int .i64 (mn a1 b1)]) ∧ Below w.heap.size w w' := by
  go_enter Try.func88, Try.ntmps88
  go_wp2
  all_goals go_returns
  all_goals refine ⟨?_, by go_grown⟩
  all_goals (by_cases p : a0 < b0 <;> by_cases q : b1 < a1 <;> simp [mx, mn, p, q] <;> omega)
/-- what LegalIs answers of a right wine and a right law -/
def lgR (s0 s1 c0 c1 p0 p1 q0 q1 : Int) : Int := if mn s1 p1 < mx s0 p0 ∨ mn c1 q1 < mx c0 q0 then 0 else if (mx s0 p0 = s0 ∧ mn s1 p1 = s1) ∧ mx c0 q0 = c0 ∧ mn c1 q1 = c1 then 2 else 1
set_option maxHeartbeats 2000000 in
set_option maxRecDepth 100000 in
theorem legal_wrong (v0 v1 s0 s1 c0 c1 p0 p1 q0 q1 : Int) (w : World) (h : (firstE (wineE v0 v1 s0 s1 c0 c1) (lawE p0 p1 q0 q1) 0 != 0) = true) :
    Calls Try.prog 39 #[.agg #[.int .i64 v0, .int .i64 v1, .int .i64 s0, .int .i64 s1, .int .i64 c0, .int .i64 c1], .agg #[.int .i64 p0, .int .i64 p1, .int .i64 q0, .int .i64 q1]] w fun e w' => e = .returned (.tuple #[.int .i64 0, .int .i64 (firstE (wineE v0 v1 s0 s1 c0 c1) (lawE p0 p1 q0 q1) 0)]) ∧ Below w.heap.size w w' := by
  go_enter Try.func39, Try.ntmps39
  go_wp2_with fail
  refine nameWorld (fun w' => w'.cell? ⟨w.heap.size, 0, none⟩ = some (.int .i64 v0) ∧ w'.cell? ⟨w.heap.size, 1, none⟩ = some (.int .i64 v1) ∧ w'.cell? ⟨w.heap.size, 2, none⟩ = some (.int .i64 s0) ∧ w'.cell? ⟨w.heap.size, 3, none⟩ = some (.int .i64 s1) ∧ w'.cell? ⟨w.heap.size, 4, none⟩ = some (.int .i64 c0) ∧ w'.cell? ⟨w.heap.size, 5, none⟩ = some (.int .i64 c1) ∧ w'.cell? ⟨w.heap.size + 1, 0, none⟩ = some (.int .i64 p0) ∧ w'.cell? ⟨w.heap.size + 1, 1, none⟩ = some (.int .i64 p1) ∧ w'.cell? ⟨w.heap.size + 1, 2, none⟩ = some (.int .i64 q0) ∧ w'.cell? ⟨w.heap.size + 1, 3, none⟩ = some (.int .i64 q1) ∧ Below w.heap.size w w') (by refine ⟨?_, ?_, ?_, ?_, ?_, ?_, ?_, ?_, ?_, ?_, ?_⟩ <;> first | (with_reducible assumption) | (go_grown; done) | (go_cell; done) | go_size | ((repeat first | (with_reducible assumption) | (with_reducible refine szA ?_) | (with_reducible refine szS ?_) | (with_reducible refine szD ?_)); done) | ((repeat first | (with_reducible assumption) | (with_reducible refine cvA ?_) | (with_reducible refine cvS ?_) | (with_reducible refine cvD ?_)); done) | (refine cv_of (v := .int .i64 0) ?_; go_cell; done) | (go_simp; done) | go_keep) (fun wc hc => ?_)
  obtain ⟨x0, x1, x2, x3, x4, x5, x6, x7, x8, x9, hB⟩ := hc
  go_region_held3 (fun w' => w'.cell? ⟨w.heap.size, 0, none⟩ = some (.int .i64 v0) ∧ w'.cell? ⟨w.heap.size, 1, none⟩ = some (.int .i64 v1) ∧ w'.cell? ⟨w.heap.size, 2, none⟩ = some (.int .i64 s0) ∧ w'.cell? ⟨w.heap.size, 3, none⟩ = some (.int .i64 s1) ∧ w'.cell? ⟨w.heap.size, 4, none⟩ = some (.int .i64 c0) ∧ w'.cell? ⟨w.heap.size, 5, none⟩ = some (.int .i64 c1) ∧ w'.cell? ⟨w.heap.size + 1, 0, none⟩ = some (.int .i64 p0) ∧ w'.cell? ⟨w.heap.size + 1, 1, none⟩ = some (.int .i64 p1) ∧ w'.cell? ⟨w.heap.size + 1, 2, none⟩ = some (.int .i64 q0) ∧ w'.cell? ⟨w.heap.size + 1, 3, none⟩ = some (.int .i64 q1) ∧ Below wc.heap.size wc w')
      (first | (with_reducible assumption) | (have hk2 := hk1.out; have hk3 := hk2.size; (try go_split_ands); refine pack10 ?_ x0 x1 x2 x3 x4 x5 x6 x7 x8 x9; (first | (with_reducible assumption) | (with_reducible exact Below.refl _ _) | ((with_reducible apply belowSeq hb1); (with_reducible assumption)) | ((with_reducible refine Below.alloc ?_ ?_ _) <;> first | (with_reducible assumption) | (exact Below.size (by with_reducible assumption))) | (go_grown; done))) | ((try go_split_ands); refine pack10 ?_ x0 x1 x2 x3 x4 x5 x6 x7 x8 x9; (first | (with_reducible assumption) | (with_reducible exact Below.refl _ _) | ((with_reducible apply belowSeq hb1); (with_reducible assumption)) | ((with_reducible refine Below.alloc ?_ ?_ _) <;> first | (with_reducible assumption) | (exact Below.size (by with_reducible assumption))) | (go_grown; done))))
      (first
        | (go_at_call 22; refine (checkWine_any _ _ _ _ _ _ _).mono ?_; rintro e w1 ⟨rfl, hb1⟩)
        | (go_at_call 26; refine (checkLaw_any _ _ _ _ _).mono ?_; rintro e w1 ⟨rfl, hb1⟩)
        | (go_at_call 74; refine (first_any _ _ _ _).mono ?_; rintro e w1 ⟨rfl, rfl⟩))
  rename_i hS
  have hW := hS.2.2.2.2.2.2.2.2.2.2
  clear hS
  have y0 := keepC hW x0
  have y1 := keepC hW x1
  have y2 := keepC hW x2
  have y3 := keepC hW x3
  have y4 := keepC hW x4
  have y5 := keepC hW x5
  have y6 := keepC hW x6
  have y7 := keepC hW x7
  have y8 := keepC hW x8
  have y9 := keepC hW x9
  have hB2 := belowSeq hW hB
  clear hW hB x0 x1 x2 x3 x4 x5 x6 x7 x8 x9
  go_wp2
  exact bodyPost_ret (v := .tuple #[.int .i64 0, .int .i64 (firstE (wineE v0 v1 s0 s1 c0 c1) (lawE p0 p1 q0 q1) 0)]) (by simp [results, Try.results39, go_sem]) rfl ⟨rfl, hB2⟩
end Go.Proofs.Ytcpkoapkmjcigaa
