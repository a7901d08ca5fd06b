/- flor's own checks: rangeError, CheckWine, CheckRate, CheckLaw, daysError, strengthError. -/
import Derived.Test.YtlmnhlmgbcpclaaF1
namespace Go.Proofs.Ytlmnhlmgbcpclaa
open Go.RowKit

theorem rangeE_val (lo hi most : Int) : rangeE lo hi most = firstE (numE lo 0 most) (numE hi 0 most) (unlE (decide (lo ≤ hi)) 9) := by
  unfold rangeE firstE numE unlE
  cases h1 : inB lo 0 most <;> cases h2 : inB hi 0 most <;> by_cases h3 : lo ≤ hi <;> simp [h3] <;> omega
theorem rangeError_any (lo hi most : Int) (w : World) :
    Calls Try.prog 37 #[.agg #[.int .i64 lo, .int .i64 hi], .int .i64 most] w fun e w' => e = .returned (.int .i64 (rangeE lo hi most)) ∧ Below w.heap.size w w' := by
  go_enter Try.func37, Try.ntmps37
  go_wp2_with fail
  refine nameWorld (fun w' => w'.cell? ⟨w.heap.size, 0, none⟩ = some (.int .i64 lo) ∧ w'.cell? ⟨w.heap.size, 1, none⟩ = some (.int .i64 hi) ∧ Below w.heap.size w w') (by refine ⟨?_, ?_, ?_⟩ <;> first | (with_reducible assumption) | (go_grown; done) | (go_cell; done) | go_size | ((repeat first | (with_reducible assumption) | (with_reducible refine szA ?_) | (with_reducible refine szS ?_) | (with_reducible refine szD ?_)); done) | ((repeat first | (with_reducible assumption) | (with_reducible refine cvA ?_) | (with_reducible refine cvS ?_) | (with_reducible refine cvD ?_)); done) | (refine cv_of (v := .int .i64 0) ?_; go_cell; done) | (go_simp; done) | go_keep) (fun wc hc => ?_)
  obtain ⟨x0, x1, hB⟩ := hc
  go_region_held3 (fun w' => w'.cell? ⟨w.heap.size, 0, none⟩ = some (.int .i64 lo) ∧ w'.cell? ⟨w.heap.size, 1, none⟩ = some (.int .i64 hi) ∧ Below wc.heap.size wc w')
      (first | (with_reducible assumption) | (have hk2 := hk1.out; have hk3 := hk2.size; (try go_split_ands); refine pack2 ?_ x0 x1; (first | (with_reducible assumption) | (with_reducible exact Below.refl _ _) | ((with_reducible apply belowSeq hb1); (with_reducible assumption)) | ((with_reducible refine Below.alloc ?_ ?_ _) <;> first | (with_reducible assumption) | (exact Below.size (by with_reducible assumption))) | (go_grown; done))) | ((try go_split_ands); refine pack2 ?_ x0 x1; (first | (with_reducible assumption) | (with_reducible exact Below.refl _ _) | ((with_reducible apply belowSeq hb1); (with_reducible assumption)) | ((with_reducible refine Below.alloc ?_ ?_ _) <;> first | (with_reducible assumption) | (exact Below.size (by with_reducible assumption))) | (go_grown; done))))
      (first
        | (go_at_call 68; refine (number_any _ _ _ _).mono ?_; rintro e w1 ⟨rfl, rfl⟩)
        | (go_at_call 38; refine (unless_any _ _ _).mono ?_; rintro e w1 ⟨rfl, rfl⟩)
        | (go_at_call 36; with_reducible first | (refine Calls.mono (first3_any _ _ _ _ _ (newCellD 0 _ rfl) (newCellD 1 _ rfl) (newCellD 2 _ rfl)) ?_; rintro e w1 ⟨rfl, rfl⟩) | (refine Calls.mono (first3_any _ _ _ _ _ (newCell 0 _ rfl) (newCell 1 _ rfl) (newCell 2 _ rfl)) ?_; rintro e w1 ⟨rfl, rfl⟩)))
  all_goals go_wp2
  all_goals go_ret
  all_goals (rename_i hS; exact ⟨ret_int (rangeE_val _ _ _).symm, belowSeq hS.2.2 hB⟩)
theorem firstE2 (a b : Int) : firstE a b 0 = firstE a b 0 := rfl
theorem date_any (n : Int) (w : World) :
    Calls Try.prog 47 #[.int .i64 n] w fun e w' => e = .returned (.int .i64 (numE n 0 100000)) ∧ w = w' := by
  go_enter Try.func47, Try.ntmps47
  go_wp2_with (go_at_call 68; refine (number_any _ _ _ _).mono ?_; rintro e w1 ⟨rfl, rfl⟩)
  go_ret
  exact ⟨rfl, rfl⟩
end Go.Proofs.Ytlmnhlmgbcpclaa
