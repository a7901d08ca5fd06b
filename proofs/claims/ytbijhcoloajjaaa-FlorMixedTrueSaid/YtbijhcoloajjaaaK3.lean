/- The law's helper within: a number of a range. -/
import Derived.Test.YtbijhcoloajjaaaK2
namespace Go.Proofs.Ytbijhcoloajjaaa
open Go.RowKit

theorem pick_bd (lo hi x : Int) (h : lo ≤ hi) : lo ≤ lo + x % (hi - lo + 1) ∧ lo + x % (hi - lo + 1) ≤ hi := by
  have h1 := Int.emod_nonneg x (by omega : hi - lo + 1 ≠ 0)
  have h2 := Int.emod_lt_of_pos x (by omega : 0 < hi - lo + 1)
  omega
theorem pick_any (lo hi x : Int) (w : World) (l0 : 0 ≤ lo) (l1 : lo ≤ hi) (l2 : hi ≤ 1000000) :
    Calls Try.prog 13 #[.agg #[.int .i64 lo, .int .i64 hi], .int .i64 x] w fun e w' => e = .returned (.int .i64 (lo + x % (hi - lo + 1))) ∧ Below w.heap.size w w' := by
  have b := pick_bd lo hi x l1
  have M := Lib.hid (fun w => mod_any x (hi - lo + 1) w (by omega) (by omega))
  go_enter Try.func13, Try.ntmps13
  go_wp2_with fail
  refine nameWorld (fun w' => w'.cell? ⟨w.heap.size, 0, none⟩ = some (.int .i64 lo) ∧ w'.cell? ⟨w.heap.size, 1, none⟩ = some (.int .i64 hi) ∧ Below w.heap.size w w') (by refine ⟨?_, ?_, ?_⟩ <;> first | (with_reducible assumption) | (go_grown; done) | (go_cell; done) | go_size | ((repeat first | (with_reducible assumption) | (with_reducible refine szA ?_) | (with_reducible refine szS ?_) | (with_reducible refine szD ?_)); done) | ((repeat first | (with_reducible assumption) | (with_reducible refine cvA ?_) | (with_reducible refine cvS ?_) | (with_reducible refine cvD ?_)); done) | (refine cv_of (v := .int .i64 0) ?_; go_cell; done) | (go_simp; done) | go_keep) (fun wc hc => ?_)
  obtain ⟨x0, x1, hB⟩ := hc
  have u0 : IntKind.i64.wrap (hi - lo) = hi - lo := IntWalk.i64_in _ (by omega)
  have u1 : IntKind.i64.wrap (hi - lo + 1) = hi - lo + 1 := IntWalk.i64_in _ (by omega)
  have u2 : IntKind.i64.wrap (lo + x % (hi - lo + 1)) = lo + x % (hi - lo + 1) := IntWalk.i64_in _ (by omega)
  go_region_held3 (fun w' => w'.cell? ⟨w.heap.size, 0, none⟩ = some (.int .i64 lo) ∧ w'.cell? ⟨w.heap.size, 1, none⟩ = some (.int .i64 hi) ∧ Below wc.heap.size wc w')
      (first | (with_reducible assumption) | (have hk2 := hk1.out; have hk3 := hk2.size; (try go_split_ands); refine pack2 ?_ x0 x1; (first | (with_reducible assumption) | (with_reducible exact Below.refl _ _) | ((with_reducible apply belowSeq hb1); (with_reducible assumption)) | ((with_reducible refine Below.alloc ?_ ?_ _) <;> first | (with_reducible assumption) | (exact Below.size (by with_reducible assumption))) | (go_grown; done))) | ((try go_split_ands); refine pack2 ?_ x0 x1; (first | (with_reducible assumption) | (with_reducible exact Below.refl _ _) | ((with_reducible apply belowSeq hb1); (with_reducible assumption)) | ((with_reducible refine Below.alloc ?_ ?_ _) <;> first | (with_reducible assumption) | (exact Below.size (by with_reducible assumption))) | (go_grown; done))))
      (first
        | (go_at_call 41; refine (M.out _).mono ?_; rintro e w1 ⟨rfl, rfl⟩))
  clear u0 u1 u2
  all_goals go_wp2
  all_goals go_ret
  all_goals (rename_i hS; exact ⟨rfl, belowSeq hS.2.2 hB⟩)
end Go.Proofs.Ytbijhcoloajjaaa
