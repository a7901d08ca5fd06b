/- The helpers of the theorems over the chapters: florPick, florBetween, florAwake. -/
import Derived.Test.YtpccfjdgnmmfoaaK3
import Derived.Test.YtpccfjdgnmmfoaaA1
namespace Go.Proofs.Ytpccfjdgnmmfoaa
open Go.RowKit

theorem fpick_any (lo hi x : Int) (w : World) (l0 : 0 ≤ lo) (l1 : lo ≤ hi) (l2 : hi ≤ 1000000) :
    Calls Try.prog 34 #[.agg #[.int .i64 lo, .int .i64 hi], .int .i64 x] w fun e w' => e = .returned (.int .i64 (lo + x % (hi - lo + 1))) ∧ Below w.heap.size w w' := by
  have b := pick_bd lo hi x l1
  have M := Lib.hid (fun w => mod_any x (hi - lo + 1) w (by omega) (by omega))
  go_enter Try.func34, Try.ntmps34
  go_wp2_with fail
  refine nameWorld (fun w' => w'.cell? ⟨w.heap.size, 0, none⟩ = some (.int .i64 lo) ∧ w'.cell? ⟨w.heap.size, 1, none⟩ = some (.int .i64 hi) ∧ Below w.heap.size w w') (by refine ⟨?_, ?_, ?_⟩ <;> first | (with_reducible assumption) | (go_grown; done) | (go_cell; done) | go_size | ((repeat first | (with_reducible assumption) | (with_reducible refine szA ?_) | (with_reducible refine szS ?_) | (with_reducible refine szD ?_)); done) | ((repeat first | (with_reducible assumption) | (with_reducible refine cvA ?_) | (with_reducible refine cvS ?_) | (with_reducible refine cvD ?_)); done) | (refine cv_of (v := .int .i64 0) ?_; go_cell; done) | (go_simp; done) | go_keep) (fun wc hc => ?_)
  obtain ⟨x0, x1, hB⟩ := hc
  have u0 : IntKind.i64.wrap (hi - lo) = hi - lo := IntWalk.i64_in _ (by omega)
  have u1 : IntKind.i64.wrap (hi - lo + 1) = hi - lo + 1 := IntWalk.i64_in _ (by omega)
  have u2 : IntKind.i64.wrap (lo + x % (hi - lo + 1)) = lo + x % (hi - lo + 1) := IntWalk.i64_in _ (by omega)
  go_region_held3 (fun w' => w'.cell? ⟨w.heap.size, 0, none⟩ = some (.int .i64 lo) ∧ w'.cell? ⟨w.heap.size, 1, none⟩ = some (.int .i64 hi) ∧ Below wc.heap.size wc w')
      (first | (with_reducible assumption) | (have hk2 := hk1.out; have hk3 := hk2.size; (try go_split_ands); refine pack2 ?_ x0 x1; (first | (with_reducible assumption) | (with_reducible exact Below.refl _ _) | ((with_reducible apply belowSeq hb1); (with_reducible assumption)) | ((with_reducible refine Below.alloc ?_ ?_ _) <;> first | (with_reducible assumption) | (exact Below.size (by with_reducible assumption))) | (go_grown; done))) | ((try go_split_ands); refine pack2 ?_ x0 x1; (first | (with_reducible assumption) | (with_reducible exact Below.refl _ _) | ((with_reducible apply belowSeq hb1); (with_reducible assumption)) | ((with_reducible refine Below.alloc ?_ ?_ _) <;> first | (with_reducible assumption) | (exact Below.size (by with_reducible assumption))) | (go_grown; done))))
      (first
        | (go_at_call 35; refine (M.out _).mono ?_; rintro e w1 ⟨rfl, rfl⟩))
  clear u0 u1 u2
  all_goals go_wp2
  all_goals go_ret
  all_goals (rename_i hS; exact ⟨rfl, belowSeq hS.2.2 hB⟩)
theorem fbetween_yes (n d lo hi : Int) (w : World) (h0 : -1000000000000000000 ≤ n) (h1 : n ≤ 1000000000000000000) (hd : 0 < d) (hd1 : d ≤ 1000000000000000000) (l0 : -1000000000000000000 ≤ lo) (l1 : lo ≤ 1000000000000000000) (u0 : -1000000000000000000 ≤ hi) (u1 : hi ≤ 1000000000000000000) (a : lo * d ≤ n) (b : n ≤ hi * d) :
    Calls Try.prog 38 #[.int .i64 n, .int .i64 d, .agg #[.int .i64 lo, .int .i64 hi]] w fun e w' => e = .returned (.bool true) ∧ Below w.heap.size w w' := by
  have c1 := cmp1_ge hd a
  have c2 := cmp1_le hd b
  have C1 := Lib.hid (fun w => compare_one n d lo w h0 h1 hd hd1 l0 l1)
  have C2 := Lib.hid (fun w => compare_one n d hi w h0 h1 hd hd1 u0 u1)
  clear a b
  go_enter Try.func38, Try.ntmps38
  go_wp2_with fail
  refine (C1.out _).mono ?_; rintro e w' ⟨rfl, rfl⟩
  go_wp2_with fail
  refine (C2.out _).mono ?_; rintro e w' ⟨rfl, rfl⟩
  go_wp2
  go_ret
  exact ⟨rfl, by go_grown⟩
set_option maxHeartbeats 2000000 in
theorem fawake_of (hAf : ∀ w : World, Calls Try.prog 31 #[.agg #[.int .i64 1000, .int .i64 1000, .int .i64 1500, .int .i64 1600, .int .i64 200, .int .i64 200], .agg #[.int .i64 100, .int .i64 200, .int .i64 200, .int .i64 300], .int .i64 100] w fun e w' => e = .returned (.tuple #[.agg #[.int .i64 980, .int .i64 990, .int .i64 1469, .int .i64 1600, .int .i64 202, .int .i64 205], .int .i64 0]) ∧ Below w.heap.size w w')
    (hSd : ∀ w : World, Calls Try.prog 42 #[.agg #[.int .i64 1000, .int .i64 1000, .int .i64 1500, .int .i64 1600, .int .i64 200, .int .i64 200], .agg #[.int .i64 100, .int .i64 200, .int .i64 200, .int .i64 300], .int .i64 1490] w fun e w' => e = .returned (.tuple #[.int .i64 33, .int .i64 0]) ∧ Below w.heap.size w w')
    (w : World) : Calls Try.prog 30 #[] w fun e w' => e = .returned (.bool true) ∧ Below w.heap.size w w' := by
  have HA := Lib.hid hAf
  have HS := Lib.hid hSd
  clear hAf hSd
  go_enter Try.func30, Try.ntmps30
  go_upto_region 2 with (first | (go_at_call 40; refine (fino_any _).mono ?_; rintro e wf ⟨rfl, hf⟩) | (go_at_call 41; refine (ratE_any _).mono ?_; rintro e wr ⟨rfl, hr⟩) | (go_at_call 31; refine (HA.out _).mono ?_; rintro e wa ⟨rfl, ha⟩))
  have hX : Below w.heap.size w wa := belowSeq ha (belowSeq hr hf)
  refine nameWorld (fun w' => w'.cell? ⟨wa.heap.size, 0, none⟩ = some (.int .i64 980) ∧ w'.cell? ⟨wa.heap.size, 1, none⟩ = some (.int .i64 990) ∧ w'.cell? ⟨wa.heap.size, 2, none⟩ = some (.int .i64 1469) ∧ w'.cell? ⟨wa.heap.size, 3, none⟩ = some (.int .i64 1600) ∧ w'.cell? ⟨wa.heap.size, 4, none⟩ = some (.int .i64 202) ∧ w'.cell? ⟨wa.heap.size, 5, none⟩ = some (.int .i64 205) ∧ Below w.heap.size w w') (by refine ⟨?_, ?_, ?_, ?_, ?_, ?_, ?_⟩ <;> first | (go_cell; done) | (exact hX.alloc hX.size _)) (fun wc hc => ?_)
  obtain ⟨x0, x1, x2, x3, x4, x5, hB⟩ := hc
  clear hX hf hr ha
  go_wp2_with (first | (go_at_call 40; refine (fino_any _).mono ?_; rintro e wg ⟨rfl, hf⟩; have X0 := keepC hf x0; have X1 := keepC hf x1; have X2 := keepC hf x2; have X3 := keepC hf x3; have X4 := keepC hf x4; have X5 := keepC hf x5) | (go_at_call 41; refine (ratE_any _).mono ?_; rintro e wh ⟨rfl, hr⟩; have Y0 := keepC hr X0; have Y1 := keepC hr X1; have Y2 := keepC hr X2; have Y3 := keepC hr X3; have Y4 := keepC hr X4; have Y5 := keepC hr X5) | (go_at_call 42; refine (HS.out _).mono ?_; rintro e wi ⟨rfl, hs⟩; have Z0 := keepC hs Y0; have Z1 := keepC hs Y1; have Z2 := keepC hs Y2; have Z3 := keepC hs Y3; have Z4 := keepC hs Y4; have Z5 := keepC hs Y5))
  go_ret
  exact ⟨rfl, belowSeq hs (belowSeq hr (belowSeq hf hB))⟩
end Go.Proofs.Ytpccfjdgnmmfoaa
