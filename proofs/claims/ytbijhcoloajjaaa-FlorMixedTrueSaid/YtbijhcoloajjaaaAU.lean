import Derived.Test.YtbijhcoloajjaaaR2
import Derived.Test.YtbijhcoloajjaaaK3
/- The law's examples (awake), out of contracts of the program's functions at these inputs. -/
namespace Go.Proofs.Ytbijhcoloajjaaa
open Go.RowKit

theorem fino_any (w : World) : Calls Try.prog 26 #[] w fun e w' => e = .returned (.agg #[.int .i64 1000, .int .i64 1000, .int .i64 1500, .int .i64 1600, .int .i64 200, .int .i64 200]) ∧ Below w.heap.size w w' := by
  go_enter Try.func26, Try.ntmps26
  go_wp2
  go_returns
  exact ⟨rfl, by go_grown⟩
theorem ratE_any (w : World) : Calls Try.prog 27 #[] w fun e w' => e = .returned (.agg #[.int .i64 100, .int .i64 200, .int .i64 200, .int .i64 300]) ∧ Below w.heap.size w w' := by
  go_enter Try.func27, Try.ntmps27
  go_wp2
  go_returns
  exact ⟨rfl, by go_grown⟩
theorem exact_any (n : Int) (w : World) : Calls Try.prog 16 #[.int .i64 n] w fun e w' => e = .returned (.agg #[.int .i64 n, .int .i64 n]) ∧ Below w.heap.size w w' := by
  go_enter Try.func16, Try.ntmps16
  go_wp2
  go_returns
  exact ⟨rfl, by go_grown⟩
set_option maxHeartbeats 2000000 in
theorem awake_of (hAf : ∀ w : World, Calls Try.prog 24 #[.agg #[.int .i64 1000, .int .i64 1000, .int .i64 1500, .int .i64 1600, .int .i64 200, .int .i64 200], .agg #[.int .i64 100, .int .i64 200, .int .i64 200, .int .i64 300], .int .i64 100] w fun e w' => e = .returned (.tuple #[.agg #[.int .i64 980, .int .i64 990, .int .i64 1469, .int .i64 1600, .int .i64 202, .int .i64 205], .int .i64 0]) ∧ Below w.heap.size w w')
    (hSd : ∀ w : World, Calls Try.prog 28 #[.agg #[.int .i64 1000, .int .i64 1000, .int .i64 1500, .int .i64 1600, .int .i64 200, .int .i64 200], .agg #[.int .i64 100, .int .i64 200, .int .i64 200, .int .i64 300], .int .i64 1490] w fun e w' => e = .returned (.tuple #[.int .i64 33, .int .i64 0]) ∧ Below w.heap.size w w')
    (hSp : ∀ w : World, Calls Try.prog 18 #[.agg #[.int .i64 900, .int .i64 900, .int .i64 1500, .int .i64 1500, .int .i64 0, .int .i64 0], .int .i64 9500, .int .i64 1700] w fun e w' => e = .returned (.tuple #[.agg #[.int .i64 24, .int .i64 24], .int .i64 0]) ∧ Below w.heap.size w w')
    (w : World) : Calls Try.prog 8 #[] w fun e w' => e = .returned (.bool true) ∧ Below w.heap.size w w' := by
  have HA := Lib.hid hAf
  have HS := Lib.hid hSd
  have HP := Lib.hid hSp
  clear hAf hSd hSp
  go_enter Try.func8, Try.ntmps8
  go_upto_region 4 with (first | (go_at_call 26; refine (fino_any _).mono ?_; rintro e wf ⟨rfl, hf⟩) | (go_at_call 27; refine (ratE_any _).mono ?_; rintro e wr ⟨rfl, hr⟩) | (go_at_call 24; refine (HA.out _).mono ?_; rintro e wa ⟨rfl, ha⟩) | (go_at_call 28; refine (HS.out _).mono ?_; rintro e wsd ⟨rfl, hs⟩) | (go_at_call 18; refine (HP.out _).mono ?_; rintro e wp ⟨rfl, hp⟩) | (go_at_call 16; refine (exact_any _ _).mono ?_; rintro e we ⟨rfl, he⟩))
  rename_i wf0 hf0 wr0 hr0 we0 he0 K0 a0
  have hW := belowSeq hp (belowSeq he (belowSeq he0 (belowSeq hs (belowSeq hr hf))))
  have hX : Below w.heap.size w wa := belowSeq ha (belowSeq hr0 hf0)
  have hY : Below w.heap.size w wp := belowSeq hW (hX.alloc hX.size _)
  clear hf hr hs he he0 hp ha hr0 hf0
  refine nameWorld (fun w' => w'.cell? ⟨wa.heap.size, 0, none⟩ = some (.int .i64 980) ∧ w'.cell? ⟨wa.heap.size, 1, none⟩ = some (.int .i64 990) ∧ w'.cell? ⟨wa.heap.size, 2, none⟩ = some (.int .i64 1469) ∧ w'.cell? ⟨wa.heap.size, 3, none⟩ = some (.int .i64 1600) ∧ w'.cell? ⟨wa.heap.size, 4, none⟩ = some (.int .i64 202) ∧ w'.cell? ⟨wa.heap.size, 5, none⟩ = some (.int .i64 205) ∧ w'.cell? ⟨wp.heap.size, 0, none⟩ = some (.int .i64 24) ∧ w'.cell? ⟨wp.heap.size, 1, none⟩ = some (.int .i64 24) ∧ Below w.heap.size w w') (by refine ⟨?_, ?_, ?_, ?_, ?_, ?_, ?_, ?_, ?_⟩ <;> first | (exact keepC ((Below.refl _ _).alloc (Nat.le_refl _) _) (keepC hW (by go_cell))) | (go_cell; done) | (exact hY.alloc hY.size _)) (fun wc hc => ?_)
  obtain ⟨x0, x1, x2, x3, x4, x5, x6, x7, hB⟩ := hc
  clear hW hX hY
  go_region_held3 (fun w' => w'.cell? ⟨wa.heap.size, 0, none⟩ = some (.int .i64 980) ∧ w'.cell? ⟨wa.heap.size, 1, none⟩ = some (.int .i64 990) ∧ w'.cell? ⟨wa.heap.size, 2, none⟩ = some (.int .i64 1469) ∧ w'.cell? ⟨wa.heap.size, 3, none⟩ = some (.int .i64 1600) ∧ w'.cell? ⟨wa.heap.size, 4, none⟩ = some (.int .i64 202) ∧ w'.cell? ⟨wa.heap.size, 5, none⟩ = some (.int .i64 205) ∧ w'.cell? ⟨wp.heap.size, 0, none⟩ = some (.int .i64 24) ∧ w'.cell? ⟨wp.heap.size, 1, none⟩ = some (.int .i64 24) ∧ Below wc.heap.size wc w')
      (first | (with_reducible assumption) | (have hk2 := hk1.out; have hk3 := hk2.size; (try go_split_ands); refine pack8 ?_ x0 x1 x2 x3 x4 x5 x6 x7; (first | (with_reducible assumption) | (with_reducible exact Below.refl _ _) | ((with_reducible apply belowSeq hb1); (with_reducible assumption)) | ((with_reducible refine Below.alloc ?_ ?_ _) <;> first | (with_reducible assumption) | (exact Below.size (by with_reducible assumption))) | (go_grown; done))) | ((try go_split_ands); refine pack8 ?_ x0 x1 x2 x3 x4 x5 x6 x7; (first | (with_reducible assumption) | (with_reducible exact Below.refl _ _) | ((with_reducible apply belowSeq hb1); (with_reducible assumption)) | ((with_reducible refine Below.alloc ?_ ?_ _) <;> first | (with_reducible assumption) | (exact Below.size (by with_reducible assumption))) | (go_grown; done))))
      (first
        | (go_at_call 16; refine (exact_any _ _).mono ?_; rintro e w1 ⟨rfl, hb1⟩))
  all_goals go_wp2
  all_goals go_ret
  all_goals (rename_i hS; exact ⟨rfl, belowSeq hS.2.2.2.2.2.2.2.2 hB⟩)
end Go.Proofs.Ytbijhcoloajjaaa

/- The helpers of the theorems over the chapters: florPick, florBetween, florAwake. -/
namespace Go.Proofs.Ytbijhcoloajjaaa
open Go.RowKit

set_option maxHeartbeats 2000000 in
theorem fawake_of (hAf : ∀ w : World, Calls Try.prog 24 #[.agg #[.int .i64 1000, .int .i64 1000, .int .i64 1500, .int .i64 1600, .int .i64 200, .int .i64 200], .agg #[.int .i64 100, .int .i64 200, .int .i64 200, .int .i64 300], .int .i64 100] w fun e w' => e = .returned (.tuple #[.agg #[.int .i64 980, .int .i64 990, .int .i64 1469, .int .i64 1600, .int .i64 202, .int .i64 205], .int .i64 0]) ∧ Below w.heap.size w w')
    (hSd : ∀ w : World, Calls Try.prog 28 #[.agg #[.int .i64 1000, .int .i64 1000, .int .i64 1500, .int .i64 1600, .int .i64 200, .int .i64 200], .agg #[.int .i64 100, .int .i64 200, .int .i64 200, .int .i64 300], .int .i64 1490] w fun e w' => e = .returned (.tuple #[.int .i64 33, .int .i64 0]) ∧ Below w.heap.size w w')
    (w : World) : Calls Try.prog 23 #[] w fun e w' => e = .returned (.bool true) ∧ Below w.heap.size w w' := by
  have HA := Lib.hid hAf
  have HS := Lib.hid hSd
  clear hAf hSd
  go_enter Try.func23, Try.ntmps23
  go_upto_region 2 with (first | (go_at_call 26; refine (fino_any _).mono ?_; rintro e wf ⟨rfl, hf⟩) | (go_at_call 27; refine (ratE_any _).mono ?_; rintro e wr ⟨rfl, hr⟩) | (go_at_call 24; refine (HA.out _).mono ?_; rintro e wa ⟨rfl, ha⟩))
  have hX : Below w.heap.size w wa := belowSeq ha (belowSeq hr hf)
  refine nameWorld (fun w' => w'.cell? ⟨wa.heap.size, 0, none⟩ = some (.int .i64 980) ∧ w'.cell? ⟨wa.heap.size, 1, none⟩ = some (.int .i64 990) ∧ w'.cell? ⟨wa.heap.size, 2, none⟩ = some (.int .i64 1469) ∧ w'.cell? ⟨wa.heap.size, 3, none⟩ = some (.int .i64 1600) ∧ w'.cell? ⟨wa.heap.size, 4, none⟩ = some (.int .i64 202) ∧ w'.cell? ⟨wa.heap.size, 5, none⟩ = some (.int .i64 205) ∧ Below w.heap.size w w') (by refine ⟨?_, ?_, ?_, ?_, ?_, ?_, ?_⟩ <;> first | (go_cell; done) | (exact hX.alloc hX.size _)) (fun wc hc => ?_)
  obtain ⟨x0, x1, x2, x3, x4, x5, hB⟩ := hc
  clear hX hf hr ha
  go_wp2_with (first | (go_at_call 26; refine (fino_any _).mono ?_; rintro e wg ⟨rfl, hf⟩; have X0 := keepC hf x0; have X1 := keepC hf x1; have X2 := keepC hf x2; have X3 := keepC hf x3; have X4 := keepC hf x4; have X5 := keepC hf x5) | (go_at_call 27; refine (ratE_any _).mono ?_; rintro e wh ⟨rfl, hr⟩; have Y0 := keepC hr X0; have Y1 := keepC hr X1; have Y2 := keepC hr X2; have Y3 := keepC hr X3; have Y4 := keepC hr X4; have Y5 := keepC hr X5) | (go_at_call 28; refine (HS.out _).mono ?_; rintro e wi ⟨rfl, hs⟩; have Z0 := keepC hs Y0; have Z1 := keepC hs Y1; have Z2 := keepC hs Y2; have Z3 := keepC hs Y3; have Z4 := keepC hs Y4; have Z5 := keepC hs Y5))
  go_ret
  exact ⟨rfl, belowSeq hs (belowSeq hr (belowSeq hf hB))⟩
end Go.Proofs.Ytbijhcoloajjaaa
