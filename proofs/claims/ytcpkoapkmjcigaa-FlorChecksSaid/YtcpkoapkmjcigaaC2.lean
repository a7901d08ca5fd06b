/- FlorChecks: the walk of the law, out of contracts of what it calls. -/
import Derived.Test.YtcpkoapkmjcigaaR2
import Derived.Test.YtcpkoapkmjcigaaC1
namespace Go.Proofs.Ytcpkoapkmjcigaa
open Go.RowKit

set_option maxHeartbeats 2000000 in
theorem checks_walk (hA : ∀ w : World, Calls Try.prog 20 #[] w fun e w' => e = .returned (.bool true) ∧ Below w.heap.size w w')
    (hW : ∀ (v0 v1 s0 s1 c0 c1 : Int) (w : World), Calls Try.prog 21 #[.agg #[.int .i64 v0, .int .i64 v1, .int .i64 s0, .int .i64 s1, .int .i64 c0, .int .i64 c1]] w fun e w' => e = .returned (.int .i64 (wineE v0 v1 s0 s1 c0 c1)) ∧ Below w.heap.size w w')
    (hR : ∀ (a0 a1 g0 g1 : Int) (w : World), Calls Try.prog 23 #[.agg #[.int .i64 a0, .int .i64 a1, .int .i64 g0, .int .i64 g1]] w fun e w' => e = .returned (.int .i64 (rateE a0 a1 g0 g1)) ∧ Below w.heap.size w w')
    (hL : ∀ (p0 p1 q0 q1 : Int) (w : World), Calls Try.prog 25 #[.agg #[.int .i64 p0, .int .i64 p1, .int .i64 q0, .int .i64 q1]] w fun e w' => e = .returned (.int .i64 (lawE p0 p1 q0 q1)) ∧ Below w.heap.size w w') : Checks.Walk := by
  intro v0 v1 s0 s1 c0 c1 a0 a1 g0 g1 p0 p1 q0 q1 w _
  have HA := Lib.hid hA
  have HW := Lib.hid hW
  have HR := Lib.hid hR
  have HL := Lib.hid hL
  clear hA hW hR hL
  go_enter Try.func3, Try.ntmps3
  go_upto_region 3 with (go_at_call 20; refine (HA.out _).mono ?_; rintro e w1 ⟨rfl, hb1⟩)
  refine nameWorld (fun w' => w'.cell? ⟨w.heap.size, 0, none⟩ = some (.int .i64 v0) ∧ w'.cell? ⟨w.heap.size, 1, none⟩ = some (.int .i64 v1) ∧ w'.cell? ⟨w.heap.size, 2, none⟩ = some (.int .i64 s0) ∧ w'.cell? ⟨w.heap.size, 3, none⟩ = some (.int .i64 s1) ∧ w'.cell? ⟨w.heap.size, 4, none⟩ = some (.int .i64 c0) ∧ w'.cell? ⟨w.heap.size, 5, none⟩ = some (.int .i64 c1) ∧ w'.cell? ⟨w.heap.size + 1, 0, none⟩ = some (.int .i64 a0) ∧ w'.cell? ⟨w.heap.size + 1, 1, none⟩ = some (.int .i64 a1) ∧ w'.cell? ⟨w.heap.size + 1, 2, none⟩ = some (.int .i64 g0) ∧ w'.cell? ⟨w.heap.size + 1, 3, none⟩ = some (.int .i64 g1) ∧ w'.cell? ⟨w.heap.size + 1 + 1, 0, none⟩ = some (.int .i64 p0) ∧ w'.cell? ⟨w.heap.size + 1 + 1, 1, none⟩ = some (.int .i64 p1) ∧ w'.cell? ⟨w.heap.size + 1 + 1, 2, none⟩ = some (.int .i64 q0) ∧ w'.cell? ⟨w.heap.size + 1 + 1, 3, none⟩ = some (.int .i64 q1) ∧ Below w.heap.size w w') (by refine ⟨?_, ?_, ?_, ?_, ?_, ?_, ?_, ?_, ?_, ?_, ?_, ?_, ?_, ?_, ?_⟩ <;> first | (exact keepC (by assumption) (by go_cell)) | (exact belowSeq (by assumption) (by (go_grown; done))) | (exact keepZ (by assumption) (by go_size))) (fun wc hc => ?_)
  obtain ⟨x0, x1, x2, x3, x4, x5, x6, x7, x8, x9, x10, x11, x12, x13, hB⟩ := hc
  clear hb1
  go_region_held3 (fun w' => w'.cell? ⟨w.heap.size, 0, none⟩ = some (.int .i64 v0) ∧ w'.cell? ⟨w.heap.size, 1, none⟩ = some (.int .i64 v1) ∧ w'.cell? ⟨w.heap.size, 2, none⟩ = some (.int .i64 s0) ∧ w'.cell? ⟨w.heap.size, 3, none⟩ = some (.int .i64 s1) ∧ w'.cell? ⟨w.heap.size, 4, none⟩ = some (.int .i64 c0) ∧ w'.cell? ⟨w.heap.size, 5, none⟩ = some (.int .i64 c1) ∧ w'.cell? ⟨w.heap.size + 1, 0, none⟩ = some (.int .i64 a0) ∧ w'.cell? ⟨w.heap.size + 1, 1, none⟩ = some (.int .i64 a1) ∧ w'.cell? ⟨w.heap.size + 1, 2, none⟩ = some (.int .i64 g0) ∧ w'.cell? ⟨w.heap.size + 1, 3, none⟩ = some (.int .i64 g1) ∧ w'.cell? ⟨w.heap.size + 1 + 1, 0, none⟩ = some (.int .i64 p0) ∧ w'.cell? ⟨w.heap.size + 1 + 1, 1, none⟩ = some (.int .i64 p1) ∧ w'.cell? ⟨w.heap.size + 1 + 1, 2, none⟩ = some (.int .i64 q0) ∧ w'.cell? ⟨w.heap.size + 1 + 1, 3, none⟩ = some (.int .i64 q1) ∧ Below wc.heap.size wc w')
      (first | (with_reducible assumption) | (have hk2 := hk1.out; have hk3 := hk2.size; (try go_split_ands); refine pack14 ?_ x0 x1 x2 x3 x4 x5 x6 x7 x8 x9 x10 x11 x12 x13; (first | (with_reducible assumption) | (with_reducible exact Below.refl _ _) | ((with_reducible apply belowSeq hb1); (with_reducible assumption)) | ((with_reducible refine Below.alloc ?_ ?_ _) <;> first | (with_reducible assumption) | (exact Below.size (by with_reducible assumption))) | (go_grown; done))) | ((try go_split_ands); refine pack14 ?_ x0 x1 x2 x3 x4 x5 x6 x7 x8 x9 x10 x11 x12 x13; (first | (with_reducible assumption) | (with_reducible exact Below.refl _ _) | ((with_reducible apply belowSeq hb1); (with_reducible assumption)) | ((with_reducible refine Below.alloc ?_ ?_ _) <;> first | (with_reducible assumption) | (exact Below.size (by with_reducible assumption))) | (go_grown; done))))
      (first
        | (go_at_call 21; refine (HW.out _ _ _ _ _ _ _).mono ?_; rintro e w1 ⟨rfl, hb1⟩)
        | (go_at_call 23; refine (HR.out _ _ _ _ _).mono ?_; rintro e w1 ⟨rfl, hb1⟩)
        | (go_at_call 25; refine (HL.out _ _ _ _ _).mono ?_; rintro e w1 ⟨rfl, hb1⟩)
        | (go_at_call 22; refine (checkWine_any _ _ _ _ _ _ _).mono ?_; rintro e w1 ⟨rfl, hb1⟩)
        | (go_at_call 24; refine (checkRate_any _ _ _ _ _).mono ?_; rintro e w1 ⟨rfl, hb1⟩)
        | (go_at_call 26; refine (checkLaw_any _ _ _ _ _).mono ?_; rintro e w1 ⟨rfl, hb1⟩))
  all_goals go_wp2
  all_goals go_ret
  all_goals (rename_i hS; exact ⟨rfl, belowSeq hS.2.2.2.2.2.2.2.2.2.2.2.2.2.2 hB⟩)
end Go.Proofs.Ytcpkoapkmjcigaa
