/- Stations of a cask: their errors, and the first wrong one. -/
import Derived.Test.YtpidgcmdimjkoaaJ3
import Derived.Test.YtpidgcmdimjkoaaJ6
import Derived.Test.YtpidgcmdimjkoaaJ7
namespace Go.Proofs.Ytpidgcmdimjkoaa
open Go.RowKit

theorem first2L_any (a0 a1 : Int) (p : Nat) (w : World) (h0 : w.cell? ⟨p, 0, none⟩ = some (.int .i64 a0)) (h1 : w.cell? ⟨p, 1, none⟩ = some (.int .i64 a1)) :
    Calls Try.prog 29 #[.slice (some ⟨p, 0, none⟩) 2 2] w fun x w' => x = .returned (.int .i64 (firstL [a0, a1])) ∧ w = w' :=
  first_list [a0, a1] p 0 w (by simp) (by intro j hj; match j, hj with | 0, _ => exact h0 | 1, _ => exact h1)
theorem first3L_any (a0 a1 a2 : Int) (p : Nat) (w : World) (h0 : w.cell? ⟨p, 0, none⟩ = some (.int .i64 a0)) (h1 : w.cell? ⟨p, 1, none⟩ = some (.int .i64 a1)) (h2 : w.cell? ⟨p, 2, none⟩ = some (.int .i64 a2)) :
    Calls Try.prog 29 #[.slice (some ⟨p, 0, none⟩) 3 3] w fun x w' => x = .returned (.int .i64 (firstL [a0, a1, a2])) ∧ w = w' :=
  first_list [a0, a1, a2] p 0 w (by simp) (by intro j hj; match j, hj with | 0, _ => exact h0 | 1, _ => exact h1 | 2, _ => exact h2)
theorem first4L_any (a0 a1 a2 a3 : Int) (p : Nat) (w : World) (h0 : w.cell? ⟨p, 0, none⟩ = some (.int .i64 a0)) (h1 : w.cell? ⟨p, 1, none⟩ = some (.int .i64 a1)) (h2 : w.cell? ⟨p, 2, none⟩ = some (.int .i64 a2)) (h3 : w.cell? ⟨p, 3, none⟩ = some (.int .i64 a3)) :
    Calls Try.prog 29 #[.slice (some ⟨p, 0, none⟩) 4 4] w fun x w' => x = .returned (.int .i64 (firstL [a0, a1, a2, a3])) ∧ w = w' :=
  first_list [a0, a1, a2, a3] p 0 w (by simp) (by intro j hj; match j, hj with | 0, _ => exact h0 | 1, _ => exact h1 | 2, _ => exact h2 | 3, _ => exact h3)
theorem first5L_any (a0 a1 a2 a3 a4 : Int) (p : Nat) (w : World) (h0 : w.cell? ⟨p, 0, none⟩ = some (.int .i64 a0)) (h1 : w.cell? ⟨p, 1, none⟩ = some (.int .i64 a1)) (h2 : w.cell? ⟨p, 2, none⟩ = some (.int .i64 a2)) (h3 : w.cell? ⟨p, 3, none⟩ = some (.int .i64 a3)) (h4 : w.cell? ⟨p, 4, none⟩ = some (.int .i64 a4)) :
    Calls Try.prog 29 #[.slice (some ⟨p, 0, none⟩) 5 5] w fun x w' => x = .returned (.int .i64 (firstL [a0, a1, a2, a3, a4])) ∧ w = w' :=
  first_list [a0, a1, a2, a3, a4] p 0 w (by simp) (by intro j hj; match j, hj with | 0, _ => exact h0 | 1, _ => exact h1 | 2, _ => exact h2 | 3, _ => exact h3 | 4, _ => exact h4)
theorem numS (n lo hi : Int) (w : World) : Calls Try.prog 32 #[.int .i64 n, .int .i64 lo, .int .i64 hi] w fun e w' => e = .returned (.int .i64 (numE n lo hi)) ∧ Below w.heap.size w w' := still_call (number_any n lo hi w)
theorem unlS (b : Bool) (e : Int) (w : World) : Calls Try.prog 45 #[.bool b, .int .i64 e] w fun x w' => x = .returned (.int .i64 (unlE b e)) ∧ Below w.heap.size w w' := still_call (unless_any b e w)
set_option linter.unusedVariables false in
set_option linter.unusedSimpArgs false in
set_option maxRecDepth 100000 in
set_option maxHeartbeats 4000000 in
theorem stationError_any (a i o bung : Int) (w : World) : Calls Try.prog 69 #[.agg #[.int .i64 a, .int .i64 i, .int .i64 o], .int .i64 bung] w fun e w' => e = .returned (.int .i64 (firstL [numE a 0 3000, numE i 10 bung, numE o 10 bung, unlE (decide (i ≤ o)) 9])) ∧ Below w.heap.size w w' := by
  go_enter Try.func69, Try.ntmps69
  go_upto_region 1 with fail
  refine nameWorld (fun w' => w'.cell? ⟨w.heap.size, 0, none⟩ = some (.int .i64 a) ∧ w'.cell? ⟨w.heap.size, 1, none⟩ = some (.int .i64 i) ∧ w'.cell? ⟨w.heap.size, 2, none⟩ = some (.int .i64 o) ∧ Below w.heap.size w w') ⟨(newBoth rfl (Below.refl _ _) 0 _ rfl).1, (newBoth rfl (Below.refl _ _) 1 _ rfl).1, (newBoth rfl (Below.refl _ _) 2 _ rfl).1, (Below.refl _ _).alloc (Nat.le_refl _) _⟩ (fun wc hc => ?_)
  obtain ⟨x0, x1, x2, hB⟩ := hc
  refine regionX 17 0 [] [] (by kernel_rfl) (by kernel_rfl) (by kernel_rfl) (by kernel_rfl) (by decide) (fun _ _ d _ _ h => by cases d <;> exact h) ?_
  intro R hR
  simp only [List.take_succ_cons, List.take_zero]
  iterate 17 (first | (refine headP_val ?_ (by rfl) (by rfl) (fun w' hw' => ?_) ?_; rotate_left; (focus (have y0 := keepC hw' x0; have y1 := keepC hw' x1; have y2 := keepC hw' x2; first | (refine onlyMakes_val ?_; first | (go_simp; done) | (go_simp; with_reducible rfl)) | (apply onlyMakes_call; (first | (go_simp; done) | (go_simp; exact ⟨rfl, rfl⟩) | (go_simp; with_reducible rfl)); first | (with_reducible exact numS _ _ _ _) | (with_reducible exact unlS _ _ _)))); (try dsimp only); (try simp only [Act.put, List.setIfInBounds_toArray, List.set_cons_zero, List.set_cons_succ])) | (refine headP_pure ?_ (by rfl) (by rfl) (fun w' => ?_) ?_; rotate_left; (focus ((first | (go_simp; done) | (go_simp; with_reducible rfl)))); (try dsimp only); (try simp only [Act.put, List.setIfInBounds_toArray, List.set_cons_zero, List.set_cons_succ])) | (refine headP_skip (by rfl) ?_; (try dsimp only); (try simp only [Act.put, List.setIfInBounds_toArray, List.set_cons_zero, List.set_cons_succ])))
  refine headP_nil (hR.out _ ?_)
  clear x0 x1 x2
  refine AnyZ.last 17 (by kernel_rfl) (by decide) (fun w2 hw2 => ?_)
  refine wpAny_one 17 (by kernel_rfl) rfl rfl ?_
  have hB2 := belowSeq2 hB hw2
  clear hR hw2 hB
  (try simp only [List.getElem_toArray, List.getElem_cons_succ, List.getElem_cons_zero])
  (try simp only [Act.put, List.setIfInBounds_toArray, List.set_cons_succ, List.set_cons_zero])
  unfold Oper.wp
  go_simp
  refine wpAny_one 18 (by kernel_rfl) rfl rfl ?_
  (try simp only [List.getElem_toArray, List.getElem_cons_succ, List.getElem_cons_zero])
  (try simp only [Act.put, List.setIfInBounds_toArray, List.set_cons_succ, List.set_cons_zero])
  unfold Oper.wp
  go_simp
  go_at_call 29
  refine (first4L_any _ _ _ _ _ _ (newCell 0 _ rfl) (newCell 1 _ rfl) (newCell 2 _ rfl) (newCell 3 _ rfl)).mono ?_
  rintro e w4 ⟨rfl, rfl⟩
  dsimp only
  refine wpAny_one 19 (by kernel_rfl) rfl rfl ?_
  (try simp only [List.getElem_toArray, List.getElem_cons_succ, List.getElem_cons_zero])
  (try simp only [Act.put, List.setIfInBounds_toArray, List.set_cons_succ, List.set_cons_zero])
  unfold Oper.wp
  go_simp
  refine wpAny_done (by kernel_rfl) ?_
  go_wp2_with fail
  go_ret
  exact ⟨rfl, belowSeq2 hB2 ((Below.refl _ _).alloc (Nat.le_refl _) _)⟩
set_option linter.unusedVariables false in
set_option linter.unusedSimpArgs false in
set_option maxRecDepth 100000 in
set_option maxHeartbeats 4000000 in
theorem cask1_any (a i o bung : Int) (bc : Nat) (w : World) (hc : w.cell? ⟨bc, 1, none⟩ = some (.int .i64 bung)) : Calls Try.prog 68 #[.agg #[.int .i64 a, .int .i64 i, .int .i64 o], .pointer (some ⟨bc, 0, none⟩)] w fun e w' => e = .returned (.int .i64 (firstL [numE a 0 3000, numE i 10 bung, numE o 10 bung, unlE (decide (i ≤ o)) 9])) ∧ Below w.heap.size w w' := by
  have hs : bc < w.heap.size := World.block_lt_of_cell? w _ hc
  have HS := Lib.hid (fun w => stationError_any a i o bung w)
  obtain ⟨ee, hee⟩ : ∃ z, firstL [numE a 0 3000, numE i 10 bung, numE o 10 bung, unlE (decide (i ≤ o)) 9] = z := ⟨_, rfl⟩
  rw [hee] at HS ⊢
  clear hee
  go_enter Try.func68, Try.ntmps68
  go_wp2_with (go_at_call 69; (with_reducible refine Calls.mono (HS.out _) ?_); rintro e w1 ⟨rfl, hb1⟩)
  go_ret
  exact ⟨rfl, belowSeq2 ((Below.refl _ _).alloc (Nat.le_refl _) _) hb1⟩
set_option linter.unusedVariables false in
set_option linter.unusedSimpArgs false in
set_option maxRecDepth 100000 in
set_option maxHeartbeats 4000000 in
theorem cask2_any (a i o b j q : Int) (w : World) : Calls Try.prog 70 #[.agg #[.int .i64 a, .int .i64 i, .int .i64 o], .agg #[.int .i64 b, .int .i64 j, .int .i64 q]] w fun e w' => e = .returned (.bool (decide (a < b))) ∧ Below w.heap.size w w' := by
  go_enter Try.func70, Try.ntmps70
  go_wp2_with fail
  go_ret
  exact ⟨rfl, by go_grown⟩
end Go.Proofs.Ytpidgcmdimjkoaa
