/- Moves of a book: their errors, and the first wrong one. -/
import Derived.Test.YtlmnhlmgbcpclaaJ11
namespace Go.Proofs.Ytlmnhlmgbcpclaa
open Go.RowKit

def plE (s : ByteArray) : Int := if s.toList.isEmpty = true then 0 else unlE (nameB s) 4
set_option linter.unusedVariables false in
set_option linter.unusedSimpArgs false in
set_option maxRecDepth 100000 in
set_option maxHeartbeats 4000000 in
theorem placeError_any (s : ByteArray) (w : World) : Calls Try.prog 77 #[.string s] w fun e w' => e = .returned (.int .i64 (plE s)) ∧ Below w.heap.size w w' := by
  have hp : plE s = if s.toList.isEmpty = true then 0 else unlE (nameB s) 4 := rfl
  cases h : s.toList.isEmpty
  · rw [hp, h, if_neg (by decide)]
    clear hp
    go_enter Try.func77, Try.ntmps77
    go_wp2_with (go_at_call 46; refine (chkName_any _ _).mono ?_; rintro e w1 ⟨rfl, rfl⟩)
    go_ret
    exact ⟨rfl, Below.refl _ _⟩
  · rw [hp, h, if_pos rfl]
    clear hp
    go_enter Try.func77, Try.ntmps77
    go_wp2_with (go_at_call 46; refine (chkName_any _ _).mono ?_; rintro e w1 ⟨rfl, rfl⟩)
    go_ret
    exact ⟨rfl, Below.refl _ _⟩
set_option linter.unusedVariables false in
set_option linter.unusedSimpArgs false in
set_option maxRecDepth 100000 in
set_option maxHeartbeats 4000000 in
theorem moveError_any (a b : ByteArray) (d v : Int) (w : World) : Calls Try.prog 43 #[.agg #[.int .i64 d, .string a, .string b, .int .i64 v]] w fun e w' => e = .returned (.int .i64 (firstL [numE d 0 100000, plE a, plE b, unlE (!a.toList == b.toList) 3, numE v 0 100000])) ∧ Below w.heap.size w w' := by
  go_enter Try.func43, Try.ntmps43
  go_upto_region 1 with fail
  refine nameWorld (fun w' => w'.cell? ⟨w.heap.size, 0, none⟩ = some (.int .i64 d) ∧ w'.cell? ⟨w.heap.size, 1, none⟩ = some (.string a) ∧ w'.cell? ⟨w.heap.size, 2, none⟩ = some (.string b) ∧ w'.cell? ⟨w.heap.size, 3, none⟩ = some (.int .i64 v) ∧ Below w.heap.size w w') ⟨(newBoth rfl (Below.refl _ _) 0 _ rfl).1, (newBoth rfl (Below.refl _ _) 1 _ rfl).1, (newBoth rfl (Below.refl _ _) 2 _ rfl).1, (newBoth rfl (Below.refl _ _) 3 _ rfl).1, (Below.refl _ _).alloc (Nat.le_refl _) _⟩ (fun wc hc => ?_)
  obtain ⟨x0, x1, x2, x3, hB⟩ := hc
  refine regionX 18 0 [] [] (by kernel_rfl) (by kernel_rfl) (by kernel_rfl) (by kernel_rfl) (by decide) (fun _ _ d _ _ h => by cases d <;> exact h) ?_
  intro R hR
  simp only [List.take_succ_cons, List.take_zero]
  iterate 18 (first | (refine headP_val ?_ (by rfl) (by rfl) (fun w' hw' => ?_) ?_; rotate_left; (focus (have y0 := keepC hw' x0; have y1 := keepC hw' x1; have y2 := keepC hw' x2; have y3 := keepC hw' x3; first | (refine onlyMakes_val ?_; first | (go_simp; done) | (go_simp; with_reducible rfl)) | (apply onlyMakes_call; (first | (go_simp; done) | (go_simp; exact ⟨rfl, rfl⟩) | (go_simp; with_reducible rfl)); first | (with_reducible exact dateS _ _) | (with_reducible exact placeError_any _ _) | (with_reducible exact numS _ _ _ _) | (with_reducible exact unlS _ _ _)))); (try dsimp only); (try simp only [Act.put, List.setIfInBounds_toArray, List.set_cons_zero, List.set_cons_succ])) | (refine headP_pure ?_ (by rfl) (by rfl) (fun w' => ?_) ?_; rotate_left; (focus ((first | (go_simp; done) | (go_simp; with_reducible rfl)))); (try dsimp only); (try simp only [Act.put, List.setIfInBounds_toArray, List.set_cons_zero, List.set_cons_succ])) | (refine headP_skip (by rfl) ?_; (try dsimp only); (try simp only [Act.put, List.setIfInBounds_toArray, List.set_cons_zero, List.set_cons_succ])))
  refine headP_nil (hR.out _ ?_)
  clear x0 x1 x2 x3
  refine AnyZ.last 18 (by kernel_rfl) (by decide) (fun w2 hw2 => ?_)
  refine wpAny_one 18 (by kernel_rfl) rfl rfl ?_
  have hB2 := belowSeq2 hB hw2
  clear hR hw2 hB
  (try simp only [List.getElem_toArray, List.getElem_cons_succ, List.getElem_cons_zero])
  (try simp only [Act.put, List.setIfInBounds_toArray, List.set_cons_succ, List.set_cons_zero])
  unfold Oper.wp
  go_simp
  refine wpAny_one 19 (by kernel_rfl) rfl rfl ?_
  (try simp only [List.getElem_toArray, List.getElem_cons_succ, List.getElem_cons_zero])
  (try simp only [Act.put, List.setIfInBounds_toArray, List.set_cons_succ, List.set_cons_zero])
  unfold Oper.wp
  go_simp
  go_at_call 36
  refine (first5L_any _ _ _ _ _ _ _ (newCell 0 _ rfl) (newCell 1 _ rfl) (newCell 2 _ rfl) (newCell 3 _ rfl) (newCell 4 _ rfl)).mono ?_
  rintro e w4 ⟨rfl, rfl⟩
  dsimp only
  refine wpAny_one 20 (by kernel_rfl) rfl rfl ?_
  (try simp only [List.getElem_toArray, List.getElem_cons_succ, List.getElem_cons_zero])
  (try simp only [Act.put, List.setIfInBounds_toArray, List.set_cons_succ, List.set_cons_zero])
  unfold Oper.wp
  go_simp
  refine wpAny_done (by kernel_rfl) ?_
  go_wp2_with fail
  go_ret
  exact ⟨rfl, belowSeq2 hB2 ((Below.refl _ _).alloc (Nat.le_refl _) _)⟩
end Go.Proofs.Ytlmnhlmgbcpclaa
