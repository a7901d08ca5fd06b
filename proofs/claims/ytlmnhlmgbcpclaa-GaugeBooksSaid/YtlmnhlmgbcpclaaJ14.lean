/- CheckBook, where neither list is nil. -/
import Derived.Test.YtlmnhlmgbcpclaaJ13
namespace Go.Proofs.Ytlmnhlmgbcpclaa
open Go.RowKit

def bookE (lo hi : Int) (NR NM : Nat) : Int := firstL [rangeE lo hi 100000, unlE (decide ((NR : Int) ≤ 40)) 8, unlE (decide ((NM : Int) ≤ 60)) 8]
theorem zeroRes2 {w W2 : World} {t : TypeId} (h : Below (w.alloc (.cells #[.int .i64 0, .int .i64 0] t)).heap.size (w.alloc (.cells #[.int .i64 0, .int .i64 0] t)) W2) : W2.cell? ⟨w.heap.size, 0, none⟩ = some (.int .i64 0) ∧ W2.cell? ⟨w.heap.size, 1, none⟩ = some (.int .i64 0) ∧ W2.frozen? ⟨w.heap.size, 0, none⟩ = false ∧ W2.frozen? ⟨w.heap.size, 1, none⟩ = false :=
  ⟨(newBoth rfl h 0 _ rfl).1, (newBoth rfl h 1 _ rfl).1, (newBoth rfl h 0 _ rfl).2, (newBoth rfl h 1 _ rfl).2⟩
attribute [local irreducible] HeadP
set_option linter.unusedVariables false in
set_option linter.unusedSimpArgs false in
set_option maxRecDepth 100000 in
set_option maxHeartbeats 4000000 in
theorem book_wrong (lo hi : Int) (gr or NR cr gm om NM cm : Nat) (x : Nat → Rd) (y : Nat → Mw) (w : World) (hR : ∀ i j, i < NR → j < 4 → w.cell? ⟨gr, or + i * 4 + j, none⟩ = some ((x i).at j)) (hM : ∀ i j, i < NM → j < 4 → w.cell? ⟨gm, om + i * 4 + j, none⟩ = some ((y i).at j)) (hnr : NR ≤ 100000) (hnm : NM ≤ 100000) (hd : bookE lo hi NR NM ≠ 0) :
    Calls Try.prog 9 #[.agg #[.int .i64 lo, .int .i64 hi, .slice (some ⟨gr, or, none⟩) NR cr, .slice (some ⟨gm, om, none⟩) NM cm]] w fun e w' => e = .returned (.tuple #[.agg #[.int .i64 0, .int .i64 0], .int .i64 (bookE lo hi NR NM)]) ∧ Below w.heap.size w w' := by
  have hee : firstL [rangeE lo hi 100000, unlE (decide ((NR : Int) ≤ 40)) 8, unlE (decide ((NM : Int) ≤ 60)) 8] = bookE lo hi NR NM := rfl
  obtain ⟨ee, he9⟩ : ∃ z, bookE lo hi NR NM = z := ⟨_, rfl⟩
  rw [he9] at hee hd ⊢
  have hnz : (ee != 0) = true := by simp [hd]
  clear hd he9
  have HEE := Lib.hid hee
  have HXR := Lib.hid hR
  have HXM := Lib.hid hM
  clear hee hR hM
  go_enter Try.func9, Try.ntmps9
  go_upto_region 1 with fail
  obtain ⟨B0, hB0⟩ : ∃ B, w.heap.size = B := ⟨_, rfl⟩
  rw [hB0]
  refine nameWorld (fun w' => w'.cell? ⟨B0, 0, none⟩ = some (.int .i64 lo) ∧ w'.cell? ⟨B0, 1, none⟩ = some (.int .i64 hi) ∧ w'.cell? ⟨B0, 2, none⟩ = some (.slice (some ⟨gr, or, none⟩) NR cr) ∧ w'.cell? ⟨B0, 3, none⟩ = some (.slice (some ⟨gm, om, none⟩) NM cm) ∧ w'.cell? ⟨B0 + 1, 0, none⟩ = some (.int .i64 0) ∧ w'.cell? ⟨B0 + 1, 1, none⟩ = some (.int .i64 0) ∧ w'.frozen? ⟨B0 + 1, 0, none⟩ = false ∧ w'.frozen? ⟨B0 + 1, 1, none⟩ = false ∧ Below w.heap.size w w') ?_ (fun wc hc => ?_)
  · rw [← hB0]
    exact ⟨by go_cell, by go_cell, by go_cell, by go_cell, (newBoth (by rw [World.size_alloc]) (Below.refl _ _) 0 _ rfl).1, (newBoth (by rw [World.size_alloc]) (Below.refl _ _) 1 _ rfl).1, (newBoth (by rw [World.size_alloc]) (Below.refl _ _) 0 _ rfl).2, (newBoth (by rw [World.size_alloc]) (Below.refl _ _) 1 _ rfl).2, by go_grown⟩
  obtain ⟨x0, x1, x2, x3, r0, r1_, z0, z1, hB⟩ := hc
  refine regionX 13 0 [] [] (by kernel_rfl) (by kernel_rfl) (by kernel_rfl) (by kernel_rfl) (by decide) (fun _ _ d _ _ h => by cases d <;> exact h) ?_
  intro R hR
  simp only [List.take_succ_cons, List.take_zero]
  iterate 13 (first | (refine headP_val ?_ (by rfl) (by rfl) (fun w' hw' => ?_) ?_; rotate_left; (focus (have y0 := keepC hw' x0; have y1 := keepC hw' x1; have y2 := keepC hw' x2; have y3 := keepC hw' x3; first | (refine onlyMakes_val ?_; first | (go_simp; done) | (go_simp; with_reducible rfl)) | (apply onlyMakes_call; (first | (go_simp; done) | (go_simp; exact ⟨rfl, rfl⟩) | (go_simp; with_reducible rfl)); first | (with_reducible exact rngS _ _ _ _) | (with_reducible exact unlS _ _ _)))); (try dsimp only); (try simp only [Act.put, List.setIfInBounds_toArray, List.set_cons_zero, List.set_cons_succ])) | (refine headP_pure ?_ (by rfl) (by rfl) (fun w' => ?_) ?_; rotate_left; (focus ((first | (go_simp; done) | (go_simp; with_reducible rfl)))); (try dsimp only); (try simp only [Act.put, List.setIfInBounds_toArray, List.set_cons_zero, List.set_cons_succ])) | (refine headP_skip (by rfl) ?_; (try dsimp only); (try simp only [Act.put, List.setIfInBounds_toArray, List.set_cons_zero, List.set_cons_succ])))
  refine headP_nil (hR.out _ ?_)
  refine AnyZ.last 13 (by kernel_rfl) (by decide) (fun w2 hw2 => ?_)
  refine wpAny_one 13 (by kernel_rfl) rfl rfl ?_
  have hal := belowSeq2 hw2 ((Below.refl _ w2).alloc (Nat.le_refl _) (.cells #[.int .i64 (rangeE lo hi 100000), .int .i64 (unlE (decide ((NR : Int) ≤ 40)) 8), .int .i64 (unlE (decide ((NM : Int) ≤ 60)) 8)] 33))
  clear hR
  (try simp only [List.getElem_toArray, List.getElem_cons_succ, List.getElem_cons_zero])
  (try simp only [Act.put, List.setIfInBounds_toArray, List.set_cons_succ, List.set_cons_zero])
  unfold Oper.wp
  go_simp
  refine wpAny_one 14 (by kernel_rfl) rfl rfl ?_
  (try simp only [List.getElem_toArray, List.getElem_cons_succ, List.getElem_cons_zero])
  (try simp only [Act.put, List.setIfInBounds_toArray, List.set_cons_succ, List.set_cons_zero])
  unfold Oper.wp
  go_simp
  go_at_call 36
  refine (first3L_any _ _ _ _ _ (newCell 0 _ rfl) (newCell 1 _ rfl) (newCell 2 _ rfl)).mono ?_
  rintro e w4 ⟨rfl, rfl⟩
  dsimp only
  rw [HEE.out]
  refine wpAny_one 15 (by kernel_rfl) rfl rfl ?_
  (try simp only [List.getElem_toArray, List.getElem_cons_succ, List.getElem_cons_zero])
  (try simp only [Act.put, List.setIfInBounds_toArray, List.set_cons_succ, List.set_cons_zero])
  unfold Oper.wp
  go_simp
  refine wpAny_done (by kernel_rfl) ?_
  go_upto_region 2 with fail
  refine nameWorld (fun w' => w'.cell? ⟨B0, 2, none⟩ = some (.slice (some ⟨gr, or, none⟩) NR cr) ∧ w'.cell? ⟨B0, 3, none⟩ = some (.slice (some ⟨gm, om, none⟩) NM cm) ∧ w'.cell? ⟨B0 + 1, 0, none⟩ = some (.int .i64 0) ∧ w'.cell? ⟨B0 + 1, 1, none⟩ = some (.int .i64 0) ∧ w'.frozen? ⟨B0 + 1, 0, none⟩ = false ∧ w'.frozen? ⟨B0 + 1, 1, none⟩ = false ∧ Below w.heap.size w w') ⟨keepC hal x2, keepC hal x3, keepC hal r0, keepC hal r1_, keepF hal r0 z0, keepF hal r1_ z1, belowSeq2 hB hal⟩ (fun wd hd => ?_)
  clear hal hw2 hB x0 x1 x2 x3 r0 r1_ z0 z1
  obtain ⟨x2, x3, r0, r1_, z0, z1, hB⟩ := hd
  obtain ⟨c0, c1⟩ := set2 r0 r1_ (.int .i64 0) (.int .i64 0)
  go_wp2_with fail
  (with_reducible refine bodyPost_ret (v := .tuple #[.agg #[.int .i64 0, .int .i64 0], .int .i64 ee]) ?_ rfl ?_)
  · simp [results, Try.results9, go_sem, c0, c1]
  · exact ⟨rfl, (hB.setCell (by show w.heap.size ≤ B0 + 1; omega) _).setCell (by show w.heap.size ≤ B0 + 1; omega) _⟩
set_option linter.unusedVariables false in
set_option linter.unusedSimpArgs false in
set_option maxRecDepth 100000 in
set_option maxHeartbeats 4000000 in
theorem book_reading (lo hi : Int) (gr or NR cr gm om NM cm : Nat) (x : Nat → Rd) (y : Nat → Mw) (w : World) (hR : ∀ i j, i < NR → j < 4 → w.cell? ⟨gr, or + i * 4 + j, none⟩ = some ((x i).at j)) (hM : ∀ i j, i < NM → j < 4 → w.cell? ⟨gm, om + i * 4 + j, none⟩ = some ((y i).at j)) (hnr : NR ≤ 100000) (hnm : NM ≤ 100000) (hd : bookE lo hi NR NM = 0) (hz : (eachF (rwE x) NR 0).2 ≠ 0) :
    Calls Try.prog 9 #[.agg #[.int .i64 lo, .int .i64 hi, .slice (some ⟨gr, or, none⟩) NR cr, .slice (some ⟨gm, om, none⟩) NM cm]] w fun e w' => e = .returned (.tuple #[.agg #[.int .i64 1, .int .i64 (eachF (rwE x) NR 0).1], .int .i64 (eachF (rwE x) NR 0).2]) ∧ Below w.heap.size w w' := by
  have hee : firstL [rangeE lo hi 100000, unlE (decide ((NR : Int) ≤ 40)) 8, unlE (decide ((NM : Int) ≤ 60)) 8] = bookE lo hi NR NM := rfl
  rw [hd] at hee
  have HFR := Lib.hid (fun (w1 : World) (h : ∀ i j, i < NR → j < 4 → w1.cell? ⟨gr, or + i * 4 + j, none⟩ = some ((x i).at j)) => fwR_any gr or NR cr x w1 hnr h)
  have HFM := Lib.hid (fun (w1 : World) (h : ∀ i j, i < NM → j < 4 → w1.cell? ⟨gm, om + i * 4 + j, none⟩ = some ((y i).at j)) => fwM_any gm om NM cm y w1 hnm h)
  clear hd
  obtain ⟨p1, hp1⟩ : ∃ z, (eachF (rwE x) NR 0).1 = z := ⟨_, rfl⟩
  obtain ⟨p2, hp2⟩ : ∃ z, (eachF (rwE x) NR 0).2 = z := ⟨_, rfl⟩
  obtain ⟨q1, hq1⟩ : ∃ z, (eachF (mwE y) NM 0).1 = z := ⟨_, rfl⟩
  obtain ⟨q2, hq2⟩ : ∃ z, (eachF (mwE y) NM 0).2 = z := ⟨_, rfl⟩
  rw [hp1, hp2] at HFR
  rw [hq1, hq2] at HFM
  rw [hp2] at hz
  rw [hp1, hp2]
  have hnz : (p2 != 0) = true := by simp [hz]
  clear hz hp1 hp2 hq1 hq2
  have HEE := Lib.hid hee
  have HXR := Lib.hid hR
  have HXM := Lib.hid hM
  clear hee hR hM
  go_enter Try.func9, Try.ntmps9
  go_upto_region 1 with fail
  obtain ⟨B0, hB0⟩ : ∃ B, w.heap.size = B := ⟨_, rfl⟩
  rw [hB0]
  refine nameWorld (fun w' => w'.cell? ⟨B0, 0, none⟩ = some (.int .i64 lo) ∧ w'.cell? ⟨B0, 1, none⟩ = some (.int .i64 hi) ∧ w'.cell? ⟨B0, 2, none⟩ = some (.slice (some ⟨gr, or, none⟩) NR cr) ∧ w'.cell? ⟨B0, 3, none⟩ = some (.slice (some ⟨gm, om, none⟩) NM cm) ∧ w'.cell? ⟨B0 + 1, 0, none⟩ = some (.int .i64 0) ∧ w'.cell? ⟨B0 + 1, 1, none⟩ = some (.int .i64 0) ∧ w'.frozen? ⟨B0 + 1, 0, none⟩ = false ∧ w'.frozen? ⟨B0 + 1, 1, none⟩ = false ∧ Below w.heap.size w w') ?_ (fun wc hc => ?_)
  · rw [← hB0]
    exact ⟨by go_cell, by go_cell, by go_cell, by go_cell, (newBoth (by rw [World.size_alloc]) (Below.refl _ _) 0 _ rfl).1, (newBoth (by rw [World.size_alloc]) (Below.refl _ _) 1 _ rfl).1, (newBoth (by rw [World.size_alloc]) (Below.refl _ _) 0 _ rfl).2, (newBoth (by rw [World.size_alloc]) (Below.refl _ _) 1 _ rfl).2, by go_grown⟩
  obtain ⟨x0, x1, x2, x3, r0, r1_, z0, z1, hB⟩ := hc
  refine regionX 13 0 [] [] (by kernel_rfl) (by kernel_rfl) (by kernel_rfl) (by kernel_rfl) (by decide) (fun _ _ d _ _ h => by cases d <;> exact h) ?_
  intro R hR
  simp only [List.take_succ_cons, List.take_zero]
  iterate 13 (first | (refine headP_val ?_ (by rfl) (by rfl) (fun w' hw' => ?_) ?_; rotate_left; (focus (have y0 := keepC hw' x0; have y1 := keepC hw' x1; have y2 := keepC hw' x2; have y3 := keepC hw' x3; first | (refine onlyMakes_val ?_; first | (go_simp; done) | (go_simp; with_reducible rfl)) | (apply onlyMakes_call; (first | (go_simp; done) | (go_simp; exact ⟨rfl, rfl⟩) | (go_simp; with_reducible rfl)); first | (with_reducible exact rngS _ _ _ _) | (with_reducible exact unlS _ _ _)))); (try dsimp only); (try simp only [Act.put, List.setIfInBounds_toArray, List.set_cons_zero, List.set_cons_succ])) | (refine headP_pure ?_ (by rfl) (by rfl) (fun w' => ?_) ?_; rotate_left; (focus ((first | (go_simp; done) | (go_simp; with_reducible rfl)))); (try dsimp only); (try simp only [Act.put, List.setIfInBounds_toArray, List.set_cons_zero, List.set_cons_succ])) | (refine headP_skip (by rfl) ?_; (try dsimp only); (try simp only [Act.put, List.setIfInBounds_toArray, List.set_cons_zero, List.set_cons_succ])))
  refine headP_nil (hR.out _ ?_)
  refine AnyZ.last 13 (by kernel_rfl) (by decide) (fun w2 hw2 => ?_)
  refine wpAny_one 13 (by kernel_rfl) rfl rfl ?_
  have hal := belowSeq2 hw2 ((Below.refl _ w2).alloc (Nat.le_refl _) (.cells #[.int .i64 (rangeE lo hi 100000), .int .i64 (unlE (decide ((NR : Int) ≤ 40)) 8), .int .i64 (unlE (decide ((NM : Int) ≤ 60)) 8)] 33))
  clear hR
  (try simp only [List.getElem_toArray, List.getElem_cons_succ, List.getElem_cons_zero])
  (try simp only [Act.put, List.setIfInBounds_toArray, List.set_cons_succ, List.set_cons_zero])
  unfold Oper.wp
  go_simp
  refine wpAny_one 14 (by kernel_rfl) rfl rfl ?_
  (try simp only [List.getElem_toArray, List.getElem_cons_succ, List.getElem_cons_zero])
  (try simp only [Act.put, List.setIfInBounds_toArray, List.set_cons_succ, List.set_cons_zero])
  unfold Oper.wp
  go_simp
  go_at_call 36
  refine (first3L_any _ _ _ _ _ (newCell 0 _ rfl) (newCell 1 _ rfl) (newCell 2 _ rfl)).mono ?_
  rintro e w4 ⟨rfl, rfl⟩
  dsimp only
  rw [HEE.out]
  refine wpAny_one 15 (by kernel_rfl) rfl rfl ?_
  (try simp only [List.getElem_toArray, List.getElem_cons_succ, List.getElem_cons_zero])
  (try simp only [Act.put, List.setIfInBounds_toArray, List.set_cons_succ, List.set_cons_zero])
  unfold Oper.wp
  go_simp
  refine wpAny_done (by kernel_rfl) ?_
  go_upto_region 2 with fail
  refine nameWorld (fun w' => w'.cell? ⟨B0, 2, none⟩ = some (.slice (some ⟨gr, or, none⟩) NR cr) ∧ w'.cell? ⟨B0, 3, none⟩ = some (.slice (some ⟨gm, om, none⟩) NM cm) ∧ w'.cell? ⟨B0 + 1, 0, none⟩ = some (.int .i64 0) ∧ w'.cell? ⟨B0 + 1, 1, none⟩ = some (.int .i64 0) ∧ w'.frozen? ⟨B0 + 1, 0, none⟩ = false ∧ w'.frozen? ⟨B0 + 1, 1, none⟩ = false ∧ Below w.heap.size w w') ⟨keepC hal x2, keepC hal x3, keepC hal r0, keepC hal r1_, keepF hal r0 z0, keepF hal r1_ z1, belowSeq2 hB hal⟩ (fun wd hd => ?_)
  clear hal hw2 hB x0 x1 x2 x3 r0 r1_ z0 z1
  obtain ⟨x2, x3, r0, r1_, z0, z1, hB⟩ := hd
  have HCR := Lib.hid (HFR.out wd (fun i j hi hj => keepC hB (HXR.out i j hi hj)))
  go_wp2_with (first | (go_at_call 39; (with_reducible refine Calls.mono HCR.out ?_); rintro e w5 ⟨rfl, hb5⟩; have z0 := keepF hb5 r0 z0; have z1 := keepF hb5 r1_ z1; have r0 := keepC hb5 r0; have r1_ := keepC hb5 r1_; have x3 := keepC hb5 x3; have hB := belowSeq2 hB hb5; have HCM := Lib.hid (HFM.out w5 (fun i j hi hj => keepC hB (HXM.out i j hi hj)))) | (go_at_call 42; (with_reducible refine Calls.mono HCM.out ?_); rintro e w6 ⟨rfl, hb6⟩; have z0 := keepF hb6 r0 z0; have z1 := keepF hb6 r1_ z1; have r0 := keepC hb6 r0; have r1_ := keepC hb6 r1_; have hB := belowSeq2 hB hb6))
  obtain ⟨c0, c1⟩ := set2 r0 r1_ (.int .i64 1) (.int .i64 p1)
  (with_reducible refine bodyPost_ret (v := .tuple #[.agg #[.int .i64 1, .int .i64 p1], .int .i64 p2]) ?_ rfl ?_)
  · simp [results, Try.results9, go_sem, c0, c1]
  · exact ⟨rfl, (hB.setCell (by show w.heap.size ≤ B0 + 1; omega) _).setCell (by show w.heap.size ≤ B0 + 1; omega) _⟩
set_option linter.unusedVariables false in
set_option linter.unusedSimpArgs false in
set_option maxRecDepth 100000 in
set_option maxHeartbeats 4000000 in
theorem book_move (lo hi : Int) (gr or NR cr gm om NM cm : Nat) (x : Nat → Rd) (y : Nat → Mw) (w : World) (hR : ∀ i j, i < NR → j < 4 → w.cell? ⟨gr, or + i * 4 + j, none⟩ = some ((x i).at j)) (hM : ∀ i j, i < NM → j < 4 → w.cell? ⟨gm, om + i * 4 + j, none⟩ = some ((y i).at j)) (hnr : NR ≤ 100000) (hnm : NM ≤ 100000) (hd : bookE lo hi NR NM = 0) (hz : (eachF (rwE x) NR 0).2 = 0) (hz2 : (eachF (mwE y) NM 0).2 ≠ 0) :
    Calls Try.prog 9 #[.agg #[.int .i64 lo, .int .i64 hi, .slice (some ⟨gr, or, none⟩) NR cr, .slice (some ⟨gm, om, none⟩) NM cm]] w fun e w' => e = .returned (.tuple #[.agg #[.int .i64 2, .int .i64 (eachF (mwE y) NM 0).1], .int .i64 (eachF (mwE y) NM 0).2]) ∧ Below w.heap.size w w' := by
  have hee : firstL [rangeE lo hi 100000, unlE (decide ((NR : Int) ≤ 40)) 8, unlE (decide ((NM : Int) ≤ 60)) 8] = bookE lo hi NR NM := rfl
  rw [hd] at hee
  have HFR := Lib.hid (fun (w1 : World) (h : ∀ i j, i < NR → j < 4 → w1.cell? ⟨gr, or + i * 4 + j, none⟩ = some ((x i).at j)) => fwR_any gr or NR cr x w1 hnr h)
  have HFM := Lib.hid (fun (w1 : World) (h : ∀ i j, i < NM → j < 4 → w1.cell? ⟨gm, om + i * 4 + j, none⟩ = some ((y i).at j)) => fwM_any gm om NM cm y w1 hnm h)
  clear hd
  obtain ⟨p1, hp1⟩ : ∃ z, (eachF (rwE x) NR 0).1 = z := ⟨_, rfl⟩
  obtain ⟨p2, hp2⟩ : ∃ z, (eachF (rwE x) NR 0).2 = z := ⟨_, rfl⟩
  obtain ⟨q1, hq1⟩ : ∃ z, (eachF (mwE y) NM 0).1 = z := ⟨_, rfl⟩
  obtain ⟨q2, hq2⟩ : ∃ z, (eachF (mwE y) NM 0).2 = z := ⟨_, rfl⟩
  rw [hp1, hp2] at HFR
  rw [hq1, hq2] at HFM
  rw [hp2] at hz
  rw [hq2] at hz2
  rw [hq1, hq2]
  have hnz : (p2 != 0) = false := by simp [hz]
  have hnz2 : (q2 != 0) = true := by simp [hz2]
  clear hz hz2 hp1 hp2 hq1 hq2
  have HEE := Lib.hid hee
  have HXR := Lib.hid hR
  have HXM := Lib.hid hM
  clear hee hR hM
  go_enter Try.func9, Try.ntmps9
  go_upto_region 1 with fail
  obtain ⟨B0, hB0⟩ : ∃ B, w.heap.size = B := ⟨_, rfl⟩
  rw [hB0]
  refine nameWorld (fun w' => w'.cell? ⟨B0, 0, none⟩ = some (.int .i64 lo) ∧ w'.cell? ⟨B0, 1, none⟩ = some (.int .i64 hi) ∧ w'.cell? ⟨B0, 2, none⟩ = some (.slice (some ⟨gr, or, none⟩) NR cr) ∧ w'.cell? ⟨B0, 3, none⟩ = some (.slice (some ⟨gm, om, none⟩) NM cm) ∧ w'.cell? ⟨B0 + 1, 0, none⟩ = some (.int .i64 0) ∧ w'.cell? ⟨B0 + 1, 1, none⟩ = some (.int .i64 0) ∧ w'.frozen? ⟨B0 + 1, 0, none⟩ = false ∧ w'.frozen? ⟨B0 + 1, 1, none⟩ = false ∧ Below w.heap.size w w') ?_ (fun wc hc => ?_)
  · rw [← hB0]
    exact ⟨by go_cell, by go_cell, by go_cell, by go_cell, (newBoth (by rw [World.size_alloc]) (Below.refl _ _) 0 _ rfl).1, (newBoth (by rw [World.size_alloc]) (Below.refl _ _) 1 _ rfl).1, (newBoth (by rw [World.size_alloc]) (Below.refl _ _) 0 _ rfl).2, (newBoth (by rw [World.size_alloc]) (Below.refl _ _) 1 _ rfl).2, by go_grown⟩
  obtain ⟨x0, x1, x2, x3, r0, r1_, z0, z1, hB⟩ := hc
  refine regionX 13 0 [] [] (by kernel_rfl) (by kernel_rfl) (by kernel_rfl) (by kernel_rfl) (by decide) (fun _ _ d _ _ h => by cases d <;> exact h) ?_
  intro R hR
  simp only [List.take_succ_cons, List.take_zero]
  iterate 13 (first | (refine headP_val ?_ (by rfl) (by rfl) (fun w' hw' => ?_) ?_; rotate_left; (focus (have y0 := keepC hw' x0; have y1 := keepC hw' x1; have y2 := keepC hw' x2; have y3 := keepC hw' x3; first | (refine onlyMakes_val ?_; first | (go_simp; done) | (go_simp; with_reducible rfl)) | (apply onlyMakes_call; (first | (go_simp; done) | (go_simp; exact ⟨rfl, rfl⟩) | (go_simp; with_reducible rfl)); first | (with_reducible exact rngS _ _ _ _) | (with_reducible exact unlS _ _ _)))); (try dsimp only); (try simp only [Act.put, List.setIfInBounds_toArray, List.set_cons_zero, List.set_cons_succ])) | (refine headP_pure ?_ (by rfl) (by rfl) (fun w' => ?_) ?_; rotate_left; (focus ((first | (go_simp; done) | (go_simp; with_reducible rfl)))); (try dsimp only); (try simp only [Act.put, List.setIfInBounds_toArray, List.set_cons_zero, List.set_cons_succ])) | (refine headP_skip (by rfl) ?_; (try dsimp only); (try simp only [Act.put, List.setIfInBounds_toArray, List.set_cons_zero, List.set_cons_succ])))
  refine headP_nil (hR.out _ ?_)
  refine AnyZ.last 13 (by kernel_rfl) (by decide) (fun w2 hw2 => ?_)
  refine wpAny_one 13 (by kernel_rfl) rfl rfl ?_
  have hal := belowSeq2 hw2 ((Below.refl _ w2).alloc (Nat.le_refl _) (.cells #[.int .i64 (rangeE lo hi 100000), .int .i64 (unlE (decide ((NR : Int) ≤ 40)) 8), .int .i64 (unlE (decide ((NM : Int) ≤ 60)) 8)] 33))
  clear hR
  (try simp only [List.getElem_toArray, List.getElem_cons_succ, List.getElem_cons_zero])
  (try simp only [Act.put, List.setIfInBounds_toArray, List.set_cons_succ, List.set_cons_zero])
  unfold Oper.wp
  go_simp
  refine wpAny_one 14 (by kernel_rfl) rfl rfl ?_
  (try simp only [List.getElem_toArray, List.getElem_cons_succ, List.getElem_cons_zero])
  (try simp only [Act.put, List.setIfInBounds_toArray, List.set_cons_succ, List.set_cons_zero])
  unfold Oper.wp
  go_simp
  go_at_call 36
  refine (first3L_any _ _ _ _ _ (newCell 0 _ rfl) (newCell 1 _ rfl) (newCell 2 _ rfl)).mono ?_
  rintro e w4 ⟨rfl, rfl⟩
  dsimp only
  rw [HEE.out]
  refine wpAny_one 15 (by kernel_rfl) rfl rfl ?_
  (try simp only [List.getElem_toArray, List.getElem_cons_succ, List.getElem_cons_zero])
  (try simp only [Act.put, List.setIfInBounds_toArray, List.set_cons_succ, List.set_cons_zero])
  unfold Oper.wp
  go_simp
  refine wpAny_done (by kernel_rfl) ?_
  go_upto_region 2 with fail
  refine nameWorld (fun w' => w'.cell? ⟨B0, 2, none⟩ = some (.slice (some ⟨gr, or, none⟩) NR cr) ∧ w'.cell? ⟨B0, 3, none⟩ = some (.slice (some ⟨gm, om, none⟩) NM cm) ∧ w'.cell? ⟨B0 + 1, 0, none⟩ = some (.int .i64 0) ∧ w'.cell? ⟨B0 + 1, 1, none⟩ = some (.int .i64 0) ∧ w'.frozen? ⟨B0 + 1, 0, none⟩ = false ∧ w'.frozen? ⟨B0 + 1, 1, none⟩ = false ∧ Below w.heap.size w w') ⟨keepC hal x2, keepC hal x3, keepC hal r0, keepC hal r1_, keepF hal r0 z0, keepF hal r1_ z1, belowSeq2 hB hal⟩ (fun wd hd => ?_)
  clear hal hw2 hB x0 x1 x2 x3 r0 r1_ z0 z1
  obtain ⟨x2, x3, r0, r1_, z0, z1, hB⟩ := hd
  have HCR := Lib.hid (HFR.out wd (fun i j hi hj => keepC hB (HXR.out i j hi hj)))
  go_wp2_with (first | (go_at_call 39; (with_reducible refine Calls.mono HCR.out ?_); rintro e w5 ⟨rfl, hb5⟩; have z0 := keepF hb5 r0 z0; have z1 := keepF hb5 r1_ z1; have r0 := keepC hb5 r0; have r1_ := keepC hb5 r1_; have x3 := keepC hb5 x3; have hB := belowSeq2 hB hb5; have HCM := Lib.hid (HFM.out w5 (fun i j hi hj => keepC hB (HXM.out i j hi hj)))) | (go_at_call 42; (with_reducible refine Calls.mono HCM.out ?_); rintro e w6 ⟨rfl, hb6⟩; have z0 := keepF hb6 r0 z0; have z1 := keepF hb6 r1_ z1; have r0 := keepC hb6 r0; have r1_ := keepC hb6 r1_; have hB := belowSeq2 hB hb6))
  obtain ⟨c0, c1⟩ := set2 r0 r1_ (.int .i64 2) (.int .i64 q1)
  (with_reducible refine bodyPost_ret (v := .tuple #[.agg #[.int .i64 2, .int .i64 q1], .int .i64 q2]) ?_ rfl ?_)
  · simp [results, Try.results9, go_sem, c0, c1]
  · exact ⟨rfl, (hB.setCell (by show w.heap.size ≤ B0 + 1; omega) _).setCell (by show w.heap.size ≤ B0 + 1; omega) _⟩
set_option linter.unusedVariables false in
set_option linter.unusedSimpArgs false in
set_option maxRecDepth 100000 in
set_option maxHeartbeats 4000000 in
theorem book_fine (lo hi : Int) (gr or NR cr gm om NM cm : Nat) (x : Nat → Rd) (y : Nat → Mw) (w : World) (hR : ∀ i j, i < NR → j < 4 → w.cell? ⟨gr, or + i * 4 + j, none⟩ = some ((x i).at j)) (hM : ∀ i j, i < NM → j < 4 → w.cell? ⟨gm, om + i * 4 + j, none⟩ = some ((y i).at j)) (hnr : NR ≤ 100000) (hnm : NM ≤ 100000) (hd : bookE lo hi NR NM = 0) (hz : (eachF (rwE x) NR 0).2 = 0) (hz2 : (eachF (mwE y) NM 0).2 = 0) :
    Calls Try.prog 9 #[.agg #[.int .i64 lo, .int .i64 hi, .slice (some ⟨gr, or, none⟩) NR cr, .slice (some ⟨gm, om, none⟩) NM cm]] w fun e w' => e = .returned (.tuple #[.agg #[.int .i64 0, .int .i64 0], .int .i64 0]) ∧ Below w.heap.size w w' := by
  have hee : firstL [rangeE lo hi 100000, unlE (decide ((NR : Int) ≤ 40)) 8, unlE (decide ((NM : Int) ≤ 60)) 8] = bookE lo hi NR NM := rfl
  rw [hd] at hee
  have HFR := Lib.hid (fun (w1 : World) (h : ∀ i j, i < NR → j < 4 → w1.cell? ⟨gr, or + i * 4 + j, none⟩ = some ((x i).at j)) => fwR_any gr or NR cr x w1 hnr h)
  have HFM := Lib.hid (fun (w1 : World) (h : ∀ i j, i < NM → j < 4 → w1.cell? ⟨gm, om + i * 4 + j, none⟩ = some ((y i).at j)) => fwM_any gm om NM cm y w1 hnm h)
  clear hd
  obtain ⟨p1, hp1⟩ : ∃ z, (eachF (rwE x) NR 0).1 = z := ⟨_, rfl⟩
  obtain ⟨p2, hp2⟩ : ∃ z, (eachF (rwE x) NR 0).2 = z := ⟨_, rfl⟩
  obtain ⟨q1, hq1⟩ : ∃ z, (eachF (mwE y) NM 0).1 = z := ⟨_, rfl⟩
  obtain ⟨q2, hq2⟩ : ∃ z, (eachF (mwE y) NM 0).2 = z := ⟨_, rfl⟩
  rw [hp1, hp2] at HFR
  rw [hq1, hq2] at HFM
  rw [hp2] at hz
  rw [hq2] at hz2
  have hnz : (p2 != 0) = false := by simp [hz]
  have hnz2 : (q2 != 0) = false := by simp [hz2]
  clear hz hz2 hp1 hp2 hq1 hq2
  have HEE := Lib.hid hee
  have HXR := Lib.hid hR
  have HXM := Lib.hid hM
  clear hee hR hM
  go_enter Try.func9, Try.ntmps9
  go_upto_region 1 with fail
  obtain ⟨B0, hB0⟩ : ∃ B, w.heap.size = B := ⟨_, rfl⟩
  rw [hB0]
  refine nameWorld (fun w' => w'.cell? ⟨B0, 0, none⟩ = some (.int .i64 lo) ∧ w'.cell? ⟨B0, 1, none⟩ = some (.int .i64 hi) ∧ w'.cell? ⟨B0, 2, none⟩ = some (.slice (some ⟨gr, or, none⟩) NR cr) ∧ w'.cell? ⟨B0, 3, none⟩ = some (.slice (some ⟨gm, om, none⟩) NM cm) ∧ w'.cell? ⟨B0 + 1, 0, none⟩ = some (.int .i64 0) ∧ w'.cell? ⟨B0 + 1, 1, none⟩ = some (.int .i64 0) ∧ w'.frozen? ⟨B0 + 1, 0, none⟩ = false ∧ w'.frozen? ⟨B0 + 1, 1, none⟩ = false ∧ Below w.heap.size w w') ?_ (fun wc hc => ?_)
  · rw [← hB0]
    exact ⟨by go_cell, by go_cell, by go_cell, by go_cell, (newBoth (by rw [World.size_alloc]) (Below.refl _ _) 0 _ rfl).1, (newBoth (by rw [World.size_alloc]) (Below.refl _ _) 1 _ rfl).1, (newBoth (by rw [World.size_alloc]) (Below.refl _ _) 0 _ rfl).2, (newBoth (by rw [World.size_alloc]) (Below.refl _ _) 1 _ rfl).2, by go_grown⟩
  obtain ⟨x0, x1, x2, x3, r0, r1_, z0, z1, hB⟩ := hc
  refine regionX 13 0 [] [] (by kernel_rfl) (by kernel_rfl) (by kernel_rfl) (by kernel_rfl) (by decide) (fun _ _ d _ _ h => by cases d <;> exact h) ?_
  intro R hR
  simp only [List.take_succ_cons, List.take_zero]
  iterate 13 (first | (refine headP_val ?_ (by rfl) (by rfl) (fun w' hw' => ?_) ?_; rotate_left; (focus (have y0 := keepC hw' x0; have y1 := keepC hw' x1; have y2 := keepC hw' x2; have y3 := keepC hw' x3; first | (refine onlyMakes_val ?_; first | (go_simp; done) | (go_simp; with_reducible rfl)) | (apply onlyMakes_call; (first | (go_simp; done) | (go_simp; exact ⟨rfl, rfl⟩) | (go_simp; with_reducible rfl)); first | (with_reducible exact rngS _ _ _ _) | (with_reducible exact unlS _ _ _)))); (try dsimp only); (try simp only [Act.put, List.setIfInBounds_toArray, List.set_cons_zero, List.set_cons_succ])) | (refine headP_pure ?_ (by rfl) (by rfl) (fun w' => ?_) ?_; rotate_left; (focus ((first | (go_simp; done) | (go_simp; with_reducible rfl)))); (try dsimp only); (try simp only [Act.put, List.setIfInBounds_toArray, List.set_cons_zero, List.set_cons_succ])) | (refine headP_skip (by rfl) ?_; (try dsimp only); (try simp only [Act.put, List.setIfInBounds_toArray, List.set_cons_zero, List.set_cons_succ])))
  refine headP_nil (hR.out _ ?_)
  refine AnyZ.last 13 (by kernel_rfl) (by decide) (fun w2 hw2 => ?_)
  refine wpAny_one 13 (by kernel_rfl) rfl rfl ?_
  have hal := belowSeq2 hw2 ((Below.refl _ w2).alloc (Nat.le_refl _) (.cells #[.int .i64 (rangeE lo hi 100000), .int .i64 (unlE (decide ((NR : Int) ≤ 40)) 8), .int .i64 (unlE (decide ((NM : Int) ≤ 60)) 8)] 33))
  clear hR
  (try simp only [List.getElem_toArray, List.getElem_cons_succ, List.getElem_cons_zero])
  (try simp only [Act.put, List.setIfInBounds_toArray, List.set_cons_succ, List.set_cons_zero])
  unfold Oper.wp
  go_simp
  refine wpAny_one 14 (by kernel_rfl) rfl rfl ?_
  (try simp only [List.getElem_toArray, List.getElem_cons_succ, List.getElem_cons_zero])
  (try simp only [Act.put, List.setIfInBounds_toArray, List.set_cons_succ, List.set_cons_zero])
  unfold Oper.wp
  go_simp
  go_at_call 36
  refine (first3L_any _ _ _ _ _ (newCell 0 _ rfl) (newCell 1 _ rfl) (newCell 2 _ rfl)).mono ?_
  rintro e w4 ⟨rfl, rfl⟩
  dsimp only
  rw [HEE.out]
  refine wpAny_one 15 (by kernel_rfl) rfl rfl ?_
  (try simp only [List.getElem_toArray, List.getElem_cons_succ, List.getElem_cons_zero])
  (try simp only [Act.put, List.setIfInBounds_toArray, List.set_cons_succ, List.set_cons_zero])
  unfold Oper.wp
  go_simp
  refine wpAny_done (by kernel_rfl) ?_
  go_upto_region 2 with fail
  refine nameWorld (fun w' => w'.cell? ⟨B0, 2, none⟩ = some (.slice (some ⟨gr, or, none⟩) NR cr) ∧ w'.cell? ⟨B0, 3, none⟩ = some (.slice (some ⟨gm, om, none⟩) NM cm) ∧ w'.cell? ⟨B0 + 1, 0, none⟩ = some (.int .i64 0) ∧ w'.cell? ⟨B0 + 1, 1, none⟩ = some (.int .i64 0) ∧ w'.frozen? ⟨B0 + 1, 0, none⟩ = false ∧ w'.frozen? ⟨B0 + 1, 1, none⟩ = false ∧ Below w.heap.size w w') ⟨keepC hal x2, keepC hal x3, keepC hal r0, keepC hal r1_, keepF hal r0 z0, keepF hal r1_ z1, belowSeq2 hB hal⟩ (fun wd hd => ?_)
  clear hal hw2 hB x0 x1 x2 x3 r0 r1_ z0 z1
  obtain ⟨x2, x3, r0, r1_, z0, z1, hB⟩ := hd
  have HCR := Lib.hid (HFR.out wd (fun i j hi hj => keepC hB (HXR.out i j hi hj)))
  go_wp2_with (first | (go_at_call 39; (with_reducible refine Calls.mono HCR.out ?_); rintro e w5 ⟨rfl, hb5⟩; have z0 := keepF hb5 r0 z0; have z1 := keepF hb5 r1_ z1; have r0 := keepC hb5 r0; have r1_ := keepC hb5 r1_; have x3 := keepC hb5 x3; have hB := belowSeq2 hB hb5; have HCM := Lib.hid (HFM.out w5 (fun i j hi hj => keepC hB (HXM.out i j hi hj)))) | (go_at_call 42; (with_reducible refine Calls.mono HCM.out ?_); rintro e w6 ⟨rfl, hb6⟩; have z0 := keepF hb6 r0 z0; have z1 := keepF hb6 r1_ z1; have r0 := keepC hb6 r0; have r1_ := keepC hb6 r1_; have hB := belowSeq2 hB hb6))
  obtain ⟨c0, c1⟩ := set2 r0 r1_ (.int .i64 0) (.int .i64 0)
  (with_reducible refine bodyPost_ret (v := .tuple #[.agg #[.int .i64 0, .int .i64 0], .int .i64 0]) ?_ rfl ?_)
  · simp [results, Try.results9, go_sem, c0, c1]
  · exact ⟨rfl, (hB.setCell (by show w.heap.size ≤ B0 + 1; omega) _).setCell (by show w.heap.size ≤ B0 + 1; omega) _⟩
end Go.Proofs.Ytlmnhlmgbcpclaa
