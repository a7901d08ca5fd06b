/- firstWrong of stations, and CheckCask. -/
import Derived.Test.YtpidgcmdimjkoaaJ9
namespace Go.Proofs.Ytpidgcmdimjkoaa
open Go.RowKit

set_option linter.unusedVariables false in
set_option linter.unusedSimpArgs false in
set_option maxRecDepth 100000 in
set_option maxHeartbeats 4000000 in
theorem fwS_any (bc gs os N cap : Nat) (bung : Int) (x : Nat → Sn) (w : World) (hN : N ≤ 100000) (cb : w.cell? ⟨bc, 1, none⟩ = some (.int .i64 bung)) (hx : ∀ i j, i < N → j < 3 → w.cell? ⟨gs, os + i * 3 + j, none⟩ = some (.int .i64 ((x i).at j))) :
    Calls Try.prog 67 #[.slice (some ⟨gs, os, none⟩) N cap, .func (.func 68) #[] #[.pointer (some ⟨bc, 0, none⟩)], .func (.func 70) #[] #[]] w fun e w' => e = .returned (.tuple #[.int .i64 (eachF (snE bung x) N 0).1, .int .i64 (eachF (snE bung x) N 0).2]) ∧ Below w.heap.size w w' := by
  have HEA := Lib.hid (fun (b3 b4 b5 : Nat) (w1 : World) c4 c3 c5 cb (hx : ∀ i j, i < N → j < 3 → w1.cell? ⟨gs, os + i * 3 + j, none⟩ = some (.int .i64 ((x i).at j))) => eachS_any (.pointer (some ⟨b4, 0, none⟩)) (.pointer (some ⟨b3, 0, none⟩)) (.pointer (some ⟨b5, 0, none⟩)) N (snE bung x) w1 hN (fun n w2 hn hb => fwS1_any b3 b4 b5 bc gs os N cap n bung x w2 hn hN (keepC hb c4) (keepC hb c3) (keepC hb c5) (keepC hb cb) (fun i j hi hj => keepC hb (hx i j hi hj))))
  have HX := Lib.hid hx
  clear hx
  obtain ⟨r1, hr1⟩ : ∃ z, (eachF (snE bung x) N 0).1 = z := ⟨_, rfl⟩
  obtain ⟨r2, hr2⟩ : ∃ z, (eachF (snE bung x) N 0).2 = z := ⟨_, rfl⟩
  rw [hr1, hr2] at HEA ⊢
  clear hr1 hr2
  go_enter Try.func67, Try.ntmps67
  go_upto_region 1 with fail
  obtain ⟨B0, hB0⟩ : ∃ B, w.heap.size = B := ⟨_, rfl⟩
  rw [hB0]
  refine nameWorld (fun w' => w'.cell? ⟨B0, 0, none⟩ = some (.slice (some ⟨gs, os, none⟩) N cap) ∧ w'.cell? ⟨B0 + 1, 0, none⟩ = some (.func (.func 68) #[] #[.pointer (some ⟨bc, 0, none⟩)]) ∧ w'.cell? ⟨B0 + 1 + 1, 0, none⟩ = some (.func (.func 70) #[] #[]) ∧ Below B0 w w') ?_ (fun wc hc => ?_)
  · rw [← hB0]
    exact ⟨by go_cell, by go_cell, by go_cell, by go_grown⟩
  obtain ⟨c3, c4, c5, hB⟩ := hc
  have hbw : Below w.heap.size w wc := by rw [hB0]; exact hB
  have HC := Lib.hid (HEA.out B0 (B0 + 1) (B0 + 1 + 1) wc c4 c3 c5 (keepC hbw cb) (fun i j hi hj => keepC hbw (HX.out i j hi hj)))
  go_wp2_with (go_at_call 88; (with_reducible refine Calls.mono HC.out ?_); rintro e w1 ⟨rfl, hb1⟩)
  (with_reducible refine bodyPost_ret (v := .tuple #[.int .i64 r1, .int .i64 r2]) ?_ rfl ?_)
  · simp [results, Try.results67, go_sem]
  · exact ⟨rfl, by first | exact belowSeq2 hbw hb1 | (rw [← hB0]; exact belowSeq2 hbw hb1)⟩
theorem nameS (s : ByteArray) (w : World) : Calls Try.prog 44 #[.string s] w fun e w' => e = .returned (.int .i64 (unlE (nameB s) 4)) ∧ Below w.heap.size w w' := still_call (chkName_any s w)
theorem firstL4_zero {a b c d : Int} (h : firstL [a, b, c, d] = 0) : a = 0 ∧ b = 0 ∧ c = 0 ∧ d = 0 := by
  by_cases ha : a = 0 <;> by_cases hb : b = 0 <;> by_cases hc : c = 0 <;> by_cases hd : d = 0 <;> simp_all [firstL]
attribute [local irreducible] HeadP
def caskE (s : ByteArray) (bung : Int) (N : Nat) : Int := firstL [unlE (nameB s) 4, numE bung 10 800, unlE (decide ((2 : Int) ≤ (N : Int))) 10, unlE (decide ((N : Int) ≤ 12)) 8]
set_option linter.unusedVariables false in
set_option linter.unusedSimpArgs false in
set_option maxRecDepth 100000 in
set_option maxHeartbeats 4000000 in
theorem cask_wrong (s : ByteArray) (bung : Int) (sa : Option Addr) (N cap : Nat) (w : World) (hd : caskE s bung N ≠ 0) :
    Calls Try.prog 52 #[.agg #[.string s, .int .i64 bung, .slice sa N cap]] w fun e w' => e = .returned (.tuple #[.int .i64 0, .int .i64 (caskE s bung N)]) ∧ Below w.heap.size w w' := by
  have hee : firstL [unlE (nameB s) 4, numE bung 10 800, unlE (decide ((2 : Int) ≤ (N : Int))) 10, unlE (decide ((N : Int) ≤ 12)) 8] = caskE s bung N := rfl
  obtain ⟨ee, he9⟩ : ∃ z, caskE s bung N = z := ⟨_, rfl⟩
  rw [he9] at hee hd ⊢
  have HEE := Lib.hid hee
  have hnz : (ee != 0) = true := by simp [hd]
  clear hd he9 hee
  go_enter Try.func52, Try.ntmps52
  go_upto_region 1 with fail
  obtain ⟨B0, hB0⟩ : ∃ B, w.heap.size = B := ⟨_, rfl⟩
  rw [hB0]
  refine nameWorld (fun w' => w'.cell? ⟨B0, 0, none⟩ = some (.string s) ∧ w'.cell? ⟨B0, 1, none⟩ = some (.int .i64 bung) ∧ w'.cell? ⟨B0, 2, none⟩ = some (.slice sa N cap) ∧ Below w.heap.size w w') ?_ (fun wc hc => ?_)
  · rw [← hB0]
    exact ⟨by go_cell, by go_cell, by go_cell, by go_grown⟩
  obtain ⟨x0, x1, x2, hB⟩ := hc
  have k0 := Lib.hid (And.intro x0 (And.intro x1 (And.intro x2 hB)))
  refine regionX 16 0 [] [] (by kernel_rfl) (by kernel_rfl) (by kernel_rfl) (by kernel_rfl) (by decide) (fun _ _ d _ _ h => by cases d <;> exact h) ?_
  intro R hR
  simp only [List.take_succ_cons, List.take_zero]
  iterate 16 (first | (refine headP_val ?_ (by rfl) (by rfl) (fun w' hw' => ?_) ?_; rotate_left; (focus (have y0 := keepC hw' x0; have y1 := keepC hw' x1; have y2 := keepC hw' x2; first | (refine onlyMakes_val ?_; first | (go_simp; done) | (go_simp; with_reducible rfl)) | (apply onlyMakes_call; (first | (go_simp; done) | (go_simp; exact ⟨rfl, rfl⟩) | (go_simp; with_reducible rfl)); first | (with_reducible exact nameS _ _) | (with_reducible exact numS _ _ _ _) | (with_reducible exact unlS _ _ _)))); (try dsimp only); (try simp only [Act.put, List.setIfInBounds_toArray, List.set_cons_zero, List.set_cons_succ])) | (refine headP_pure ?_ (by rfl) (by rfl) (fun w' => ?_) ?_; rotate_left; (focus ((first | (go_simp; done) | (go_simp; with_reducible rfl)))); (try dsimp only); (try simp only [Act.put, List.setIfInBounds_toArray, List.set_cons_zero, List.set_cons_succ])) | (refine headP_skip (by rfl) ?_; (try dsimp only); (try simp only [Act.put, List.setIfInBounds_toArray, List.set_cons_zero, List.set_cons_succ])))
  refine headP_nil (hR.out _ ?_)
  refine AnyZ.last 16 (by kernel_rfl) (by decide) (fun w2 hw2 => ?_)
  refine wpAny_one 16 (by kernel_rfl) rfl rfl ?_
  have x0 := keepC hw2 x0
  have x1 := keepC hw2 x1
  have x2 := keepC hw2 x2
  have hB2 := belowSeq2 hB hw2
  clear hR hw2 hB k0
  (try simp only [List.getElem_toArray, List.getElem_cons_succ, List.getElem_cons_zero])
  (try simp only [Act.put, List.setIfInBounds_toArray, List.set_cons_succ, List.set_cons_zero])
  unfold Oper.wp
  go_simp
  refine wpAny_one 17 (by kernel_rfl) rfl rfl ?_
  (try simp only [List.getElem_toArray, List.getElem_cons_succ, List.getElem_cons_zero])
  (try simp only [Act.put, List.setIfInBounds_toArray, List.set_cons_succ, List.set_cons_zero])
  unfold Oper.wp
  go_simp
  go_at_call 29
  refine (first4L_any _ _ _ _ _ _ (newCell 0 _ rfl) (newCell 1 _ rfl) (newCell 2 _ rfl) (newCell 3 _ rfl)).mono ?_
  rintro e w4 ⟨rfl, rfl⟩
  dsimp only
  rw [HEE.out]
  refine wpAny_one 18 (by kernel_rfl) rfl rfl ?_
  (try simp only [List.getElem_toArray, List.getElem_cons_succ, List.getElem_cons_zero])
  (try simp only [Act.put, List.setIfInBounds_toArray, List.set_cons_succ, List.set_cons_zero])
  unfold Oper.wp
  go_simp
  refine wpAny_done (by kernel_rfl) ?_
  go_wp2_with fail
  (with_reducible refine bodyPost_ret (v := .tuple #[.int .i64 0, .int .i64 ee]) ?_ rfl ?_)
  · simp [results, Try.results52, go_sem]
  · exact ⟨rfl, belowSeq2 hB2 ((Below.refl _ _).alloc (Nat.le_refl _) _)⟩
set_option linter.unusedVariables false in
set_option linter.unusedSimpArgs false in
set_option maxRecDepth 100000 in
set_option maxHeartbeats 4000000 in
theorem cask_right (s : ByteArray) (bung : Int) (gs os N cap : Nat) (x : Nat → Sn) (w : World) (hd : caskE s bung N = 0) (hx : ∀ i j, i < N → j < 3 → w.cell? ⟨gs, os + i * 3 + j, none⟩ = some (.int .i64 ((x i).at j))) :
    Calls Try.prog 52 #[.agg #[.string s, .int .i64 bung, .slice (some ⟨gs, os, none⟩) N cap]] w fun e w' => e = .returned (.tuple #[.int .i64 (eachF (snE bung x) N 0).1, .int .i64 (eachF (snE bung x) N 0).2]) ∧ Below w.heap.size w w' := by
  have hee : firstL [unlE (nameB s) 4, numE bung 10 800, unlE (decide ((2 : Int) ≤ (N : Int))) 10, unlE (decide ((N : Int) ≤ 12)) 8] = caskE s bung N := rfl
  have hN : N ≤ 100000 := by
    by_cases h : (N : Int) ≤ 12
    · omega
    · exfalso
      have e1 : decide ((N : Int) ≤ 12) = false := by simpa using h
      have e2 := (firstL4_zero (hee.trans hd)).2.2.2
      rw [e1] at e2
      exact absurd e2 (by decide)
  rw [hd] at hee
  have HEE := Lib.hid hee
  have HX := Lib.hid hx
  have HFW := Lib.hid (fun (bc : Nat) (w1 : World) cb (hx : ∀ i j, i < N → j < 3 → w1.cell? ⟨gs, os + i * 3 + j, none⟩ = some (.int .i64 ((x i).at j))) => fwS_any bc gs os N cap bung x w1 hN cb hx)
  obtain ⟨r1, hr1⟩ : ∃ z, (eachF (snE bung x) N 0).1 = z := ⟨_, rfl⟩
  obtain ⟨r2, hr2⟩ : ∃ z, (eachF (snE bung x) N 0).2 = z := ⟨_, rfl⟩
  rw [hr1, hr2] at HFW ⊢
  clear hr1 hr2 hd hee hx
  go_enter Try.func52, Try.ntmps52
  go_upto_region 1 with fail
  obtain ⟨B0, hB0⟩ : ∃ B, w.heap.size = B := ⟨_, rfl⟩
  rw [hB0]
  refine nameWorld (fun w' => w'.cell? ⟨B0, 0, none⟩ = some (.string s) ∧ w'.cell? ⟨B0, 1, none⟩ = some (.int .i64 bung) ∧ w'.cell? ⟨B0, 2, none⟩ = some (.slice (some ⟨gs, os, none⟩) N cap) ∧ Below w.heap.size w w') ?_ (fun wc hc => ?_)
  · rw [← hB0]
    exact ⟨by go_cell, by go_cell, by go_cell, by go_grown⟩
  obtain ⟨x0, x1, x2, hB⟩ := hc
  have k0 := Lib.hid (And.intro x0 (And.intro x1 (And.intro x2 hB)))
  refine regionX 16 0 [] [] (by kernel_rfl) (by kernel_rfl) (by kernel_rfl) (by kernel_rfl) (by decide) (fun _ _ d _ _ h => by cases d <;> exact h) ?_
  intro R hR
  simp only [List.take_succ_cons, List.take_zero]
  iterate 16 (first | (refine headP_val ?_ (by rfl) (by rfl) (fun w' hw' => ?_) ?_; rotate_left; (focus (have y0 := keepC hw' x0; have y1 := keepC hw' x1; have y2 := keepC hw' x2; first | (refine onlyMakes_val ?_; first | (go_simp; done) | (go_simp; with_reducible rfl)) | (apply onlyMakes_call; (first | (go_simp; done) | (go_simp; exact ⟨rfl, rfl⟩) | (go_simp; with_reducible rfl)); first | (with_reducible exact nameS _ _) | (with_reducible exact numS _ _ _ _) | (with_reducible exact unlS _ _ _)))); (try dsimp only); (try simp only [Act.put, List.setIfInBounds_toArray, List.set_cons_zero, List.set_cons_succ])) | (refine headP_pure ?_ (by rfl) (by rfl) (fun w' => ?_) ?_; rotate_left; (focus ((first | (go_simp; done) | (go_simp; with_reducible rfl)))); (try dsimp only); (try simp only [Act.put, List.setIfInBounds_toArray, List.set_cons_zero, List.set_cons_succ])) | (refine headP_skip (by rfl) ?_; (try dsimp only); (try simp only [Act.put, List.setIfInBounds_toArray, List.set_cons_zero, List.set_cons_succ])))
  refine headP_nil (hR.out _ ?_)
  refine AnyZ.last 16 (by kernel_rfl) (by decide) (fun w2 hw2 => ?_)
  refine wpAny_one 16 (by kernel_rfl) rfl rfl ?_
  have x0 := keepC hw2 x0
  have x1 := keepC hw2 x1
  have x2 := keepC hw2 x2
  have hB2 := belowSeq2 hB hw2
  clear hR hw2 hB k0
  (try simp only [List.getElem_toArray, List.getElem_cons_succ, List.getElem_cons_zero])
  (try simp only [Act.put, List.setIfInBounds_toArray, List.set_cons_succ, List.set_cons_zero])
  unfold Oper.wp
  go_simp
  refine wpAny_one 17 (by kernel_rfl) rfl rfl ?_
  (try simp only [List.getElem_toArray, List.getElem_cons_succ, List.getElem_cons_zero])
  (try simp only [Act.put, List.setIfInBounds_toArray, List.set_cons_succ, List.set_cons_zero])
  unfold Oper.wp
  go_simp
  go_at_call 29
  refine (first4L_any _ _ _ _ _ _ (newCell 0 _ rfl) (newCell 1 _ rfl) (newCell 2 _ rfl) (newCell 3 _ rfl)).mono ?_
  rintro e w4 ⟨rfl, rfl⟩
  dsimp only
  rw [HEE.out]
  refine wpAny_one 18 (by kernel_rfl) rfl rfl ?_
  (try simp only [List.getElem_toArray, List.getElem_cons_succ, List.getElem_cons_zero])
  (try simp only [Act.put, List.setIfInBounds_toArray, List.set_cons_succ, List.set_cons_zero])
  unfold Oper.wp
  go_simp
  refine wpAny_done (by kernel_rfl) ?_
  have hbw := belowSeq2 hB2 ((Below.refl _ w2).alloc (Nat.le_refl _) (.cells #[.int .i64 (unlE (nameB s) 4), .int .i64 (numE bung 10 800), .int .i64 (unlE (decide ((2 : Int) ≤ (N : Int))) 10), .int .i64 (unlE (decide ((N : Int) ≤ 12)) 8)] 33))
  go_upto_region 4 with fail
  have ha := (Below.refl _ w2).alloc (Nat.le_refl _) (.cells #[.int .i64 (unlE (nameB s) 4), .int .i64 (numE bung 10 800), .int .i64 (unlE (decide ((2 : Int) ≤ (N : Int))) 10), .int .i64 (unlE (decide ((N : Int) ≤ 12)) 8)] 33)
  refine nameWorld (fun w' => w'.cell? ⟨B0, 1, none⟩ = some (.int .i64 bung) ∧ w'.cell? ⟨B0, 2, none⟩ = some (.slice (some ⟨gs, os, none⟩) N cap) ∧ Below w.heap.size w w') ⟨keepC ha x1, keepC ha x2, hbw⟩ (fun wd hd => ?_)
  clear ha hbw hB2 x0 x1 x2
  obtain ⟨x1, x2, hB⟩ := hd
  have HC := Lib.hid (HFW.out B0 wd x1 (fun i j hi hj => keepC hB (HX.out i j hi hj)))
  go_wp2_with (go_at_call 67; (with_reducible refine Calls.mono HC.out ?_); rintro e w5 ⟨rfl, hb5⟩)
  (with_reducible refine bodyPost_ret (v := .tuple #[.int .i64 r1, .int .i64 r2]) ?_ rfl ?_)
  · simp [results, Try.results52, go_sem]
  · exact ⟨rfl, belowSeq2 hB hb5⟩
end Go.Proofs.Ytpidgcmdimjkoaa
