/- Gaugings of a book: their errors, and the first wrong one. -/
import Derived.Test.YtlmnhlmgbcpclaaJB
import Derived.Test.YtlmnhlmgbcpclaaF2
namespace Go.Proofs.Ytlmnhlmgbcpclaa
open Go.RowKit

structure Rd where
  (s : ByteArray) (d lo hi : Int)
def Rd.at (x : Rd) : Nat → Value
  | 0 => .string x.s | 1 => .int .i64 x.d | 2 => .int .i64 x.lo | _ => .int .i64 x.hi
def rdE (x : Rd) : Int := firstL [unlE (nameB x.s) 4, numE x.d 0 100000, rangeE x.lo x.hi 100000]
def rwE (x : Nat → Rd) (n : Nat) : Int := firstL [rdE (x n), unlE (decide (n = 0) || decide ((x (n - 1)).d ≤ (x n).d)) 9]
theorem dateS (n : Int) (w : World) : Calls Try.prog 47 #[.int .i64 n] w fun e w' => e = .returned (.int .i64 (numE n 0 100000)) ∧ Below w.heap.size w w' := still_call (date_any n w)
theorem rngS (lo hi m : Int) (w : World) : Calls Try.prog 37 #[.agg #[.int .i64 lo, .int .i64 hi], .int .i64 m] w fun e w' => e = .returned (.int .i64 (rangeE lo hi m)) ∧ Below w.heap.size w w' := rangeError_any lo hi m w
set_option linter.unusedVariables false in
set_option linter.unusedSimpArgs false in
set_option maxRecDepth 100000 in
set_option maxHeartbeats 4000000 in
theorem gaugingError_any (s : ByteArray) (d lo hi : Int) (w : World) : Calls Try.prog 40 #[.agg #[.string s, .int .i64 d, .int .i64 lo, .int .i64 hi]] w fun e w' => e = .returned (.int .i64 (firstL [unlE (nameB s) 4, numE d 0 100000, rangeE lo hi 100000])) ∧ Below w.heap.size w w' := by
  go_enter Try.func40, Try.ntmps40
  go_upto_region 1 with fail
  refine nameWorld (fun w' => w'.cell? ⟨w.heap.size, 0, none⟩ = some (.string s) ∧ w'.cell? ⟨w.heap.size, 1, none⟩ = some (.int .i64 d) ∧ w'.cell? ⟨w.heap.size, 2, none⟩ = some (.int .i64 lo) ∧ w'.cell? ⟨w.heap.size, 3, none⟩ = some (.int .i64 hi) ∧ Below w.heap.size w w') ⟨(newBoth rfl (Below.refl _ _) 0 _ rfl).1, (newBoth rfl (Below.refl _ _) 1 _ rfl).1, (newBoth rfl (Below.refl _ _) 2 _ rfl).1, (newBoth rfl (Below.refl _ _) 3 _ rfl).1, (Below.refl _ _).alloc (Nat.le_refl _) _⟩ (fun wc hc => ?_)
  obtain ⟨x0, x1, x2, x3, hB⟩ := hc
  refine regionX 9 0 [] [] (by kernel_rfl) (by kernel_rfl) (by kernel_rfl) (by kernel_rfl) (by decide) (fun _ _ d _ _ h => by cases d <;> exact h) ?_
  intro R hR
  simp only [List.take_succ_cons, List.take_zero]
  iterate 9 (first | (refine headP_val ?_ (by rfl) (by rfl) (fun w' hw' => ?_) ?_; rotate_left; (focus (have y0 := keepC hw' x0; have y1 := keepC hw' x1; have y2 := keepC hw' x2; have y3 := keepC hw' x3; first | (refine onlyMakes_val ?_; first | (go_simp; done) | (go_simp; with_reducible rfl)) | (apply onlyMakes_call; (first | (go_simp; done) | (go_simp; exact ⟨rfl, rfl⟩) | (go_simp; with_reducible rfl)); first | (with_reducible exact nameS _ _) | (with_reducible exact dateS _ _) | (with_reducible exact rngS _ _ _ _)))); (try dsimp only); (try simp only [Act.put, List.setIfInBounds_toArray, List.set_cons_zero, List.set_cons_succ])) | (refine headP_pure ?_ (by rfl) (by rfl) (fun w' => ?_) ?_; rotate_left; (focus ((first | (go_simp; done) | (go_simp; with_reducible rfl)))); (try dsimp only); (try simp only [Act.put, List.setIfInBounds_toArray, List.set_cons_zero, List.set_cons_succ])) | (refine headP_skip (by rfl) ?_; (try dsimp only); (try simp only [Act.put, List.setIfInBounds_toArray, List.set_cons_zero, List.set_cons_succ])))
  refine headP_nil (hR.out _ ?_)
  clear x0 x1 x2 x3
  refine AnyZ.last 9 (by kernel_rfl) (by decide) (fun w2 hw2 => ?_)
  refine wpAny_one 9 (by kernel_rfl) rfl rfl ?_
  have hB2 := belowSeq2 hB hw2
  clear hR hw2 hB
  (try simp only [List.getElem_toArray, List.getElem_cons_succ, List.getElem_cons_zero])
  (try simp only [Act.put, List.setIfInBounds_toArray, List.set_cons_succ, List.set_cons_zero])
  unfold Oper.wp
  go_simp
  refine wpAny_one 10 (by kernel_rfl) rfl rfl ?_
  (try simp only [List.getElem_toArray, List.getElem_cons_succ, List.getElem_cons_zero])
  (try simp only [Act.put, List.setIfInBounds_toArray, List.set_cons_succ, List.set_cons_zero])
  unfold Oper.wp
  go_simp
  go_at_call 36
  refine (first3L_any _ _ _ _ _ (newCell 0 _ rfl) (newCell 1 _ rfl) (newCell 2 _ rfl)).mono ?_
  rintro e w4 ⟨rfl, rfl⟩
  dsimp only
  refine wpAny_one 11 (by kernel_rfl) rfl rfl ?_
  (try simp only [List.getElem_toArray, List.getElem_cons_succ, List.getElem_cons_zero])
  (try simp only [Act.put, List.setIfInBounds_toArray, List.set_cons_succ, List.set_cons_zero])
  unfold Oper.wp
  go_simp
  refine wpAny_done (by kernel_rfl) ?_
  go_wp2_with fail
  go_ret
  exact ⟨rfl, belowSeq2 hB2 ((Below.refl _ _).alloc (Nat.le_refl _) _)⟩
set_option linter.unusedVariables false in
set_option linter.unusedSimpArgs false in
set_option maxRecDepth 100000 in
set_option maxHeartbeats 4000000 in
theorem book1_any (s s2 : ByteArray) (d lo hi d2 lo2 hi2 : Int) (w : World) : Calls Try.prog 41 #[.agg #[.string s, .int .i64 d, .int .i64 lo, .int .i64 hi], .agg #[.string s2, .int .i64 d2, .int .i64 lo2, .int .i64 hi2]] w fun e w' => e = .returned (.bool (decide (d ≤ d2))) ∧ Below w.heap.size w w' := by
  go_enter Try.func41, Try.ntmps41
  go_wp2_with fail
  go_ret
  exact ⟨rfl, by go_grown⟩
attribute [local irreducible] HeadP
set_option linter.unusedVariables false in
set_option linter.unusedSimpArgs false in
set_option maxRecDepth 100000 in
set_option maxHeartbeats 4000000 in
theorem fwR1_any (b3 b4 b5 gs os N cap n : Nat) (x : Nat → Rd) (w : World) (hn : n < N) (hN : N ≤ 100000) (c4 : w.cell? ⟨b4, 0, none⟩ = some (.func (.func 40) #[] #[])) (c3 : w.cell? ⟨b3, 0, none⟩ = some (.slice (some ⟨gs, os, none⟩) N cap)) (c5 : w.cell? ⟨b5, 0, none⟩ = some (.func (.func 41) #[] #[])) (hx : ∀ i j, i < N → j < 4 → w.cell? ⟨gs, os + i * 4 + j, none⟩ = some ((x i).at j)) :
    Calls Try.prog 75 #[.int .i64 (n : Int), .pointer (some ⟨b4, 0, none⟩), .pointer (some ⟨b3, 0, none⟩), .pointer (some ⟨b5, 0, none⟩)] w fun e w' => e = .returned (.int .i64 (rwE x n)) ∧ Below w.heap.size w w' := by
  have hk0 : (0 : Int) ≤ (n : Int) := by omega
  have hk1 : (n : Int) < (N : Int) := by omega
  obtain ⟨⟨s, d, lo, hi⟩, hr⟩ : ∃ z, x n = z := ⟨_, rfl⟩
  have d_0 := hx n 0 hn (by decide)
  rw [hr] at d_0
  rw [Nat.add_zero] at d_0
  dsimp only [Rd.at] at d_0
  have d_1 := hx n 1 hn (by decide)
  rw [hr] at d_1
  dsimp only [Rd.at] at d_1
  have d_2 := hx n 2 hn (by decide)
  rw [hr] at d_2
  dsimp only [Rd.at] at d_2
  have d_3 := hx n 3 hn (by decide)
  rw [hr] at d_3
  dsimp only [Rd.at] at d_3
  have HC1 := Lib.hid (fun (w' : World) => gaugingError_any s d lo hi w')
  obtain ⟨ee, hee⟩ : ∃ z, firstL [unlE (nameB s) 4, numE d 0 100000, rangeE lo hi 100000] = z := ⟨_, rfl⟩
  rw [hee] at HC1
  by_cases h0 : n = 0
  · have h1 : ((n : Int) == 0) = true := by simp; omega
    have HR : Hid (rwE x n = firstL [ee, unlE true 9]) := Lib.hid (by unfold rwE rdE; rw [hr, show decide (n = 0) = true by simpa using h0]; dsimp only; rw [hee]; rfl)
    clear hee hr h0 hx
    have hB := Below.refl w.heap.size w
    go_enter Try.func75, Try.ntmps75
    go_upto_region 1 with fail
    refine regionX 22 0 [] [] (by kernel_rfl) (by kernel_rfl) (by kernel_rfl) (by kernel_rfl) (by decide) (fun _ _ d _ _ h => by cases d <;> exact h) ?_
    intro R hR
    simp only [List.take_succ_cons, List.take_zero]
    iterate 22 (first | (refine headP_val ?_ (by rfl) (by rfl) (fun w' hw' => ?_) ?_; rotate_left; (focus (have y0 := keepC hw' c4; have y1 := keepC hw' c3; have y2 := keepC hw' c5; have y3 := keepC hw' d_0; have y4 := keepC hw' d_1; have y5 := keepC hw' d_2; have y6 := keepC hw' d_3; first | (refine onlyMakes_val ?_; first | (go_simp; done) | (go_simp; with_reducible rfl)) | (apply onlyMakes_call; (first | (go_simp; done) | (go_simp; exact ⟨rfl, rfl⟩) | (go_simp; with_reducible rfl)); first | (with_reducible exact HC1.out _) | (with_reducible exact unlS _ _ _)))); (try dsimp only); (try simp only [Act.put, List.setIfInBounds_toArray, List.set_cons_zero, List.set_cons_succ])) | (refine headP_pure ?_ (by rfl) (by rfl) (fun w' => ?_) ?_; rotate_left; (focus ((first | (go_simp; done) | (go_simp; with_reducible rfl)))); (try dsimp only); (try simp only [Act.put, List.setIfInBounds_toArray, List.set_cons_zero, List.set_cons_succ])) | (refine headP_skip (by rfl) ?_; (try dsimp only); (try simp only [Act.put, List.setIfInBounds_toArray, List.set_cons_zero, List.set_cons_succ])))
    refine headP_nil (hR.out _ ?_)
    clear c4 c3 c5 d_0 d_1 d_2 d_3
    refine AnyZ.last 22 (by kernel_rfl) (by decide) (fun w2 hw2 => ?_)
    refine wpAny_one 22 (by kernel_rfl) rfl rfl ?_
    have hB2 := belowSeq2 hB hw2
    clear hR hw2 hB
    (try simp only [List.getElem_toArray, List.getElem_cons_succ, List.getElem_cons_zero])
    (try simp only [Act.put, List.setIfInBounds_toArray, List.set_cons_succ, List.set_cons_zero])
    unfold Oper.wp
    go_simp
    refine wpAny_one 23 (by kernel_rfl) rfl rfl ?_
    (try simp only [List.getElem_toArray, List.getElem_cons_succ, List.getElem_cons_zero])
    (try simp only [Act.put, List.setIfInBounds_toArray, List.set_cons_succ, List.set_cons_zero])
    unfold Oper.wp
    go_simp
    go_at_call 36
    refine (first2L_any _ _ _ _ (newCell 0 _ rfl) (newCell 1 _ rfl)).mono ?_
    rintro e w4 ⟨rfl, rfl⟩
    dsimp only
    refine wpAny_one 24 (by kernel_rfl) rfl rfl ?_
    (try simp only [List.getElem_toArray, List.getElem_cons_succ, List.getElem_cons_zero])
    (try simp only [Act.put, List.setIfInBounds_toArray, List.set_cons_succ, List.set_cons_zero])
    unfold Oper.wp
    go_simp
    refine wpAny_done (by kernel_rfl) ?_
    go_wp2_with fail
    go_ret
    exact ⟨by rw [HR.out]; rfl, belowSeq2 hB2 ((Below.refl _ _).alloc (Nat.le_refl _) _)⟩
  · obtain ⟨q, hq⟩ : ∃ q, n = q + 1 := ⟨n - 1, by omega⟩
    have h1 : ((n : Int) == 0) = false := by simp; omega
    have hqN : q < N := by omega
    obtain ⟨⟨s2, d2, lo2, hi2⟩, hr2⟩ : ∃ z, x q = z := ⟨_, rfl⟩
    have e_0 := hx q 0 hqN (by decide)
    rw [hr2] at e_0
    rw [Nat.add_zero] at e_0
    dsimp only [Rd.at] at e_0
    have e_1 := hx q 1 hqN (by decide)
    rw [hr2] at e_1
    dsimp only [Rd.at] at e_1
    have e_2 := hx q 2 hqN (by decide)
    rw [hr2] at e_2
    dsimp only [Rd.at] at e_2
    have e_3 := hx q 3 hqN (by decide)
    rw [hr2] at e_3
    dsimp only [Rd.at] at e_3
    have HC2 := Lib.hid (fun (w' : World) => book1_any s2 s d2 lo2 hi2 d lo hi w')
    have HR : Hid (rwE x n = firstL [ee, unlE (decide (d2 ≤ d)) 9]) := Lib.hid (by unfold rwE rdE; rw [hr, show decide (n = 0) = false by simpa using h0, show n - 1 = q by omega, hr2]; dsimp only; rw [hee]; rfl)
    have u0 : IntKind.i64.wrap ((n : Int) - 1) = (q : Int) := by rw [show (n : Int) - 1 = (q : Int) by omega]; exact IntWalk.i64_in _ (by omega)
    have hq0 : (0 : Int) ≤ (q : Int) := by omega
    have hq1 : (q : Int) < (N : Int) := by omega
    clear hee hr hr2 h0 hx hq
    have hB := Below.refl w.heap.size w
    go_enter Try.func75, Try.ntmps75
    go_upto_region 1 with fail
    refine regionX 22 0 [] [] (by kernel_rfl) (by kernel_rfl) (by kernel_rfl) (by kernel_rfl) (by decide) (fun _ _ d _ _ h => by cases d <;> exact h) ?_
    intro R hR
    simp only [List.take_succ_cons, List.take_zero]
    iterate 22 (first | (refine headP_val ?_ (by rfl) (by rfl) (fun w' hw' => ?_) ?_; rotate_left; (focus (have y0 := keepC hw' c4; have y1 := keepC hw' c3; have y2 := keepC hw' c5; have y3 := keepC hw' d_0; have y4 := keepC hw' d_1; have y5 := keepC hw' d_2; have y6 := keepC hw' d_3; have y7 := keepC hw' e_0; have y8 := keepC hw' e_1; have y9 := keepC hw' e_2; have y10 := keepC hw' e_3; first | (refine onlyMakes_val ?_; first | (go_simp; done) | (go_simp; with_reducible rfl)) | (apply onlyMakes_call; (first | (go_simp; done) | (go_simp; exact ⟨rfl, rfl⟩) | (go_simp; with_reducible rfl)); first | (with_reducible exact HC1.out _) | (with_reducible exact HC2.out _) | (with_reducible exact unlS _ _ _)))); (try dsimp only); (try simp only [Act.put, List.setIfInBounds_toArray, List.set_cons_zero, List.set_cons_succ])) | (refine headP_pure ?_ (by rfl) (by rfl) (fun w' => ?_) ?_; rotate_left; (focus ((first | (go_simp; done) | (go_simp; with_reducible rfl)))); (try dsimp only); (try simp only [Act.put, List.setIfInBounds_toArray, List.set_cons_zero, List.set_cons_succ])) | (refine headP_skip (by rfl) ?_; (try dsimp only); (try simp only [Act.put, List.setIfInBounds_toArray, List.set_cons_zero, List.set_cons_succ])))
    refine headP_nil (hR.out _ ?_)
    clear c4 c3 c5 d_0 d_1 d_2 d_3 e_0 e_1 e_2 e_3
    refine AnyZ.last 22 (by kernel_rfl) (by decide) (fun w2 hw2 => ?_)
    refine wpAny_one 22 (by kernel_rfl) rfl rfl ?_
    have hB2 := belowSeq2 hB hw2
    clear hR hw2 hB
    (try simp only [List.getElem_toArray, List.getElem_cons_succ, List.getElem_cons_zero])
    (try simp only [Act.put, List.setIfInBounds_toArray, List.set_cons_succ, List.set_cons_zero])
    unfold Oper.wp
    go_simp
    refine wpAny_one 23 (by kernel_rfl) rfl rfl ?_
    (try simp only [List.getElem_toArray, List.getElem_cons_succ, List.getElem_cons_zero])
    (try simp only [Act.put, List.setIfInBounds_toArray, List.set_cons_succ, List.set_cons_zero])
    unfold Oper.wp
    go_simp
    go_at_call 36
    refine (first2L_any _ _ _ _ (newCell 0 _ rfl) (newCell 1 _ rfl)).mono ?_
    rintro e w4 ⟨rfl, rfl⟩
    dsimp only
    refine wpAny_one 24 (by kernel_rfl) rfl rfl ?_
    (try simp only [List.getElem_toArray, List.getElem_cons_succ, List.getElem_cons_zero])
    (try simp only [Act.put, List.setIfInBounds_toArray, List.set_cons_succ, List.set_cons_zero])
    unfold Oper.wp
    go_simp
    refine wpAny_done (by kernel_rfl) ?_
    go_wp2_with fail
    go_ret
    exact ⟨by rw [HR.out]; rfl, belowSeq2 hB2 ((Below.refl _ _).alloc (Nat.le_refl _) _)⟩
set_option linter.unusedVariables false in
set_option linter.unusedSimpArgs false in
set_option maxRecDepth 100000 in
set_option maxHeartbeats 4000000 in
theorem fwR_any (gs os N cap : Nat) (x : Nat → Rd) (w : World) (hN : N ≤ 100000) (hx : ∀ i j, i < N → j < 4 → w.cell? ⟨gs, os + i * 4 + j, none⟩ = some ((x i).at j)) :
    Calls Try.prog 39 #[.slice (some ⟨gs, os, none⟩) N cap, .func (.func 40) #[] #[], .func (.func 41) #[] #[]] w fun e w' => e = .returned (.tuple #[.int .i64 (eachF (rwE x) N 0).1, .int .i64 (eachF (rwE x) N 0).2]) ∧ Below w.heap.size w w' := by
  have HEA := Lib.hid (fun (b3 b4 b5 : Nat) (w1 : World) c4 c3 c5 (hx : ∀ i j, i < N → j < 4 → w1.cell? ⟨gs, os + i * 4 + j, none⟩ = some ((x i).at j)) => eachR_any (.pointer (some ⟨b4, 0, none⟩)) (.pointer (some ⟨b3, 0, none⟩)) (.pointer (some ⟨b5, 0, none⟩)) N (rwE x) w1 hN (fun n w2 hn hb => fwR1_any b3 b4 b5 gs os N cap n x w2 hn hN (keepC hb c4) (keepC hb c3) (keepC hb c5) (fun i j hi hj => keepC hb (hx i j hi hj))))
  have HX := Lib.hid hx
  clear hx
  obtain ⟨r1, hr1⟩ : ∃ z, (eachF (rwE x) N 0).1 = z := ⟨_, rfl⟩
  obtain ⟨r2, hr2⟩ : ∃ z, (eachF (rwE x) N 0).2 = z := ⟨_, rfl⟩
  rw [hr1, hr2] at HEA ⊢
  clear hr1 hr2
  go_enter Try.func39, Try.ntmps39
  go_upto_region 1 with fail
  obtain ⟨B0, hB0⟩ : ∃ B, w.heap.size = B := ⟨_, rfl⟩
  rw [hB0]
  refine nameWorld (fun w' => w'.cell? ⟨B0, 0, none⟩ = some (.slice (some ⟨gs, os, none⟩) N cap) ∧ w'.cell? ⟨B0 + 1, 0, none⟩ = some (.func (.func 40) #[] #[]) ∧ w'.cell? ⟨B0 + 1 + 1, 0, none⟩ = some (.func (.func 41) #[] #[]) ∧ Below B0 w w') ?_ (fun wc hc => ?_)
  · rw [← hB0]
    exact ⟨by go_cell, by go_cell, by go_cell, by go_grown⟩
  obtain ⟨c3, c4, c5, hB⟩ := hc
  have hbw : Below w.heap.size w wc := by rw [hB0]; exact hB
  have HC := Lib.hid (HEA.out B0 (B0 + 1) (B0 + 1 + 1) wc c4 c3 c5 (fun i j hi hj => keepC hbw (HX.out i j hi hj)))
  go_wp2_with (go_at_call 74; (with_reducible refine Calls.mono HC.out ?_); rintro e w1 ⟨rfl, hb1⟩)
  (with_reducible refine bodyPost_ret (v := .tuple #[.int .i64 r1, .int .i64 r2]) ?_ rfl ?_)
  · simp [results, Try.results39, go_sem]
  · exact ⟨rfl, by first | exact belowSeq2 hbw hb1 | (rw [← hB0]; exact belowSeq2 hbw hb1)⟩
end Go.Proofs.Ytlmnhlmgbcpclaa
