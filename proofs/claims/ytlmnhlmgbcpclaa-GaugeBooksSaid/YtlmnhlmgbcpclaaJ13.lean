/- The first wrong move of a book. -/
import Derived.Test.YtlmnhlmgbcpclaaJ12
namespace Go.Proofs.Ytlmnhlmgbcpclaa
open Go.RowKit

structure Mw where
  (a b : ByteArray) (d v : Int)
def Mw.at (x : Mw) : Nat → Value
  | 0 => .int .i64 x.d | 1 => .string x.a | 2 => .string x.b | _ => .int .i64 x.v
def mvE (x : Mw) : Int := firstL [numE x.d 0 100000, plE x.a, plE x.b, unlE (!x.a.toList == x.b.toList) 3, numE x.v 0 100000]
def mwE (x : Nat → Mw) (n : Nat) : Int := firstL [mvE (x n), unlE (decide (n = 0) || decide ((x (n - 1)).d ≤ (x n).d)) 9]
set_option linter.unusedVariables false in
set_option linter.unusedSimpArgs false in
set_option maxRecDepth 100000 in
set_option maxHeartbeats 4000000 in
theorem book2_any (a b a2 b2 : ByteArray) (d v d2 v2 : Int) (w : World) : Calls Try.prog 44 #[.agg #[.int .i64 d, .string a, .string b, .int .i64 v], .agg #[.int .i64 d2, .string a2, .string b2, .int .i64 v2]] w fun e w' => e = .returned (.bool (decide (d ≤ d2))) ∧ Below w.heap.size w w' := by
  go_enter Try.func44, Try.ntmps44
  go_wp2_with fail
  go_ret
  exact ⟨rfl, by go_grown⟩
attribute [local irreducible] HeadP
set_option linter.unusedVariables false in
set_option linter.unusedSimpArgs false in
set_option maxRecDepth 100000 in
set_option maxHeartbeats 4000000 in
theorem fwM1_any (b3 b4 b5 gs os N cap n : Nat) (x : Nat → Mw) (w : World) (hn : n < N) (hN : N ≤ 100000) (c4 : w.cell? ⟨b4, 0, none⟩ = some (.func (.func 43) #[] #[])) (c3 : w.cell? ⟨b3, 0, none⟩ = some (.slice (some ⟨gs, os, none⟩) N cap)) (c5 : w.cell? ⟨b5, 0, none⟩ = some (.func (.func 44) #[] #[])) (hx : ∀ i j, i < N → j < 4 → w.cell? ⟨gs, os + i * 4 + j, none⟩ = some ((x i).at j)) :
    Calls Try.prog 76 #[.int .i64 (n : Int), .pointer (some ⟨b4, 0, none⟩), .pointer (some ⟨b3, 0, none⟩), .pointer (some ⟨b5, 0, none⟩)] w fun e w' => e = .returned (.int .i64 (mwE x n)) ∧ Below w.heap.size w w' := by
  have hk0 : (0 : Int) ≤ (n : Int) := by omega
  have hk1 : (n : Int) < (N : Int) := by omega
  obtain ⟨⟨a, b, d, v⟩, hr⟩ : ∃ z, x n = z := ⟨_, rfl⟩
  have d_0 := hx n 0 hn (by decide)
  rw [hr] at d_0
  rw [Nat.add_zero] at d_0
  dsimp only [Mw.at] at d_0
  have d_1 := hx n 1 hn (by decide)
  rw [hr] at d_1
  dsimp only [Mw.at] at d_1
  have d_2 := hx n 2 hn (by decide)
  rw [hr] at d_2
  dsimp only [Mw.at] at d_2
  have d_3 := hx n 3 hn (by decide)
  rw [hr] at d_3
  dsimp only [Mw.at] at d_3
  have HC1 := Lib.hid (fun (w' : World) => moveError_any a b d v w')
  obtain ⟨ee, hee⟩ : ∃ z, firstL [numE d 0 100000, plE a, plE b, unlE (!a.toList == b.toList) 3, numE v 0 100000] = z := ⟨_, rfl⟩
  rw [hee] at HC1
  by_cases h0 : n = 0
  · have h1 : ((n : Int) == 0) = true := by simp; omega
    have HR : Hid (mwE x n = firstL [ee, unlE true 9]) := Lib.hid (by unfold mwE mvE; rw [hr, show decide (n = 0) = true by simpa using h0]; dsimp only; rw [hee]; rfl)
    clear hee hr h0 hx
    have hB := Below.refl w.heap.size w
    go_enter Try.func76, Try.ntmps76
    go_upto_region 1 with fail
    refine regionX 22 0 [] [] (by kernel_rfl) (by kernel_rfl) (by kernel_rfl) (by kernel_rfl) (by decide) (fun _ _ d _ _ h => by cases d <;> exact h) ?_
    intro R hR
    simp only [List.take_succ_cons, List.take_zero]
    iterate 22 (first | (refine headP_val ?_ (by rfl) (by rfl) (fun w' hw' => ?_) ?_; rotate_left; (focus (have y0 := keepC hw' c4; have y1 := keepC hw' c3; have y2 := keepC hw' c5; have y3 := keepC hw' d_0; have y4 := keepC hw' d_1; have y5 := keepC hw' d_2; have y6 := keepC hw' d_3; first | (refine onlyMakes_val ?_; first | (go_simp; done) | (go_simp; with_reducible rfl)) | (apply onlyMakes_call; (first | (go_simp; done) | (go_simp; exact ⟨rfl, rfl⟩) | (go_simp; with_reducible rfl)); first | (with_reducible exact HC1.out _) | (with_reducible exact unlS _ _ _)))); (try dsimp only); (try simp only [Act.put, List.setIfInBounds_toArray, List.set_cons_zero, List.set_cons_succ])) | (refine headP_pure ?_ (by rfl) (by rfl) (fun w' => ?_) ?_; rotate_left; (focus ((first | (go_simp; done) | (go_simp; with_reducible rfl)))); (try dsimp only); (try simp only [Act.put, List.setIfInBounds_toArray, List.set_cons_zero, List.set_cons_succ])) | (refine headP_skip (by rfl) ?_; (try dsimp only); (try simp only [Act.put, List.setIfInBounds_toArray, List.set_cons_zero, List.set_cons_succ])))
    refine headP_nil (hR.out _ ?_)
    clear c4 c3 c5 d_0 d_1 d_2 d_3
    refine AnyZ.last 22 (by kernel_rfl) (by decide) (fun w2 hw2 => ?_)
    refine wpAny_one 22 (by kernel_rfl) rfl rfl ?_
    have hB2 := belowSeq2 hB hw2
    clear hR hw2 hB
    (try simp only [List.getElem_toArray, List.getElem_cons_succ, List.getElem_cons_zero])
    (try simp only [Act.put, List.setIfInBounds_toArray, List.set_cons_succ, List.set_cons_zero])
    unfold Oper.wp
    go_simp
    refine wpAny_one 23 (by kernel_rfl) rfl rfl ?_
    (try simp only [List.getElem_toArray, List.getElem_cons_succ, List.getElem_cons_zero])
    (try simp only [Act.put, List.setIfInBounds_toArray, List.set_cons_succ, List.set_cons_zero])
    unfold Oper.wp
    go_simp
    go_at_call 36
    refine (first2L_any _ _ _ _ (newCell 0 _ rfl) (newCell 1 _ rfl)).mono ?_
    rintro e w4 ⟨rfl, rfl⟩
    dsimp only
    refine wpAny_one 24 (by kernel_rfl) rfl rfl ?_
    (try simp only [List.getElem_toArray, List.getElem_cons_succ, List.getElem_cons_zero])
    (try simp only [Act.put, List.setIfInBounds_toArray, List.set_cons_succ, List.set_cons_zero])
    unfold Oper.wp
    go_simp
    refine wpAny_done (by kernel_rfl) ?_
    go_wp2_with fail
    go_ret
    exact ⟨by rw [HR.out]; rfl, belowSeq2 hB2 ((Below.refl _ _).alloc (Nat.le_refl _) _)⟩
  · obtain ⟨q, hq⟩ : ∃ q, n = q + 1 := ⟨n - 1, by omega⟩
    have h1 : ((n : Int) == 0) = false := by simp; omega
    have hqN : q < N := by omega
    obtain ⟨⟨a2, b2, d2, v2⟩, hr2⟩ : ∃ z, x q = z := ⟨_, rfl⟩
    have e_0 := hx q 0 hqN (by decide)
    rw [hr2] at e_0
    rw [Nat.add_zero] at e_0
    dsimp only [Mw.at] at e_0
    have e_1 := hx q 1 hqN (by decide)
    rw [hr2] at e_1
    dsimp only [Mw.at] at e_1
    have e_2 := hx q 2 hqN (by decide)
    rw [hr2] at e_2
    dsimp only [Mw.at] at e_2
    have e_3 := hx q 3 hqN (by decide)
    rw [hr2] at e_3
    dsimp only [Mw.at] at e_3
    have HC2 := Lib.hid (fun (w' : World) => book2_any a2 b2 a b d2 v2 d v w')
    have HR : Hid (mwE x n = firstL [ee, unlE (decide (d2 ≤ d)) 9]) := Lib.hid (by unfold mwE mvE; rw [hr, show decide (n = 0) = false by simpa using h0, show n - 1 = q by omega, hr2]; dsimp only; rw [hee]; rfl)
    have u0 : IntKind.i64.wrap ((n : Int) - 1) = (q : Int) := by rw [show (n : Int) - 1 = (q : Int) by omega]; exact IntWalk.i64_in _ (by omega)
    have hq0 : (0 : Int) ≤ (q : Int) := by omega
    have hq1 : (q : Int) < (N : Int) := by omega
    clear hee hr hr2 h0 hx hq
    have hB := Below.refl w.heap.size w
    go_enter Try.func76, Try.ntmps76
    go_upto_region 1 with fail
    refine regionX 22 0 [] [] (by kernel_rfl) (by kernel_rfl) (by kernel_rfl) (by kernel_rfl) (by decide) (fun _ _ d _ _ h => by cases d <;> exact h) ?_
    intro R hR
    simp only [List.take_succ_cons, List.take_zero]
    iterate 22 (first | (refine headP_val ?_ (by rfl) (by rfl) (fun w' hw' => ?_) ?_; rotate_left; (focus (have y0 := keepC hw' c4; have y1 := keepC hw' c3; have y2 := keepC hw' c5; have y3 := keepC hw' d_0; have y4 := keepC hw' d_1; have y5 := keepC hw' d_2; have y6 := keepC hw' d_3; have y7 := keepC hw' e_0; have y8 := keepC hw' e_1; have y9 := keepC hw' e_2; have y10 := keepC hw' e_3; first | (refine onlyMakes_val ?_; first | (go_simp; done) | (go_simp; with_reducible rfl)) | (apply onlyMakes_call; (first | (go_simp; done) | (go_simp; exact ⟨rfl, rfl⟩) | (go_simp; with_reducible rfl)); first | (with_reducible exact HC1.out _) | (with_reducible exact HC2.out _) | (with_reducible exact unlS _ _ _)))); (try dsimp only); (try simp only [Act.put, List.setIfInBounds_toArray, List.set_cons_zero, List.set_cons_succ])) | (refine headP_pure ?_ (by rfl) (by rfl) (fun w' => ?_) ?_; rotate_left; (focus ((first | (go_simp; done) | (go_simp; with_reducible rfl)))); (try dsimp only); (try simp only [Act.put, List.setIfInBounds_toArray, List.set_cons_zero, List.set_cons_succ])) | (refine headP_skip (by rfl) ?_; (try dsimp only); (try simp only [Act.put, List.setIfInBounds_toArray, List.set_cons_zero, List.set_cons_succ])))
    refine headP_nil (hR.out _ ?_)
    clear c4 c3 c5 d_0 d_1 d_2 d_3 e_0 e_1 e_2 e_3
    refine AnyZ.last 22 (by kernel_rfl) (by decide) (fun w2 hw2 => ?_)
    refine wpAny_one 22 (by kernel_rfl) rfl rfl ?_
    have hB2 := belowSeq2 hB hw2
    clear hR hw2 hB
    (try simp only [List.getElem_toArray, List.getElem_cons_succ, List.getElem_cons_zero])
    (try simp only [Act.put, List.setIfInBounds_toArray, List.set_cons_succ, List.set_cons_zero])
    unfold Oper.wp
    go_simp
    refine wpAny_one 23 (by kernel_rfl) rfl rfl ?_
    (try simp only [List.getElem_toArray, List.getElem_cons_succ, List.getElem_cons_zero])
    (try simp only [Act.put, List.setIfInBounds_toArray, List.set_cons_succ, List.set_cons_zero])
    unfold Oper.wp
    go_simp
    go_at_call 36
    refine (first2L_any _ _ _ _ (newCell 0 _ rfl) (newCell 1 _ rfl)).mono ?_
    rintro e w4 ⟨rfl, rfl⟩
    dsimp only
    refine wpAny_one 24 (by kernel_rfl) rfl rfl ?_
    (try simp only [List.getElem_toArray, List.getElem_cons_succ, List.getElem_cons_zero])
    (try simp only [Act.put, List.setIfInBounds_toArray, List.set_cons_succ, List.set_cons_zero])
    unfold Oper.wp
    go_simp
    refine wpAny_done (by kernel_rfl) ?_
    go_wp2_with fail
    go_ret
    exact ⟨by rw [HR.out]; rfl, belowSeq2 hB2 ((Below.refl _ _).alloc (Nat.le_refl _) _)⟩
set_option linter.unusedVariables false in
set_option linter.unusedSimpArgs false in
set_option maxRecDepth 100000 in
set_option maxHeartbeats 4000000 in
theorem fwM_any (gs os N cap : Nat) (x : Nat → Mw) (w : World) (hN : N ≤ 100000) (hx : ∀ i j, i < N → j < 4 → w.cell? ⟨gs, os + i * 4 + j, none⟩ = some ((x i).at j)) :
    Calls Try.prog 42 #[.slice (some ⟨gs, os, none⟩) N cap, .func (.func 43) #[] #[], .func (.func 44) #[] #[]] w fun e w' => e = .returned (.tuple #[.int .i64 (eachF (mwE x) N 0).1, .int .i64 (eachF (mwE x) N 0).2]) ∧ Below w.heap.size w w' := by
  have HEA := Lib.hid (fun (b3 b4 b5 : Nat) (w1 : World) c4 c3 c5 (hx : ∀ i j, i < N → j < 4 → w1.cell? ⟨gs, os + i * 4 + j, none⟩ = some ((x i).at j)) => eachM_any (.pointer (some ⟨b4, 0, none⟩)) (.pointer (some ⟨b3, 0, none⟩)) (.pointer (some ⟨b5, 0, none⟩)) N (mwE x) w1 hN (fun n w2 hn hb => fwM1_any b3 b4 b5 gs os N cap n x w2 hn hN (keepC hb c4) (keepC hb c3) (keepC hb c5) (fun i j hi hj => keepC hb (hx i j hi hj))))
  have HX := Lib.hid hx
  clear hx
  obtain ⟨r1, hr1⟩ : ∃ z, (eachF (mwE x) N 0).1 = z := ⟨_, rfl⟩
  obtain ⟨r2, hr2⟩ : ∃ z, (eachF (mwE x) N 0).2 = z := ⟨_, rfl⟩
  rw [hr1, hr2] at HEA ⊢
  clear hr1 hr2
  go_enter Try.func42, Try.ntmps42
  go_upto_region 1 with fail
  obtain ⟨B0, hB0⟩ : ∃ B, w.heap.size = B := ⟨_, rfl⟩
  rw [hB0]
  refine nameWorld (fun w' => w'.cell? ⟨B0, 0, none⟩ = some (.slice (some ⟨gs, os, none⟩) N cap) ∧ w'.cell? ⟨B0 + 1, 0, none⟩ = some (.func (.func 43) #[] #[]) ∧ w'.cell? ⟨B0 + 1 + 1, 0, none⟩ = some (.func (.func 44) #[] #[]) ∧ Below B0 w w') ?_ (fun wc hc => ?_)
  · rw [← hB0]
    exact ⟨by go_cell, by go_cell, by go_cell, by go_grown⟩
  obtain ⟨c3, c4, c5, hB⟩ := hc
  have hbw : Below w.heap.size w wc := by rw [hB0]; exact hB
  have HC := Lib.hid (HEA.out B0 (B0 + 1) (B0 + 1 + 1) wc c4 c3 c5 (fun i j hi hj => keepC hbw (HX.out i j hi hj)))
  go_wp2_with (go_at_call 74; (with_reducible refine Calls.mono HC.out ?_); rintro e w1 ⟨rfl, hb1⟩)
  (with_reducible refine bodyPost_ret (v := .tuple #[.int .i64 r1, .int .i64 r2]) ?_ rfl ?_)
  · simp [results, Try.results42, go_sem]
  · exact ⟨rfl, by first | exact belowSeq2 hbw hb1 | (rw [← hB0]; exact belowSeq2 hbw hb1)⟩
end Go.Proofs.Ytlmnhlmgbcpclaa
