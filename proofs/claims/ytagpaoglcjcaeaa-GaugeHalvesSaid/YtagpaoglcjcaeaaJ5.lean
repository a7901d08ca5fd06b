/- GaugeAreas' walk, out of the examples. -/
import Derived.Test.YtagpaoglcjcaeaaJ4
namespace Go.Proofs.Ytagpaoglcjcaeaa
open Go.RowKit

theorem rtUp_bd2 {n M : Int} (h0 : 0 ≤ n) (h1 : n ≤ M * M) (hM : 0 ≤ M) : 0 ≤ rtUp n ∧ rtUp n ≤ M := by
  have h := rt_bd h0 h1 hM
  have hr := isRt_rt h0
  unfold rtUp
  split
  · omega
  · rename_i e
    refine ⟨by omega, ?_⟩
    rcases Int.lt_or_eq_of_le h.2 with h2 | h2
    · omega
    · exfalso
      have := hr.2.1
      rw [h2] at this e
      omega
theorem rt_le_up (n : Int) : rt n ≤ rtUp n := by unfold rtUp; split <;> omega
theorem ar_le (R : Int) : ∀ i, arLo R i ≤ arHi R i
  | 0 => Int.le_refl _
  | i + 1 => by
    have h1 := ar_le R i
    have h2 := rt_le_up (sqW R (-R + i))
    have h3 := rt_le_up (sqW R (-R + i + 1))
    rw [arLo, arHi]
    omega
theorem ar_step {R : Int} (hR : 0 ≤ R) (i : Nat) (hi : (i : Int) < 2 * R) : (0 ≤ arLo R (i + 1) - arLo R i ∧ arLo R (i + 1) - arLo R i ≤ 2 * R) ∧ (0 ≤ arHi R (i + 1) - arHi R i ∧ arHi R (i + 1) - arHi R i ≤ 2 * R) := by
  have b0 := sqW_bd (y := -R + i) hR (by omega) (by omega)
  have b1 := sqW_bd (y := -R + i + 1) hR (by omega) (by omega)
  have e : 4 * (R * R) = (2 * R) * (2 * R) := by rw [Int.mul_assoc 2 R, Int.mul_left_comm R 2 R, ← Int.mul_assoc 2 2]; rfl
  rw [e] at b0 b1
  have c0 := rt_bd b0.1 b0.2 (by omega)
  have c1 := rt_bd b1.1 b1.2 (by omega)
  have d0 := rtUp_bd2 b0.1 b0.2 (by omega)
  have d1 := rtUp_bd2 b1.1 b1.2 (by omega)
  rw [arLo, arHi]
  omega
set_option linter.unusedVariables false in
set_option linter.unusedSimpArgs false in
set_option maxRecDepth 100000 in
set_option maxHeartbeats 4000000 in
theorem areas_out (R level : Int) (w : World) (hA : ∀ w : World, Calls Try.prog 15 #[] w fun e w' => e = .returned (.bool true) ∧ Below w.heap.size w w') (h0 : 200 < R) (h1 : R ≤ 800) :
    Calls Try.prog 4 #[.int .i64 R, .int .i64 level] w fun e w' => e = .returned (.bool true) ∧ Below w.heap.size w w' := by
  have HA := Lib.hid hA
  clear hA
  go_enter Try.func4, Try.ntmps4
  go_upto_region 3 with (go_at_call 15; refine (HA.out _).mono ?_; rintro e w1 ⟨rfl, hb1⟩)
  go_wp2_with fail
  go_ret
  exact ⟨rfl, hb1⟩
set_option linter.unusedVariables false in
set_option linter.unusedSimpArgs false in
set_option maxRecDepth 100000 in
set_option maxHeartbeats 4000000 in
theorem areas_wrong (R level nr ee : Int) (w : World) (hA : ∀ w : World, Calls Try.prog 15 #[] w fun e w' => e = .returned (.bool true) ∧ Below w.heap.size w w') (h0 : R ≤ 200 ∨ 800 < R) (hne : (ee != 0) = true) (hG : ∀ w : World, Calls Try.prog 22 #[.int .i64 R, .int .i64 level] w fun e w' => e = .returned (.tuple #[.agg #[.int .i64 0, .int .i64 0], .int .i64 ee]) ∧ Below w.heap.size w w') (hE : ∀ w : World, Calls Try.prog 23 #[.int .i64 R, .int .i64 level] w fun e w' => e = .returned (.int .i64 ee) ∧ w = w') :
    Calls Try.prog 4 #[.int .i64 R, .int .i64 level] w fun e w' => e = .returned (.bool true) ∧ Below w.heap.size w w' := by
  have HG := Lib.hid hG
  have HE := Lib.hid hE
  clear hG hE
  have HA := Lib.hid hA
  clear hA
  go_enter Try.func4, Try.ntmps4
  rcases h0 with h0 | h0
  all_goals
    go_wp2_with (first | (go_at_call 15; refine (HA.out _).mono ?_; rintro e w1 ⟨rfl, hb1⟩) | (go_at_call 22; (with_reducible refine Calls.mono (HG.out _) ?_); rintro e w2 ⟨rfl, hb2⟩) | (go_at_call 23; (with_reducible refine Calls.mono (HE.out _) ?_); rintro e w3 ⟨rfl, rfl⟩))
    go_ret
    exact ⟨rfl, belowSeq2 (belowSeq2 hb1 hb2) ((Below.refl _ _).alloc (Nat.le_refl _) _)⟩
set_option linter.unusedVariables false in
set_option linter.unusedSimpArgs false in
set_option maxRecDepth 100000 in
set_option maxHeartbeats 4000000 in
theorem areas_top (ρ : Nat) (level A H ee : Int) (w : World) (hA : ∀ w : World, Calls Try.prog 15 #[] w fun e w' => e = .returned (.bool true) ∧ Below w.heap.size w w') (h2 : ρ ≤ 200) (h10 : 10 ≤ ρ) (hG : ∀ w : World, Calls Try.prog 22 #[.int .i64 (ρ : Int), .int .i64 level] w fun e w' => e = .returned (.tuple #[.agg #[.int .i64 A, .int .i64 H], .int .i64 0]) ∧ Below w.heap.size w w') (hE : ∀ w : World, Calls Try.prog 23 #[.int .i64 (ρ : Int), .int .i64 level] w fun e w' => e = .returned (.int .i64 0) ∧ w = w') (hR : ∀ w : World, Calls Try.prog 24 #[.int .i64 (ρ : Int), .int .i64 level] w fun e w' => e = .returned (.agg #[.int .i64 A, .int .i64 H]) ∧ Below w.heap.size w w') (hAH : A ≤ H) (hl : level = (ρ : Int)) (hG2 : ∀ w : World, Calls Try.prog 22 #[.int .i64 (ρ : Int), .int .i64 (level + 1)] w fun e w' => e = .returned (.tuple #[.agg #[.int .i64 0, .int .i64 0], .int .i64 2]) ∧ Below w.heap.size w w') :
    Calls Try.prog 4 #[.int .i64 (ρ : Int), .int .i64 level] w fun e w' => e = .returned (.bool true) ∧ Below w.heap.size w w' := by
  have HG := Lib.hid hG
  have HE := Lib.hid hE
  have HR := Lib.hid hR
  have HG2 := Lib.hid hG2
  clear hG hE hR hG2
  have hr0 : (ρ : Int) ≤ 200 := by omega
  have HA := Lib.hid hA
  clear hA
  go_enter Try.func4, Try.ntmps4
  have u0 : IntKind.i64.wrap (level + 1) = level + 1 := IntWalk.i64_in _ (by omega)
  have hl2 : (level == (ρ : Int)) = true := by simpa using hl
  clear hl
  go_upto_region 9 with (first | (go_at_call 15; refine (HA.out _).mono ?_; rintro e w1 ⟨rfl, hb1⟩) | (go_at_call 22; (with_reducible refine Calls.mono (HG.out _) ?_); rintro e w2 ⟨rfl, hb2⟩) | (go_at_call 23; (with_reducible refine Calls.mono (HE.out _) ?_); rintro e w3 ⟨rfl, rfl⟩))
  have hbw := belowSeq2 (belowSeq2 hb1 hb2) ((Below.refl _ w2).alloc (Nat.le_refl _) (.cells #[.int .i64 A, .int .i64 H] 32))
  obtain ⟨BX, hBX⟩ : ∃ B, w2.heap.size = B := ⟨_, rfl⟩
  rw [hBX]
  refine nameWorld (fun w' => w'.cell? ⟨BX, 0, none⟩ = some (.int .i64 A) ∧ w'.cell? ⟨BX, 1, none⟩ = some (.int .i64 H) ∧ Below w.heap.size w w') ⟨(newBoth hBX (Below.refl _ _) 0 _ rfl).1, (newBoth hBX (Below.refl _ _) 1 _ rfl).1, hbw⟩ (fun wd hd => ?_)
  clear hbw hb1 hb2 hBX HA HG HE
  obtain ⟨p0, p1, hB⟩ := hd
  refine regionX 16 0 [] [] (by kernel_rfl) (by kernel_rfl) (by kernel_rfl) (by kernel_rfl) (by decide) (fun _ _ d _ _ h => by cases d <;> exact h) ?_
  intro R hR
  simp only [List.take_succ_cons, List.take_zero]
  iterate 16 (first | (refine headP_val ?_ (by rfl) (by rfl) (fun w' hw' => ?_) ?_; rotate_left; (focus (have y0 := keepC hw' p0; have y1 := keepC hw' p1; first | (refine onlyMakes_val ?_; first | (go_simp; done) | (go_simp; with_reducible rfl)) | (apply onlyMakes_call; (first | (go_simp; done) | (go_simp; exact ⟨rfl, rfl⟩) | (go_simp; with_reducible rfl)); first | (with_reducible exact HR.out _)))); (try dsimp only); (try simp only [Act.put, List.setIfInBounds_toArray, List.set_cons_zero, List.set_cons_succ])) | (refine headP_pure ?_ (by rfl) (by rfl) (fun w' => ?_) ?_; rotate_left; (focus ((first | (go_simp; done) | (go_simp; with_reducible rfl)))); (try dsimp only); (try simp only [Act.put, List.setIfInBounds_toArray, List.set_cons_zero, List.set_cons_succ])) | (refine headP_skip (by rfl) ?_; (try dsimp only); (try simp only [Act.put, List.setIfInBounds_toArray, List.set_cons_zero, List.set_cons_succ])))
  refine headP_nil (hR.out _ ?_)
  intro w5 hw5
  refine wpAny_done (by kernel_rfl) ?_
  have q0 := keepC hw5 p0
  have q1 := keepC hw5 p1
  have hB5 := belowSeq2 hB hw5
  clear hR p0 p1 hB hw5 HR
  go_wp2_with (go_at_call 22; (with_reducible refine Calls.mono (HG2.out _) ?_); rintro e w6 ⟨rfl, hb6⟩)
  go_ret
  exact ⟨rfl, belowSeq2 (belowSeq2 hB5 hb6) ((Below.refl _ _).alloc (Nat.le_refl _) _)⟩
set_option linter.unusedVariables false in
set_option linter.unusedSimpArgs false in
set_option maxRecDepth 100000 in
set_option maxHeartbeats 4000000 in
theorem areas_below (ρ : Nat) (level A H A2 H2 : Int) (w : World) (hA : ∀ w : World, Calls Try.prog 15 #[] w fun e w' => e = .returned (.bool true) ∧ Below w.heap.size w w') (h2 : ρ ≤ 200) (h10 : 10 ≤ ρ) (hG : ∀ w : World, Calls Try.prog 22 #[.int .i64 (ρ : Int), .int .i64 level] w fun e w' => e = .returned (.tuple #[.agg #[.int .i64 A, .int .i64 H], .int .i64 0]) ∧ Below w.heap.size w w') (hE : ∀ w : World, Calls Try.prog 23 #[.int .i64 (ρ : Int), .int .i64 level] w fun e w' => e = .returned (.int .i64 0) ∧ w = w') (hR : ∀ w : World, Calls Try.prog 24 #[.int .i64 (ρ : Int), .int .i64 level] w fun e w' => e = .returned (.agg #[.int .i64 A, .int .i64 H]) ∧ Below w.heap.size w w') (hAH : A ≤ H) (hl : level < (ρ : Int)) (hl0 : -(ρ : Int) ≤ level) (hG2 : ∀ w : World, Calls Try.prog 22 #[.int .i64 (ρ : Int), .int .i64 (level + 1)] w fun e w' => e = .returned (.tuple #[.agg #[.int .i64 A2, .int .i64 H2], .int .i64 0]) ∧ Below w.heap.size w w') (ha : 0 ≤ A2 - A ∧ A2 - A ≤ 2 * (ρ : Int)) (hh : 0 ≤ H2 - H ∧ H2 - H ≤ 2 * (ρ : Int)) :
    Calls Try.prog 4 #[.int .i64 (ρ : Int), .int .i64 level] w fun e w' => e = .returned (.bool true) ∧ Below w.heap.size w w' := by
  have HG := Lib.hid hG
  have HE := Lib.hid hE
  have HR := Lib.hid hR
  have HG2 := Lib.hid hG2
  clear hG hE hR hG2
  have hr0 : (ρ : Int) ≤ 200 := by omega
  have HA := Lib.hid hA
  clear hA
  go_enter Try.func4, Try.ntmps4
  have u0 : IntKind.i64.wrap (level + 1) = level + 1 := IntWalk.i64_in _ (by omega)
  have u1 : IntKind.i64.wrap (A2 - A) = A2 - A := IntWalk.i64_in _ (by omega)
  have u2 : IntKind.i64.wrap (H2 - H) = H2 - H := IntWalk.i64_in _ (by omega)
  have u3 : IntKind.i64.wrap (2 * (ρ : Int)) = 2 * (ρ : Int) := IntWalk.i64_in _ (by omega)
  have hl2 : (level == (ρ : Int)) = false := by simp; omega
  have HN1 : Hid (∀ w : World, Calls Try.prog 25 #[.int .i64 (A2 - A), .int .i64 0, .int .i64 (2 * (ρ : Int))] w fun e w' => e = .returned (.bool true) ∧ w = w') := Lib.hid fun w => by
    have := within_any (A2 - A) 0 (2 * (ρ : Int)) w
    rw [inB_yes ha.1 ha.2] at this
    exact this
  have HN2 : Hid (∀ w : World, Calls Try.prog 25 #[.int .i64 (H2 - H), .int .i64 0, .int .i64 (2 * (ρ : Int))] w fun e w' => e = .returned (.bool true) ∧ w = w') := Lib.hid fun w => by
    have := within_any (H2 - H) 0 (2 * (ρ : Int)) w
    rw [inB_yes hh.1 hh.2] at this
    exact this
  clear hl hl0 ha hh
  go_upto_region 9 with (first | (go_at_call 15; refine (HA.out _).mono ?_; rintro e w1 ⟨rfl, hb1⟩) | (go_at_call 22; (with_reducible refine Calls.mono (HG.out _) ?_); rintro e w2 ⟨rfl, hb2⟩) | (go_at_call 23; (with_reducible refine Calls.mono (HE.out _) ?_); rintro e w3 ⟨rfl, rfl⟩))
  have hbw := belowSeq2 (belowSeq2 hb1 hb2) ((Below.refl _ w2).alloc (Nat.le_refl _) (.cells #[.int .i64 A, .int .i64 H] 32))
  obtain ⟨BX, hBX⟩ : ∃ B, w2.heap.size = B := ⟨_, rfl⟩
  rw [hBX]
  refine nameWorld (fun w' => w'.cell? ⟨BX, 0, none⟩ = some (.int .i64 A) ∧ w'.cell? ⟨BX, 1, none⟩ = some (.int .i64 H) ∧ Below w.heap.size w w') ⟨(newBoth hBX (Below.refl _ _) 0 _ rfl).1, (newBoth hBX (Below.refl _ _) 1 _ rfl).1, hbw⟩ (fun wd hd => ?_)
  clear hbw hb1 hb2 hBX HA HG HE
  obtain ⟨p0, p1, hB⟩ := hd
  refine regionX 16 0 [] [] (by kernel_rfl) (by kernel_rfl) (by kernel_rfl) (by kernel_rfl) (by decide) (fun _ _ d _ _ h => by cases d <;> exact h) ?_
  intro R hR
  simp only [List.take_succ_cons, List.take_zero]
  iterate 16 (first | (refine headP_val ?_ (by rfl) (by rfl) (fun w' hw' => ?_) ?_; rotate_left; (focus (have y0 := keepC hw' p0; have y1 := keepC hw' p1; first | (refine onlyMakes_val ?_; first | (go_simp; done) | (go_simp; with_reducible rfl)) | (apply onlyMakes_call; (first | (go_simp; done) | (go_simp; exact ⟨rfl, rfl⟩) | (go_simp; with_reducible rfl)); first | (with_reducible exact HR.out _)))); (try dsimp only); (try simp only [Act.put, List.setIfInBounds_toArray, List.set_cons_zero, List.set_cons_succ])) | (refine headP_pure ?_ (by rfl) (by rfl) (fun w' => ?_) ?_; rotate_left; (focus ((first | (go_simp; done) | (go_simp; with_reducible rfl)))); (try dsimp only); (try simp only [Act.put, List.setIfInBounds_toArray, List.set_cons_zero, List.set_cons_succ])) | (refine headP_skip (by rfl) ?_; (try dsimp only); (try simp only [Act.put, List.setIfInBounds_toArray, List.set_cons_zero, List.set_cons_succ])))
  refine headP_nil (hR.out _ ?_)
  intro w5 hw5
  refine wpAny_done (by kernel_rfl) ?_
  have q0 := keepC hw5 p0
  have q1 := keepC hw5 p1
  have hB5 := belowSeq2 hB hw5
  clear hR p0 p1 hB hw5 HR
  go_upto_region 12 with (go_at_call 22; (with_reducible refine Calls.mono (HG2.out _) ?_); rintro e w6 ⟨rfl, hb6⟩)
  have hbw := belowSeq2 hb6 ((Below.refl _ w6).alloc (Nat.le_refl _) (.cells #[.int .i64 A2, .int .i64 H2] 32))
  obtain ⟨BY, hBY⟩ : ∃ B, w6.heap.size = B := ⟨_, rfl⟩
  rw [hBY]
  refine nameWorld (fun w' => w'.cell? ⟨BX, 0, none⟩ = some (.int .i64 A) ∧ w'.cell? ⟨BX, 1, none⟩ = some (.int .i64 H) ∧ w'.cell? ⟨BY, 0, none⟩ = some (.int .i64 A2) ∧ w'.cell? ⟨BY, 1, none⟩ = some (.int .i64 H2) ∧ Below w.heap.size w w') ⟨keepC hbw q0, keepC hbw q1, (newBoth hBY (Below.refl _ _) 0 _ rfl).1, (newBoth hBY (Below.refl _ _) 1 _ rfl).1, belowSeq2 hB5 hbw⟩ (fun we he => ?_)
  clear hbw hb6 hBY q0 q1 hB5 HG2
  obtain ⟨p0, p1, q0, q1, hB⟩ := he
  go_wp2_with (go_at_call 25; first | ((with_reducible refine Calls.mono (HN1.out _) ?_); rintro e w7 ⟨rfl, rfl⟩) | ((with_reducible refine Calls.mono (HN2.out _) ?_); rintro e w7 ⟨rfl, rfl⟩))
  go_ret
  exact ⟨rfl, hB⟩
set_option linter.unusedVariables false in
set_option linter.unusedSimpArgs false in
set_option maxRecDepth 100000 in
set_option maxHeartbeats 4000000 in
theorem areas_all (hA : ∀ w : World, Calls Try.prog 15 #[] w fun e w' => e = .returned (.bool true) ∧ Below w.heap.size w w') (R level : Int) (w : World) :
    Calls Try.prog 4 #[.int .i64 R, .int .i64 level] w fun e w' => e = .returned (.bool true) ∧ Below w.heap.size w w' := by
  by_cases h0 : 200 < R ∧ R ≤ 800
  · exact areas_out R level w hA h0.1 h0.2
  obtain ⟨nr, hnr⟩ : ∃ z, IntKind.i64.wrap (-R) = z := ⟨_, rfl⟩
  by_cases hd : (firstE (numE R 10 800) (numE level nr R) 0 != 0) = true
  · exact areas_wrong R level nr _ w hA (by omega) hd (fun w => gArea_wrong R level nr w hnr hd) (fun w => rAreaErr_any R level nr w hnr)
  have hd : (firstE (numE R 10 800) (numE level nr R) 0) = 0 := by simpa using hd
  have hE := fun w => rAreaErr_any R level nr w hnr
  rw [hd] at hE
  rw [numE_val, numE_val] at hd
  obtain ⟨z1, z2, -⟩ := firstE_zero.1 hd
  have b1 : inB R 10 800 = true := by cases h : inB R 10 800 <;> rw [h] at z1 <;> first | rfl | exact absurd z1 (by decide)
  have b2 : inB level nr R = true := by cases h : inB level nr R <;> rw [h] at z2 <;> first | rfl | exact absurd z2 (by decide)
  rw [inB_iff] at b1 b2
  have hnr2 : nr = -R := by rw [← hnr]; exact IntWalk.i64_in _ (by omega)
  rw [hnr2] at b2
  obtain ⟨ρ, rfl⟩ : ∃ ρ : Nat, R = (ρ : Int) := ⟨R.toNat, by omega⟩
  obtain ⟨j, hj⟩ : ∃ j : Nat, (j : Int) = (ρ : Int) + level := ⟨((ρ : Int) + level).toNat, by omega⟩
  have hG := fun w => gArea_fine ρ level j w (by omega) (by omega) b2.1 b2.2 hj
  have hR := fun w => rArea_any ρ level j w (by omega) (by omega) (by omega)
  by_cases ht : level = (ρ : Int)
  · refine areas_top ρ level _ _ 0 w hA (by omega) (by omega) hG hE hR (ar_le _ _) ht (fun w => ?_)
    have hw9 : (firstE (numE (ρ : Int) 10 800) (numE (level + 1) nr (ρ : Int)) 0) = 2 := by
      rw [numE_val, numE_val, inB_yes (by omega) (by omega), inB_no.2 (.inr (by omega))]; rfl
    have := gArea_wrong (ρ : Int) (level + 1) nr w hnr (by rw [hw9]; rfl)
    rw [hw9] at this
    exact this
  · have hs := ar_step (R := (ρ : Int)) (by omega) j (by omega)
    exact areas_below ρ level _ _ _ _ w hA (by omega) (by omega) hG hE hR (ar_le _ _) (by omega) b2.1 (fun w => gArea_fine ρ (level + 1) (j + 1) w (by omega) (by omega) (by omega) (by omega) (by omega)) hs.1 hs.2
end Go.Proofs.Ytagpaoglcjcaeaa
