/- The first wrong station of a cask. -/
import Derived.Test.YtpidgcmdimjkoaaJ8
namespace Go.Proofs.Ytpidgcmdimjkoaa
open Go.RowKit

structure Sn where
  (a i o : Int)
def Sn.at (x : Sn) : Nat → Int
  | 0 => x.a | 1 => x.i | _ => x.o
def stE (bung : Int) (x : Sn) : Int := firstL [numE x.a 0 3000, numE x.i 10 bung, numE x.o 10 bung, unlE (decide (x.i ≤ x.o)) 9]
def snE (bung : Int) (x : Nat → Sn) (n : Nat) : Int := firstL [stE bung (x n), unlE (decide (n = 0) || decide ((x (n - 1)).a < (x n).a)) 9]
attribute [local irreducible] HeadP
set_option linter.unusedVariables false in
set_option linter.unusedSimpArgs false in
set_option maxRecDepth 100000 in
set_option maxHeartbeats 4000000 in
theorem fwS1_any (b3 b4 b5 bc gs os N cap n : Nat) (bung : Int) (x : Nat → Sn) (w : World) (hn : n < N) (hN : N ≤ 100000) (c4 : w.cell? ⟨b4, 0, none⟩ = some (.func (.func 68) #[] #[.pointer (some ⟨bc, 0, none⟩)])) (c3 : w.cell? ⟨b3, 0, none⟩ = some (.slice (some ⟨gs, os, none⟩) N cap)) (c5 : w.cell? ⟨b5, 0, none⟩ = some (.func (.func 70) #[] #[])) (cb : w.cell? ⟨bc, 1, none⟩ = some (.int .i64 bung)) (hx : ∀ i j, i < N → j < 3 → w.cell? ⟨gs, os + i * 3 + j, none⟩ = some (.int .i64 ((x i).at j))) :
    Calls Try.prog 89 #[.int .i64 (n : Int), .pointer (some ⟨b4, 0, none⟩), .pointer (some ⟨b3, 0, none⟩), .pointer (some ⟨b5, 0, none⟩)] w fun e w' => e = .returned (.int .i64 (snE bung x n)) ∧ Below w.heap.size w w' := by
  have hk0 : (0 : Int) ≤ (n : Int) := by omega
  have hk1 : (n : Int) < (N : Int) := by omega
  obtain ⟨⟨a, i, o⟩, hr⟩ : ∃ z, x n = z := ⟨_, rfl⟩
  have d0 := hx n 0 hn (by decide)
  rw [hr] at d0
  rw [Nat.add_zero] at d0
  dsimp only [Sn.at] at d0
  have d1 := hx n 1 hn (by decide)
  rw [hr] at d1
  dsimp only [Sn.at] at d1
  have d2 := hx n 2 hn (by decide)
  rw [hr] at d2
  dsimp only [Sn.at] at d2
  have HC1 := Lib.hid (fun (w' : World) (h : w'.cell? ⟨bc, 1, none⟩ = some (.int .i64 bung)) => cask1_any a i o bung bc w' h)
  obtain ⟨ee, hee⟩ : ∃ z, firstL [numE a 0 3000, numE i 10 bung, numE o 10 bung, unlE (decide (i ≤ o)) 9] = z := ⟨_, rfl⟩
  rw [hee] at HC1
  by_cases h0 : n = 0
  · have h1 : ((n : Int) == 0) = true := by simp; omega
    have HR : Hid (snE bung x n = firstL [ee, unlE true 9]) := Lib.hid (by unfold snE stE; rw [hr, show decide (n = 0) = true by simpa using h0]; dsimp only; rw [hee]; rfl)
    clear hee hr h0 hx
    have hB := Below.refl w.heap.size w
    go_enter Try.func89, Try.ntmps89
    go_upto_region 1 with fail
    refine regionX 22 0 [] [] (by kernel_rfl) (by kernel_rfl) (by kernel_rfl) (by kernel_rfl) (by decide) (fun _ _ d _ _ h => by cases d <;> exact h) ?_
    intro R hR
    simp only [List.take_succ_cons, List.take_zero]
    iterate 22 (first | (refine headP_val ?_ (by rfl) (by rfl) (fun w' hw' => ?_) ?_; rotate_left; (focus (have y0 := keepC hw' c4; have y1 := keepC hw' c3; have y2 := keepC hw' c5; have y3 := keepC hw' cb; have y4 := keepC hw' d0; have y5 := keepC hw' d1; have y6 := keepC hw' d2; first | (refine onlyMakes_val ?_; first | (go_simp; done) | (go_simp; with_reducible rfl)) | (apply onlyMakes_call; (first | (go_simp; done) | (go_simp; exact ⟨rfl, rfl⟩) | (go_simp; with_reducible rfl)); first | (with_reducible exact HC1.out _ y3) | (with_reducible exact unlS _ _ _)))); (try dsimp only); (try simp only [Act.put, List.setIfInBounds_toArray, List.set_cons_zero, List.set_cons_succ])) | (refine headP_pure ?_ (by rfl) (by rfl) (fun w' => ?_) ?_; rotate_left; (focus ((first | (go_simp; done) | (go_simp; with_reducible rfl)))); (try dsimp only); (try simp only [Act.put, List.setIfInBounds_toArray, List.set_cons_zero, List.set_cons_succ])) | (refine headP_skip (by rfl) ?_; (try dsimp only); (try simp only [Act.put, List.setIfInBounds_toArray, List.set_cons_zero, List.set_cons_succ])))
    refine headP_nil (hR.out _ ?_)
    clear c4 c3 c5 cb d0 d1 d2
    refine AnyZ.last 22 (by kernel_rfl) (by decide) (fun w2 hw2 => ?_)
    refine wpAny_one 22 (by kernel_rfl) rfl rfl ?_
    have hB2 := belowSeq2 hB hw2
    clear hR hw2 hB
    (try simp only [List.getElem_toArray, List.getElem_cons_succ, List.getElem_cons_zero])
    (try simp only [Act.put, List.setIfInBounds_toArray, List.set_cons_succ, List.set_cons_zero])
    unfold Oper.wp
    go_simp
    refine wpAny_one 23 (by kernel_rfl) rfl rfl ?_
    (try simp only [List.getElem_toArray, List.getElem_cons_succ, List.getElem_cons_zero])
    (try simp only [Act.put, List.setIfInBounds_toArray, List.set_cons_succ, List.set_cons_zero])
    unfold Oper.wp
    go_simp
    go_at_call 29
    refine (first2L_any _ _ _ _ (newCell 0 _ rfl) (newCell 1 _ rfl)).mono ?_
    rintro e w4 ⟨rfl, rfl⟩
    dsimp only
    refine wpAny_one 24 (by kernel_rfl) rfl rfl ?_
    (try simp only [List.getElem_toArray, List.getElem_cons_succ, List.getElem_cons_zero])
    (try simp only [Act.put, List.setIfInBounds_toArray, List.set_cons_succ, List.set_cons_zero])
    unfold Oper.wp
    go_simp
    refine wpAny_done (by kernel_rfl) ?_
    go_wp2_with fail
    go_ret
    exact ⟨by rw [HR.out]; rfl, belowSeq2 hB2 ((Below.refl _ _).alloc (Nat.le_refl _) _)⟩
  · obtain ⟨q, hq⟩ : ∃ q, n = q + 1 := ⟨n - 1, by omega⟩
    have h1 : ((n : Int) == 0) = false := by simp; omega
    have hqN : q < N := by omega
    obtain ⟨⟨a2, i2, o2⟩, hr2⟩ : ∃ z, x q = z := ⟨_, rfl⟩
    have e0 := hx q 0 hqN (by decide)
    rw [hr2] at e0
    rw [Nat.add_zero] at e0
    dsimp only [Sn.at] at e0
    have e1 := hx q 1 hqN (by decide)
    rw [hr2] at e1
    dsimp only [Sn.at] at e1
    have e2 := hx q 2 hqN (by decide)
    rw [hr2] at e2
    dsimp only [Sn.at] at e2
    have HC2 := Lib.hid (fun (w' : World) => cask2_any a2 i2 o2 a i o w')
    have HR : Hid (snE bung x n = firstL [ee, unlE (decide (a2 < a)) 9]) := Lib.hid (by unfold snE stE; rw [hr, show decide (n = 0) = false by simpa using h0, show n - 1 = q by omega, hr2]; dsimp only; rw [hee]; rfl)
    have u0 : IntKind.i64.wrap ((n : Int) - 1) = (q : Int) := by rw [show (n : Int) - 1 = (q : Int) by omega]; exact IntWalk.i64_in _ (by omega)
    have hq0 : (0 : Int) ≤ (q : Int) := by omega
    have hq1 : (q : Int) < (N : Int) := by omega
    clear hee hr hr2 h0 hx hq
    have hB := Below.refl w.heap.size w
    go_enter Try.func89, Try.ntmps89
    go_upto_region 1 with fail
    refine regionX 22 0 [] [] (by kernel_rfl) (by kernel_rfl) (by kernel_rfl) (by kernel_rfl) (by decide) (fun _ _ d _ _ h => by cases d <;> exact h) ?_
    intro R hR
    simp only [List.take_succ_cons, List.take_zero]
    iterate 22 (first | (refine headP_val ?_ (by rfl) (by rfl) (fun w' hw' => ?_) ?_; rotate_left; (focus (have y0 := keepC hw' c4; have y1 := keepC hw' c3; have y2 := keepC hw' c5; have y3 := keepC hw' cb; have y4 := keepC hw' d0; have y5 := keepC hw' d1; have y6 := keepC hw' d2; have y7 := keepC hw' e0; have y8 := keepC hw' e1; have y9 := keepC hw' e2; first | (refine onlyMakes_val ?_; first | (go_simp; done) | (go_simp; with_reducible rfl)) | (apply onlyMakes_call; (first | (go_simp; done) | (go_simp; exact ⟨rfl, rfl⟩) | (go_simp; with_reducible rfl)); first | (with_reducible exact HC1.out _ y3) | (with_reducible exact HC2.out _) | (with_reducible exact unlS _ _ _)))); (try dsimp only); (try simp only [Act.put, List.setIfInBounds_toArray, List.set_cons_zero, List.set_cons_succ])) | (refine headP_pure ?_ (by rfl) (by rfl) (fun w' => ?_) ?_; rotate_left; (focus ((first | (go_simp; done) | (go_simp; with_reducible rfl)))); (try dsimp only); (try simp only [Act.put, List.setIfInBounds_toArray, List.set_cons_zero, List.set_cons_succ])) | (refine headP_skip (by rfl) ?_; (try dsimp only); (try simp only [Act.put, List.setIfInBounds_toArray, List.set_cons_zero, List.set_cons_succ])))
    refine headP_nil (hR.out _ ?_)
    clear c4 c3 c5 cb d0 d1 d2 e0 e1 e2
    refine AnyZ.last 22 (by kernel_rfl) (by decide) (fun w2 hw2 => ?_)
    refine wpAny_one 22 (by kernel_rfl) rfl rfl ?_
    have hB2 := belowSeq2 hB hw2
    clear hR hw2 hB
    (try simp only [List.getElem_toArray, List.getElem_cons_succ, List.getElem_cons_zero])
    (try simp only [Act.put, List.setIfInBounds_toArray, List.set_cons_succ, List.set_cons_zero])
    unfold Oper.wp
    go_simp
    refine wpAny_one 23 (by kernel_rfl) rfl rfl ?_
    (try simp only [List.getElem_toArray, List.getElem_cons_succ, List.getElem_cons_zero])
    (try simp only [Act.put, List.setIfInBounds_toArray, List.set_cons_succ, List.set_cons_zero])
    unfold Oper.wp
    go_simp
    go_at_call 29
    refine (first2L_any _ _ _ _ (newCell 0 _ rfl) (newCell 1 _ rfl)).mono ?_
    rintro e w4 ⟨rfl, rfl⟩
    dsimp only
    refine wpAny_one 24 (by kernel_rfl) rfl rfl ?_
    (try simp only [List.getElem_toArray, List.getElem_cons_succ, List.getElem_cons_zero])
    (try simp only [Act.put, List.setIfInBounds_toArray, List.set_cons_succ, List.set_cons_zero])
    unfold Oper.wp
    go_simp
    refine wpAny_done (by kernel_rfl) ?_
    go_wp2_with fail
    go_ret
    exact ⟨by rw [HR.out]; rfl, belowSeq2 hB2 ((Below.refl _ _).alloc (Nat.le_refl _) _)⟩
end Go.Proofs.Ytpidgcmdimjkoaa
