import Derived.Test.YtlmnhlmgbcpclaaJ2
import Derived.Test.YtlmnhlmgbcpclaaJA
import Derived.Test.YtlmnhlmgbcpclaaJ6
/- checks.Each, at the closures of gauge.firstWrong. -/
namespace Go.Proofs.Ytlmnhlmgbcpclaa
open Go.RowKit

/-- the first number from k on, of m, whose error is not 0: the number and the error -/
def eachF (E : Nat → Int) : Nat → Nat → Int × Int
  | 0, _ => (0, 0)
  | m + 1, k => if E k = 0 then eachF E m (k + 1) else ((k : Int), E k)
theorem eachF_step (E : Nat → Int) (n k : Nat) (hk : k < n) : eachF E (n - k) k = (if E k = 0 then eachF E (n - (k + 1)) (k + 1) else ((k : Int), E k)) := by
  obtain ⟨m, hm⟩ : ∃ m, n - k = m + 1 := ⟨n - k - 1, by omega⟩
  rw [hm, show n - (k + 1) = m by omega]
  rfl
set_option linter.unusedVariables false in
set_option linter.unusedSimpArgs false in
set_option maxRecDepth 100000 in
set_option maxHeartbeats 4000000 in
theorem eachS_any (p1 p2 p3 : Value) (n : Nat) (E : Nat → Int) (w : World) (hn : n ≤ 100000) (hE : ∀ (i : Nat) (w' : World), i < n → Below w.heap.size w w' → Calls Try.prog 103 #[.int .i64 (i : Int), p1, p2, p3] w' fun e w'' => e = .returned (.int .i64 (E i)) ∧ Below w'.heap.size w' w'') :
    Calls Try.prog 74 #[.int .i64 (n : Int), .func (.func 103) #[] #[p1, p2, p3]] w fun e w' => e = .returned (.tuple #[.int .i64 (eachF E n 0).1, .int .i64 (eachF E n 0).2]) ∧ Below w.heap.size w w' := by
  have HE := Lib.hid hE
  clear hE
  go_enter Try.func74, Try.ntmps74
  go_wp2_with fail
  go_loopw [9] (fun i wr => ∃ (k : Nat), (k ≤ n ∧ i = .int .i64 (k : Int)) ∧ Hid (eachF E n 0 = eachF E (n - k) k) ∧ Below w.heap.size w wr)
    (fun i _ => n - (intOf i).toNat)
  case atStart => exact ⟨0, ⟨Nat.zero_le _, rfl⟩, Lib.hid rfl, Below.refl _ _⟩
  case round =>
    obtain ⟨k, ⟨hk, rfl⟩, HI, hB⟩ := hrel
    by_cases hlt : k < n
    · have HC := Lib.hid (fun w' h => HE.out k w' hlt h)
      have HS := Lib.hid (eachF_step E n k hlt)
      obtain ⟨ee, hee⟩ : ∃ z, E k = z := ⟨_, rfl⟩
      rw [hee] at HC HS
      clear hee
      have hk1 : (k : Int) < (n : Int) := by omega
      by_cases hz : ee = 0
      · have hnz : (ee != 0) = false := by rw [hz]; rfl
        have HZ := Lib.hid hz
        clear hz
        go_wp2_with (go_at_call 103; (with_reducible refine Calls.mono (HC.out _ hB) ?_); rintro e w1 ⟨rfl, hb1⟩)
        go_roundw
        case rel => exact ⟨k + 1, ⟨by omega, by first | rfl | go_num⟩, Lib.hid (by rw [HI.out, HS.out, if_pos HZ.out]), belowSeq2 hB hb1⟩
        case measure => simp [intOf]; omega
      · have hnz : (ee != 0) = true := by simp [hz]
        have HZ := Lib.hid hz
        clear hz
        go_wp2_with (go_at_call 103; (with_reducible refine Calls.mono (HC.out _ hB) ?_); rintro e w1 ⟨rfl, hb1⟩)
        (with_reducible refine bodyPost_ret (v := .tuple #[.int .i64 (k : Int), .int .i64 ee]) ?_ rfl ?_)
        · simp [results, Try.results74, go_sem]
        · exact ⟨by rw [HI.out, HS.out, if_neg HZ.out], belowSeq2 hB hb1⟩
    · obtain rfl : k = n := by omega
      have hge : ¬ (k : Int) < (k : Int) := by omega
      clear hlt
      go_wp2_with fail
      (with_reducible refine bodyPost_ret (v := .tuple #[.int .i64 0, .int .i64 0]) ?_ rfl ?_)
      · simp [results, Try.results74, go_sem]
      · exact ⟨by rw [HI.out, Nat.sub_self]; rfl, hB⟩
set_option linter.unusedVariables false in
set_option linter.unusedSimpArgs false in
set_option maxRecDepth 100000 in
set_option maxHeartbeats 4000000 in
theorem eachR_any (p1 p2 p3 : Value) (n : Nat) (E : Nat → Int) (w : World) (hn : n ≤ 100000) (hE : ∀ (i : Nat) (w' : World), i < n → Below w.heap.size w w' → Calls Try.prog 75 #[.int .i64 (i : Int), p1, p2, p3] w' fun e w'' => e = .returned (.int .i64 (E i)) ∧ Below w'.heap.size w' w'') :
    Calls Try.prog 74 #[.int .i64 (n : Int), .func (.func 75) #[] #[p1, p2, p3]] w fun e w' => e = .returned (.tuple #[.int .i64 (eachF E n 0).1, .int .i64 (eachF E n 0).2]) ∧ Below w.heap.size w w' := by
  have HE := Lib.hid hE
  clear hE
  go_enter Try.func74, Try.ntmps74
  go_wp2_with fail
  go_loopw [9] (fun i wr => ∃ (k : Nat), (k ≤ n ∧ i = .int .i64 (k : Int)) ∧ Hid (eachF E n 0 = eachF E (n - k) k) ∧ Below w.heap.size w wr)
    (fun i _ => n - (intOf i).toNat)
  case atStart => exact ⟨0, ⟨Nat.zero_le _, rfl⟩, Lib.hid rfl, Below.refl _ _⟩
  case round =>
    obtain ⟨k, ⟨hk, rfl⟩, HI, hB⟩ := hrel
    by_cases hlt : k < n
    · have HC := Lib.hid (fun w' h => HE.out k w' hlt h)
      have HS := Lib.hid (eachF_step E n k hlt)
      obtain ⟨ee, hee⟩ : ∃ z, E k = z := ⟨_, rfl⟩
      rw [hee] at HC HS
      clear hee
      have hk1 : (k : Int) < (n : Int) := by omega
      by_cases hz : ee = 0
      · have hnz : (ee != 0) = false := by rw [hz]; rfl
        have HZ := Lib.hid hz
        clear hz
        go_wp2_with (go_at_call 75; (with_reducible refine Calls.mono (HC.out _ hB) ?_); rintro e w1 ⟨rfl, hb1⟩)
        go_roundw
        case rel => exact ⟨k + 1, ⟨by omega, by first | rfl | go_num⟩, Lib.hid (by rw [HI.out, HS.out, if_pos HZ.out]), belowSeq2 hB hb1⟩
        case measure => simp [intOf]; omega
      · have hnz : (ee != 0) = true := by simp [hz]
        have HZ := Lib.hid hz
        clear hz
        go_wp2_with (go_at_call 75; (with_reducible refine Calls.mono (HC.out _ hB) ?_); rintro e w1 ⟨rfl, hb1⟩)
        (with_reducible refine bodyPost_ret (v := .tuple #[.int .i64 (k : Int), .int .i64 ee]) ?_ rfl ?_)
        · simp [results, Try.results74, go_sem]
        · exact ⟨by rw [HI.out, HS.out, if_neg HZ.out], belowSeq2 hB hb1⟩
    · obtain rfl : k = n := by omega
      have hge : ¬ (k : Int) < (k : Int) := by omega
      clear hlt
      go_wp2_with fail
      (with_reducible refine bodyPost_ret (v := .tuple #[.int .i64 0, .int .i64 0]) ?_ rfl ?_)
      · simp [results, Try.results74, go_sem]
      · exact ⟨by rw [HI.out, Nat.sub_self]; rfl, hB⟩
set_option linter.unusedVariables false in
set_option linter.unusedSimpArgs false in
set_option maxRecDepth 100000 in
set_option maxHeartbeats 4000000 in
theorem eachM_any (p1 p2 p3 : Value) (n : Nat) (E : Nat → Int) (w : World) (hn : n ≤ 100000) (hE : ∀ (i : Nat) (w' : World), i < n → Below w.heap.size w w' → Calls Try.prog 76 #[.int .i64 (i : Int), p1, p2, p3] w' fun e w'' => e = .returned (.int .i64 (E i)) ∧ Below w'.heap.size w' w'') :
    Calls Try.prog 74 #[.int .i64 (n : Int), .func (.func 76) #[] #[p1, p2, p3]] w fun e w' => e = .returned (.tuple #[.int .i64 (eachF E n 0).1, .int .i64 (eachF E n 0).2]) ∧ Below w.heap.size w w' := by
  have HE := Lib.hid hE
  clear hE
  go_enter Try.func74, Try.ntmps74
  go_wp2_with fail
  go_loopw [9] (fun i wr => ∃ (k : Nat), (k ≤ n ∧ i = .int .i64 (k : Int)) ∧ Hid (eachF E n 0 = eachF E (n - k) k) ∧ Below w.heap.size w wr)
    (fun i _ => n - (intOf i).toNat)
  case atStart => exact ⟨0, ⟨Nat.zero_le _, rfl⟩, Lib.hid rfl, Below.refl _ _⟩
  case round =>
    obtain ⟨k, ⟨hk, rfl⟩, HI, hB⟩ := hrel
    by_cases hlt : k < n
    · have HC := Lib.hid (fun w' h => HE.out k w' hlt h)
      have HS := Lib.hid (eachF_step E n k hlt)
      obtain ⟨ee, hee⟩ : ∃ z, E k = z := ⟨_, rfl⟩
      rw [hee] at HC HS
      clear hee
      have hk1 : (k : Int) < (n : Int) := by omega
      by_cases hz : ee = 0
      · have hnz : (ee != 0) = false := by rw [hz]; rfl
        have HZ := Lib.hid hz
        clear hz
        go_wp2_with (go_at_call 76; (with_reducible refine Calls.mono (HC.out _ hB) ?_); rintro e w1 ⟨rfl, hb1⟩)
        go_roundw
        case rel => exact ⟨k + 1, ⟨by omega, by first | rfl | go_num⟩, Lib.hid (by rw [HI.out, HS.out, if_pos HZ.out]), belowSeq2 hB hb1⟩
        case measure => simp [intOf]; omega
      · have hnz : (ee != 0) = true := by simp [hz]
        have HZ := Lib.hid hz
        clear hz
        go_wp2_with (go_at_call 76; (with_reducible refine Calls.mono (HC.out _ hB) ?_); rintro e w1 ⟨rfl, hb1⟩)
        (with_reducible refine bodyPost_ret (v := .tuple #[.int .i64 (k : Int), .int .i64 ee]) ?_ rfl ?_)
        · simp [results, Try.results74, go_sem]
        · exact ⟨by rw [HI.out, HS.out, if_neg HZ.out], belowSeq2 hB hb1⟩
    · obtain rfl : k = n := by omega
      have hge : ¬ (k : Int) < (k : Int) := by omega
      clear hlt
      go_wp2_with fail
      (with_reducible refine bodyPost_ret (v := .tuple #[.int .i64 0, .int .i64 0]) ?_ rfl ?_)
      · simp [results, Try.results74, go_sem]
      · exact ⟨by rw [HI.out, Nat.sub_self]; rfl, hB⟩
end Go.Proofs.Ytlmnhlmgbcpclaa

/- Stations of a cask: their errors, and the first wrong one. -/
namespace Go.Proofs.Ytlmnhlmgbcpclaa
open Go.RowKit

theorem first2L_any (a0 a1 : Int) (p : Nat) (w : World) (h0 : w.cell? ⟨p, 0, none⟩ = some (.int .i64 a0)) (h1 : w.cell? ⟨p, 1, none⟩ = some (.int .i64 a1)) :
    Calls Try.prog 36 #[.slice (some ⟨p, 0, none⟩) 2 2] w fun x w' => x = .returned (.int .i64 (firstL [a0, a1])) ∧ w = w' :=
  first_list [a0, a1] p 0 w (by simp) (by intro j hj; match j, hj with | 0, _ => exact h0 | 1, _ => exact h1)
theorem first3L_any (a0 a1 a2 : Int) (p : Nat) (w : World) (h0 : w.cell? ⟨p, 0, none⟩ = some (.int .i64 a0)) (h1 : w.cell? ⟨p, 1, none⟩ = some (.int .i64 a1)) (h2 : w.cell? ⟨p, 2, none⟩ = some (.int .i64 a2)) :
    Calls Try.prog 36 #[.slice (some ⟨p, 0, none⟩) 3 3] w fun x w' => x = .returned (.int .i64 (firstL [a0, a1, a2])) ∧ w = w' :=
  first_list [a0, a1, a2] p 0 w (by simp) (by intro j hj; match j, hj with | 0, _ => exact h0 | 1, _ => exact h1 | 2, _ => exact h2)
theorem first4L_any (a0 a1 a2 a3 : Int) (p : Nat) (w : World) (h0 : w.cell? ⟨p, 0, none⟩ = some (.int .i64 a0)) (h1 : w.cell? ⟨p, 1, none⟩ = some (.int .i64 a1)) (h2 : w.cell? ⟨p, 2, none⟩ = some (.int .i64 a2)) (h3 : w.cell? ⟨p, 3, none⟩ = some (.int .i64 a3)) :
    Calls Try.prog 36 #[.slice (some ⟨p, 0, none⟩) 4 4] w fun x w' => x = .returned (.int .i64 (firstL [a0, a1, a2, a3])) ∧ w = w' :=
  first_list [a0, a1, a2, a3] p 0 w (by simp) (by intro j hj; match j, hj with | 0, _ => exact h0 | 1, _ => exact h1 | 2, _ => exact h2 | 3, _ => exact h3)
theorem first5L_any (a0 a1 a2 a3 a4 : Int) (p : Nat) (w : World) (h0 : w.cell? ⟨p, 0, none⟩ = some (.int .i64 a0)) (h1 : w.cell? ⟨p, 1, none⟩ = some (.int .i64 a1)) (h2 : w.cell? ⟨p, 2, none⟩ = some (.int .i64 a2)) (h3 : w.cell? ⟨p, 3, none⟩ = some (.int .i64 a3)) (h4 : w.cell? ⟨p, 4, none⟩ = some (.int .i64 a4)) :
    Calls Try.prog 36 #[.slice (some ⟨p, 0, none⟩) 5 5] w fun x w' => x = .returned (.int .i64 (firstL [a0, a1, a2, a3, a4])) ∧ w = w' :=
  first_list [a0, a1, a2, a3, a4] p 0 w (by simp) (by intro j hj; match j, hj with | 0, _ => exact h0 | 1, _ => exact h1 | 2, _ => exact h2 | 3, _ => exact h3 | 4, _ => exact h4)
theorem numS (n lo hi : Int) (w : World) : Calls Try.prog 68 #[.int .i64 n, .int .i64 lo, .int .i64 hi] w fun e w' => e = .returned (.int .i64 (numE n lo hi)) ∧ Below w.heap.size w w' := still_call (number_any n lo hi w)
theorem unlS (b : Bool) (e : Int) (w : World) : Calls Try.prog 38 #[.bool b, .int .i64 e] w fun x w' => x = .returned (.int .i64 (unlE b e)) ∧ Below w.heap.size w w' := still_call (unless_any b e w)
set_option linter.unusedVariables false in
set_option linter.unusedSimpArgs false in
set_option maxRecDepth 100000 in
set_option maxHeartbeats 4000000 in
theorem stationError_any (a i o bung : Int) (w : World) : Calls Try.prog 101 #[.agg #[.int .i64 a, .int .i64 i, .int .i64 o], .int .i64 bung] w fun e w' => e = .returned (.int .i64 (firstL [numE a 0 3000, numE i 10 bung, numE o 10 bung, unlE (decide (i ≤ o)) 9])) ∧ Below w.heap.size w w' := by
  go_enter Try.func101, Try.ntmps101
  go_upto_region 1 with fail
  refine nameWorld (fun w' => w'.cell? ⟨w.heap.size, 0, none⟩ = some (.int .i64 a) ∧ w'.cell? ⟨w.heap.size, 1, none⟩ = some (.int .i64 i) ∧ w'.cell? ⟨w.heap.size, 2, none⟩ = some (.int .i64 o) ∧ Below w.heap.size w w') ⟨(newBoth rfl (Below.refl _ _) 0 _ rfl).1, (newBoth rfl (Below.refl _ _) 1 _ rfl).1, (newBoth rfl (Below.refl _ _) 2 _ rfl).1, (Below.refl _ _).alloc (Nat.le_refl _) _⟩ (fun wc hc => ?_)
  obtain ⟨x0, x1, x2, hB⟩ := hc
  refine regionX 17 0 [] [] (by kernel_rfl) (by kernel_rfl) (by kernel_rfl) (by kernel_rfl) (by decide) (fun _ _ d _ _ h => by cases d <;> exact h) ?_
  intro R hR
  simp only [List.take_succ_cons, List.take_zero]
  iterate 17 (first | (refine headP_val ?_ (by rfl) (by rfl) (fun w' hw' => ?_) ?_; rotate_left; (focus (have y0 := keepC hw' x0; have y1 := keepC hw' x1; have y2 := keepC hw' x2; first | (refine onlyMakes_val ?_; first | (go_simp; done) | (go_simp; with_reducible rfl)) | (apply onlyMakes_call; (first | (go_simp; done) | (go_simp; exact ⟨rfl, rfl⟩) | (go_simp; with_reducible rfl)); first | (with_reducible exact numS _ _ _ _) | (with_reducible exact unlS _ _ _)))); (try dsimp only); (try simp only [Act.put, List.setIfInBounds_toArray, List.set_cons_zero, List.set_cons_succ])) | (refine headP_pure ?_ (by rfl) (by rfl) (fun w' => ?_) ?_; rotate_left; (focus ((first | (go_simp; done) | (go_simp; with_reducible rfl)))); (try dsimp only); (try simp only [Act.put, List.setIfInBounds_toArray, List.set_cons_zero, List.set_cons_succ])) | (refine headP_skip (by rfl) ?_; (try dsimp only); (try simp only [Act.put, List.setIfInBounds_toArray, List.set_cons_zero, List.set_cons_succ])))
  refine headP_nil (hR.out _ ?_)
  clear x0 x1 x2
  refine AnyZ.last 17 (by kernel_rfl) (by decide) (fun w2 hw2 => ?_)
  refine wpAny_one 17 (by kernel_rfl) rfl rfl ?_
  have hB2 := belowSeq2 hB hw2
  clear hR hw2 hB
  (try simp only [List.getElem_toArray, List.getElem_cons_succ, List.getElem_cons_zero])
  (try simp only [Act.put, List.setIfInBounds_toArray, List.set_cons_succ, List.set_cons_zero])
  unfold Oper.wp
  go_simp
  refine wpAny_one 18 (by kernel_rfl) rfl rfl ?_
  (try simp only [List.getElem_toArray, List.getElem_cons_succ, List.getElem_cons_zero])
  (try simp only [Act.put, List.setIfInBounds_toArray, List.set_cons_succ, List.set_cons_zero])
  unfold Oper.wp
  go_simp
  go_at_call 36
  refine (first4L_any _ _ _ _ _ _ (newCell 0 _ rfl) (newCell 1 _ rfl) (newCell 2 _ rfl) (newCell 3 _ rfl)).mono ?_
  rintro e w4 ⟨rfl, rfl⟩
  dsimp only
  refine wpAny_one 19 (by kernel_rfl) rfl rfl ?_
  (try simp only [List.getElem_toArray, List.getElem_cons_succ, List.getElem_cons_zero])
  (try simp only [Act.put, List.setIfInBounds_toArray, List.set_cons_succ, List.set_cons_zero])
  unfold Oper.wp
  go_simp
  refine wpAny_done (by kernel_rfl) ?_
  go_wp2_with fail
  go_ret
  exact ⟨rfl, belowSeq2 hB2 ((Below.refl _ _).alloc (Nat.le_refl _) _)⟩
set_option linter.unusedVariables false in
set_option linter.unusedSimpArgs false in
set_option maxRecDepth 100000 in
set_option maxHeartbeats 4000000 in
theorem cask1_any (a i o bung : Int) (bc : Nat) (w : World) (hc : w.cell? ⟨bc, 1, none⟩ = some (.int .i64 bung)) : Calls Try.prog 100 #[.agg #[.int .i64 a, .int .i64 i, .int .i64 o], .pointer (some ⟨bc, 0, none⟩)] w fun e w' => e = .returned (.int .i64 (firstL [numE a 0 3000, numE i 10 bung, numE o 10 bung, unlE (decide (i ≤ o)) 9])) ∧ Below w.heap.size w w' := by
  have hs : bc < w.heap.size := World.block_lt_of_cell? w _ hc
  have HS := Lib.hid (fun w => stationError_any a i o bung w)
  obtain ⟨ee, hee⟩ : ∃ z, firstL [numE a 0 3000, numE i 10 bung, numE o 10 bung, unlE (decide (i ≤ o)) 9] = z := ⟨_, rfl⟩
  rw [hee] at HS ⊢
  clear hee
  go_enter Try.func100, Try.ntmps100
  go_wp2_with (go_at_call 101; (with_reducible refine Calls.mono (HS.out _) ?_); rintro e w1 ⟨rfl, hb1⟩)
  go_ret
  exact ⟨rfl, belowSeq2 ((Below.refl _ _).alloc (Nat.le_refl _) _) hb1⟩
set_option linter.unusedVariables false in
set_option linter.unusedSimpArgs false in
set_option maxRecDepth 100000 in
set_option maxHeartbeats 4000000 in
theorem cask2_any (a i o b j q : Int) (w : World) : Calls Try.prog 102 #[.agg #[.int .i64 a, .int .i64 i, .int .i64 o], .agg #[.int .i64 b, .int .i64 j, .int .i64 q]] w fun e w' => e = .returned (.bool (decide (a < b))) ∧ Below w.heap.size w w' := by
  go_enter Try.func102, Try.ntmps102
  go_wp2_with fail
  go_ret
  exact ⟨rfl, by go_grown⟩
end Go.Proofs.Ytlmnhlmgbcpclaa

/- The first wrong station of a cask. -/
namespace Go.Proofs.Ytlmnhlmgbcpclaa
open Go.RowKit

structure Sn where
  (a i o : Int)
def Sn.at (x : Sn) : Nat → Int
  | 0 => x.a | 1 => x.i | _ => x.o
def stE (bung : Int) (x : Sn) : Int := firstL [numE x.a 0 3000, numE x.i 10 bung, numE x.o 10 bung, unlE (decide (x.i ≤ x.o)) 9]
def snE (bung : Int) (x : Nat → Sn) (n : Nat) : Int := firstL [stE bung (x n), unlE (decide (n = 0) || decide ((x (n - 1)).a < (x n).a)) 9]
attribute [local irreducible] HeadP
set_option linter.unusedVariables false in
set_option linter.unusedSimpArgs false in
set_option maxRecDepth 100000 in
set_option maxHeartbeats 4000000 in
theorem fwS1_any (b3 b4 b5 bc gs os N cap n : Nat) (bung : Int) (x : Nat → Sn) (w : World) (hn : n < N) (hN : N ≤ 100000) (c4 : w.cell? ⟨b4, 0, none⟩ = some (.func (.func 100) #[] #[.pointer (some ⟨bc, 0, none⟩)])) (c3 : w.cell? ⟨b3, 0, none⟩ = some (.slice (some ⟨gs, os, none⟩) N cap)) (c5 : w.cell? ⟨b5, 0, none⟩ = some (.func (.func 102) #[] #[])) (cb : w.cell? ⟨bc, 1, none⟩ = some (.int .i64 bung)) (hx : ∀ i j, i < N → j < 3 → w.cell? ⟨gs, os + i * 3 + j, none⟩ = some (.int .i64 ((x i).at j))) :
    Calls Try.prog 103 #[.int .i64 (n : Int), .pointer (some ⟨b4, 0, none⟩), .pointer (some ⟨b3, 0, none⟩), .pointer (some ⟨b5, 0, none⟩)] w fun e w' => e = .returned (.int .i64 (snE bung x n)) ∧ Below w.heap.size w w' := by
  have hk0 : (0 : Int) ≤ (n : Int) := by omega
  have hk1 : (n : Int) < (N : Int) := by omega
  obtain ⟨⟨a, i, o⟩, hr⟩ : ∃ z, x n = z := ⟨_, rfl⟩
  have d0 := hx n 0 hn (by decide)
  rw [hr] at d0
  rw [Nat.add_zero] at d0
  dsimp only [Sn.at] at d0
  have d1 := hx n 1 hn (by decide)
  rw [hr] at d1
  dsimp only [Sn.at] at d1
  have d2 := hx n 2 hn (by decide)
  rw [hr] at d2
  dsimp only [Sn.at] at d2
  have HC1 := Lib.hid (fun (w' : World) (h : w'.cell? ⟨bc, 1, none⟩ = some (.int .i64 bung)) => cask1_any a i o bung bc w' h)
  obtain ⟨ee, hee⟩ : ∃ z, firstL [numE a 0 3000, numE i 10 bung, numE o 10 bung, unlE (decide (i ≤ o)) 9] = z := ⟨_, rfl⟩
  rw [hee] at HC1
  by_cases h0 : n = 0
  · have h1 : ((n : Int) == 0) = true := by simp; omega
    have HR : Hid (snE bung x n = firstL [ee, unlE true 9]) := Lib.hid (by unfold snE stE; rw [hr, show decide (n = 0) = true by simpa using h0]; dsimp only; rw [hee]; rfl)
    clear hee hr h0 hx
    have hB := Below.refl w.heap.size w
    go_enter Try.func103, Try.ntmps103
    go_upto_region 1 with fail
    refine regionX 22 0 [] [] (by kernel_rfl) (by kernel_rfl) (by kernel_rfl) (by kernel_rfl) (by decide) (fun _ _ d _ _ h => by cases d <;> exact h) ?_
    intro R hR
    simp only [List.take_succ_cons, List.take_zero]
    iterate 22 (first | (refine headP_val ?_ (by rfl) (by rfl) (fun w' hw' => ?_) ?_; rotate_left; (focus (have y0 := keepC hw' c4; have y1 := keepC hw' c3; have y2 := keepC hw' c5; have y3 := keepC hw' cb; have y4 := keepC hw' d0; have y5 := keepC hw' d1; have y6 := keepC hw' d2; first | (refine onlyMakes_val ?_; first | (go_simp; done) | (go_simp; with_reducible rfl)) | (apply onlyMakes_call; (first | (go_simp; done) | (go_simp; exact ⟨rfl, rfl⟩) | (go_simp; with_reducible rfl)); first | (with_reducible exact HC1.out _ y3) | (with_reducible exact unlS _ _ _)))); (try dsimp only); (try simp only [Act.put, List.setIfInBounds_toArray, List.set_cons_zero, List.set_cons_succ])) | (refine headP_pure ?_ (by rfl) (by rfl) (fun w' => ?_) ?_; rotate_left; (focus ((first | (go_simp; done) | (go_simp; with_reducible rfl)))); (try dsimp only); (try simp only [Act.put, List.setIfInBounds_toArray, List.set_cons_zero, List.set_cons_succ])) | (refine headP_skip (by rfl) ?_; (try dsimp only); (try simp only [Act.put, List.setIfInBounds_toArray, List.set_cons_zero, List.set_cons_succ])))
    refine headP_nil (hR.out _ ?_)
    clear c4 c3 c5 cb d0 d1 d2
    refine AnyZ.last 22 (by kernel_rfl) (by decide) (fun w2 hw2 => ?_)
    refine wpAny_one 22 (by kernel_rfl) rfl rfl ?_
    have hB2 := belowSeq2 hB hw2
    clear hR hw2 hB
    (try simp only [List.getElem_toArray, List.getElem_cons_succ, List.getElem_cons_zero])
    (try simp only [Act.put, List.setIfInBounds_toArray, List.set_cons_succ, List.set_cons_zero])
    unfold Oper.wp
    go_simp
    refine wpAny_one 23 (by kernel_rfl) rfl rfl ?_
    (try simp only [List.getElem_toArray, List.getElem_cons_succ, List.getElem_cons_zero])
    (try simp only [Act.put, List.setIfInBounds_toArray, List.set_cons_succ, List.set_cons_zero])
    unfold Oper.wp
    go_simp
    go_at_call 36
    refine (first2L_any _ _ _ _ (newCell 0 _ rfl) (newCell 1 _ rfl)).mono ?_
    rintro e w4 ⟨rfl, rfl⟩
    dsimp only
    refine wpAny_one 24 (by kernel_rfl) rfl rfl ?_
    (try simp only [List.getElem_toArray, List.getElem_cons_succ, List.getElem_cons_zero])
    (try simp only [Act.put, List.setIfInBounds_toArray, List.set_cons_succ, List.set_cons_zero])
    unfold Oper.wp
    go_simp
    refine wpAny_done (by kernel_rfl) ?_
    go_wp2_with fail
    go_ret
    exact ⟨by rw [HR.out]; rfl, belowSeq2 hB2 ((Below.refl _ _).alloc (Nat.le_refl _) _)⟩
  · obtain ⟨q, hq⟩ : ∃ q, n = q + 1 := ⟨n - 1, by omega⟩
    have h1 : ((n : Int) == 0) = false := by simp; omega
    have hqN : q < N := by omega
    obtain ⟨⟨a2, i2, o2⟩, hr2⟩ : ∃ z, x q = z := ⟨_, rfl⟩
    have e0 := hx q 0 hqN (by decide)
    rw [hr2] at e0
    rw [Nat.add_zero] at e0
    dsimp only [Sn.at] at e0
    have e1 := hx q 1 hqN (by decide)
    rw [hr2] at e1
    dsimp only [Sn.at] at e1
    have e2 := hx q 2 hqN (by decide)
    rw [hr2] at e2
    dsimp only [Sn.at] at e2
    have HC2 := Lib.hid (fun (w' : World) => cask2_any a2 i2 o2 a i o w')
    have HR : Hid (snE bung x n = firstL [ee, unlE (decide (a2 < a)) 9]) := Lib.hid (by unfold snE stE; rw [hr, show decide (n = 0) = false by simpa using h0, show n - 1 = q by omega, hr2]; dsimp only; rw [hee]; rfl)
    have u0 : IntKind.i64.wrap ((n : Int) - 1) = (q : Int) := by rw [show (n : Int) - 1 = (q : Int) by omega]; exact IntWalk.i64_in _ (by omega)
    have hq0 : (0 : Int) ≤ (q : Int) := by omega
    have hq1 : (q : Int) < (N : Int) := by omega
    clear hee hr hr2 h0 hx hq
    have hB := Below.refl w.heap.size w
    go_enter Try.func103, Try.ntmps103
    go_upto_region 1 with fail
    refine regionX 22 0 [] [] (by kernel_rfl) (by kernel_rfl) (by kernel_rfl) (by kernel_rfl) (by decide) (fun _ _ d _ _ h => by cases d <;> exact h) ?_
    intro R hR
    simp only [List.take_succ_cons, List.take_zero]
    iterate 22 (first | (refine headP_val ?_ (by rfl) (by rfl) (fun w' hw' => ?_) ?_; rotate_left; (focus (have y0 := keepC hw' c4; have y1 := keepC hw' c3; have y2 := keepC hw' c5; have y3 := keepC hw' cb; have y4 := keepC hw' d0; have y5 := keepC hw' d1; have y6 := keepC hw' d2; have y7 := keepC hw' e0; have y8 := keepC hw' e1; have y9 := keepC hw' e2; first | (refine onlyMakes_val ?_; first | (go_simp; done) | (go_simp; with_reducible rfl)) | (apply onlyMakes_call; (first | (go_simp; done) | (go_simp; exact ⟨rfl, rfl⟩) | (go_simp; with_reducible rfl)); first | (with_reducible exact HC1.out _ y3) | (with_reducible exact HC2.out _) | (with_reducible exact unlS _ _ _)))); (try dsimp only); (try simp only [Act.put, List.setIfInBounds_toArray, List.set_cons_zero, List.set_cons_succ])) | (refine headP_pure ?_ (by rfl) (by rfl) (fun w' => ?_) ?_; rotate_left; (focus ((first | (go_simp; done) | (go_simp; with_reducible rfl)))); (try dsimp only); (try simp only [Act.put, List.setIfInBounds_toArray, List.set_cons_zero, List.set_cons_succ])) | (refine headP_skip (by rfl) ?_; (try dsimp only); (try simp only [Act.put, List.setIfInBounds_toArray, List.set_cons_zero, List.set_cons_succ])))
    refine headP_nil (hR.out _ ?_)
    clear c4 c3 c5 cb d0 d1 d2 e0 e1 e2
    refine AnyZ.last 22 (by kernel_rfl) (by decide) (fun w2 hw2 => ?_)
    refine wpAny_one 22 (by kernel_rfl) rfl rfl ?_
    have hB2 := belowSeq2 hB hw2
    clear hR hw2 hB
    (try simp only [List.getElem_toArray, List.getElem_cons_succ, List.getElem_cons_zero])
    (try simp only [Act.put, List.setIfInBounds_toArray, List.set_cons_succ, List.set_cons_zero])
    unfold Oper.wp
    go_simp
    refine wpAny_one 23 (by kernel_rfl) rfl rfl ?_
    (try simp only [List.getElem_toArray, List.getElem_cons_succ, List.getElem_cons_zero])
    (try simp only [Act.put, List.setIfInBounds_toArray, List.set_cons_succ, List.set_cons_zero])
    unfold Oper.wp
    go_simp
    go_at_call 36
    refine (first2L_any _ _ _ _ (newCell 0 _ rfl) (newCell 1 _ rfl)).mono ?_
    rintro e w4 ⟨rfl, rfl⟩
    dsimp only
    refine wpAny_one 24 (by kernel_rfl) rfl rfl ?_
    (try simp only [List.getElem_toArray, List.getElem_cons_succ, List.getElem_cons_zero])
    (try simp only [Act.put, List.setIfInBounds_toArray, List.set_cons_succ, List.set_cons_zero])
    unfold Oper.wp
    go_simp
    refine wpAny_done (by kernel_rfl) ?_
    go_wp2_with fail
    go_ret
    exact ⟨by rw [HR.out]; rfl, belowSeq2 hB2 ((Below.refl _ _).alloc (Nat.le_refl _) _)⟩
end Go.Proofs.Ytlmnhlmgbcpclaa

/- firstWrong of stations, and CheckCask. -/
namespace Go.Proofs.Ytlmnhlmgbcpclaa
open Go.RowKit

set_option linter.unusedVariables false in
set_option linter.unusedSimpArgs false in
set_option maxRecDepth 100000 in
set_option maxHeartbeats 4000000 in
theorem fwS_any (bc gs os N cap : Nat) (bung : Int) (x : Nat → Sn) (w : World) (hN : N ≤ 100000) (cb : w.cell? ⟨bc, 1, none⟩ = some (.int .i64 bung)) (hx : ∀ i j, i < N → j < 3 → w.cell? ⟨gs, os + i * 3 + j, none⟩ = some (.int .i64 ((x i).at j))) :
    Calls Try.prog 99 #[.slice (some ⟨gs, os, none⟩) N cap, .func (.func 100) #[] #[.pointer (some ⟨bc, 0, none⟩)], .func (.func 102) #[] #[]] w fun e w' => e = .returned (.tuple #[.int .i64 (eachF (snE bung x) N 0).1, .int .i64 (eachF (snE bung x) N 0).2]) ∧ Below w.heap.size w w' := by
  have HEA := Lib.hid (fun (b3 b4 b5 : Nat) (w1 : World) c4 c3 c5 cb (hx : ∀ i j, i < N → j < 3 → w1.cell? ⟨gs, os + i * 3 + j, none⟩ = some (.int .i64 ((x i).at j))) => eachS_any (.pointer (some ⟨b4, 0, none⟩)) (.pointer (some ⟨b3, 0, none⟩)) (.pointer (some ⟨b5, 0, none⟩)) N (snE bung x) w1 hN (fun n w2 hn hb => fwS1_any b3 b4 b5 bc gs os N cap n bung x w2 hn hN (keepC hb c4) (keepC hb c3) (keepC hb c5) (keepC hb cb) (fun i j hi hj => keepC hb (hx i j hi hj))))
  have HX := Lib.hid hx
  clear hx
  obtain ⟨r1, hr1⟩ : ∃ z, (eachF (snE bung x) N 0).1 = z := ⟨_, rfl⟩
  obtain ⟨r2, hr2⟩ : ∃ z, (eachF (snE bung x) N 0).2 = z := ⟨_, rfl⟩
  rw [hr1, hr2] at HEA ⊢
  clear hr1 hr2
  go_enter Try.func99, Try.ntmps99
  go_upto_region 1 with fail
  obtain ⟨B0, hB0⟩ : ∃ B, w.heap.size = B := ⟨_, rfl⟩
  rw [hB0]
  refine nameWorld (fun w' => w'.cell? ⟨B0, 0, none⟩ = some (.slice (some ⟨gs, os, none⟩) N cap) ∧ w'.cell? ⟨B0 + 1, 0, none⟩ = some (.func (.func 100) #[] #[.pointer (some ⟨bc, 0, none⟩)]) ∧ w'.cell? ⟨B0 + 1 + 1, 0, none⟩ = some (.func (.func 102) #[] #[]) ∧ Below B0 w w') ?_ (fun wc hc => ?_)
  · rw [← hB0]
    exact ⟨by go_cell, by go_cell, by go_cell, by go_grown⟩
  obtain ⟨c3, c4, c5, hB⟩ := hc
  have hbw : Below w.heap.size w wc := by rw [hB0]; exact hB
  have HC := Lib.hid (HEA.out B0 (B0 + 1) (B0 + 1 + 1) wc c4 c3 c5 (keepC hbw cb) (fun i j hi hj => keepC hbw (HX.out i j hi hj)))
  go_wp2_with (go_at_call 74; (with_reducible refine Calls.mono HC.out ?_); rintro e w1 ⟨rfl, hb1⟩)
  (with_reducible refine bodyPost_ret (v := .tuple #[.int .i64 r1, .int .i64 r2]) ?_ rfl ?_)
  · simp [results, Try.results99, go_sem]
  · exact ⟨rfl, by first | exact belowSeq2 hbw hb1 | (rw [← hB0]; exact belowSeq2 hbw hb1)⟩
theorem nameS (s : ByteArray) (w : World) : Calls Try.prog 46 #[.string s] w fun e w' => e = .returned (.int .i64 (unlE (nameB s) 4)) ∧ Below w.heap.size w w' := still_call (chkName_any s w)
theorem firstL4_zero {a b c d : Int} (h : firstL [a, b, c, d] = 0) : a = 0 ∧ b = 0 ∧ c = 0 ∧ d = 0 := by
  by_cases ha : a = 0 <;> by_cases hb : b = 0 <;> by_cases hc : c = 0 <;> by_cases hd : d = 0 <;> simp_all [firstL]
attribute [local irreducible] HeadP
def caskE (s : ByteArray) (bung : Int) (N : Nat) : Int := firstL [unlE (nameB s) 4, numE bung 10 800, unlE (decide ((2 : Int) ≤ (N : Int))) 10, unlE (decide ((N : Int) ≤ 12)) 8]
set_option linter.unusedVariables false in
set_option linter.unusedSimpArgs false in
set_option maxRecDepth 100000 in
set_option maxHeartbeats 4000000 in
theorem cask_wrong (s : ByteArray) (bung : Int) (sa : Option Addr) (N cap : Nat) (w : World) (hd : caskE s bung N ≠ 0) :
    Calls Try.prog 91 #[.agg #[.string s, .int .i64 bung, .slice sa N cap]] w fun e w' => e = .returned (.tuple #[.int .i64 0, .int .i64 (caskE s bung N)]) ∧ Below w.heap.size w w' := by
  have hee : firstL [unlE (nameB s) 4, numE bung 10 800, unlE (decide ((2 : Int) ≤ (N : Int))) 10, unlE (decide ((N : Int) ≤ 12)) 8] = caskE s bung N := rfl
  obtain ⟨ee, he9⟩ : ∃ z, caskE s bung N = z := ⟨_, rfl⟩
  rw [he9] at hee hd ⊢
  have HEE := Lib.hid hee
  have hnz : (ee != 0) = true := by simp [hd]
  clear hd he9 hee
  go_enter Try.func91, Try.ntmps91
  go_upto_region 1 with fail
  obtain ⟨B0, hB0⟩ : ∃ B, w.heap.size = B := ⟨_, rfl⟩
  rw [hB0]
  refine nameWorld (fun w' => w'.cell? ⟨B0, 0, none⟩ = some (.string s) ∧ w'.cell? ⟨B0, 1, none⟩ = some (.int .i64 bung) ∧ w'.cell? ⟨B0, 2, none⟩ = some (.slice sa N cap) ∧ Below w.heap.size w w') ?_ (fun wc hc => ?_)
  · rw [← hB0]
    exact ⟨by go_cell, by go_cell, by go_cell, by go_grown⟩
  obtain ⟨x0, x1, x2, hB⟩ := hc
  have k0 := Lib.hid (And.intro x0 (And.intro x1 (And.intro x2 hB)))
  refine regionX 16 0 [] [] (by kernel_rfl) (by kernel_rfl) (by kernel_rfl) (by kernel_rfl) (by decide) (fun _ _ d _ _ h => by cases d <;> exact h) ?_
  intro R hR
  simp only [List.take_succ_cons, List.take_zero]
  iterate 16 (first | (refine headP_val ?_ (by rfl) (by rfl) (fun w' hw' => ?_) ?_; rotate_left; (focus (have y0 := keepC hw' x0; have y1 := keepC hw' x1; have y2 := keepC hw' x2; first | (refine onlyMakes_val ?_; first | (go_simp; done) | (go_simp; with_reducible rfl)) | (apply onlyMakes_call; (first | (go_simp; done) | (go_simp; exact ⟨rfl, rfl⟩) | (go_simp; with_reducible rfl)); first | (with_reducible exact nameS _ _) | (with_reducible exact numS _ _ _ _) | (with_reducible exact unlS _ _ _)))); (try dsimp only); (try simp only [Act.put, List.setIfInBounds_toArray, List.set_cons_zero, List.set_cons_succ])) | (refine headP_pure ?_ (by rfl) (by rfl) (fun w' => ?_) ?_; rotate_left; (focus ((first | (go_simp; done) | (go_simp; with_reducible rfl)))); (try dsimp only); (try simp only [Act.put, List.setIfInBounds_toArray, List.set_cons_zero, List.set_cons_succ])) | (refine headP_skip (by rfl) ?_; (try dsimp only); (try simp only [Act.put, List.setIfInBounds_toArray, List.set_cons_zero, List.set_cons_succ])))
  refine headP_nil (hR.out _ ?_)
  refine AnyZ.last 16 (by kernel_rfl) (by decide) (fun w2 hw2 => ?_)
  refine wpAny_one 16 (by kernel_rfl) rfl rfl ?_
  have x0 := keepC hw2 x0
  have x1 := keepC hw2 x1
  have x2 := keepC hw2 x2
  have hB2 := belowSeq2 hB hw2
  clear hR hw2 hB k0
  (try simp only [List.getElem_toArray, List.getElem_cons_succ, List.getElem_cons_zero])
  (try simp only [Act.put, List.setIfInBounds_toArray, List.set_cons_succ, List.set_cons_zero])
  unfold Oper.wp
  go_simp
  refine wpAny_one 17 (by kernel_rfl) rfl rfl ?_
  (try simp only [List.getElem_toArray, List.getElem_cons_succ, List.getElem_cons_zero])
  (try simp only [Act.put, List.setIfInBounds_toArray, List.set_cons_succ, List.set_cons_zero])
  unfold Oper.wp
  go_simp
  go_at_call 36
  refine (first4L_any _ _ _ _ _ _ (newCell 0 _ rfl) (newCell 1 _ rfl) (newCell 2 _ rfl) (newCell 3 _ rfl)).mono ?_
  rintro e w4 ⟨rfl, rfl⟩
  dsimp only
  rw [HEE.out]
  refine wpAny_one 18 (by kernel_rfl) rfl rfl ?_
  (try simp only [List.getElem_toArray, List.getElem_cons_succ, List.getElem_cons_zero])
  (try simp only [Act.put, List.setIfInBounds_toArray, List.set_cons_succ, List.set_cons_zero])
  unfold Oper.wp
  go_simp
  refine wpAny_done (by kernel_rfl) ?_
  go_wp2_with fail
  (with_reducible refine bodyPost_ret (v := .tuple #[.int .i64 0, .int .i64 ee]) ?_ rfl ?_)
  · simp [results, Try.results91, go_sem]
  · exact ⟨rfl, belowSeq2 hB2 ((Below.refl _ _).alloc (Nat.le_refl _) _)⟩
set_option linter.unusedVariables false in
set_option linter.unusedSimpArgs false in
set_option maxRecDepth 100000 in
set_option maxHeartbeats 4000000 in
theorem cask_right (s : ByteArray) (bung : Int) (gs os N cap : Nat) (x : Nat → Sn) (w : World) (hd : caskE s bung N = 0) (hx : ∀ i j, i < N → j < 3 → w.cell? ⟨gs, os + i * 3 + j, none⟩ = some (.int .i64 ((x i).at j))) :
    Calls Try.prog 91 #[.agg #[.string s, .int .i64 bung, .slice (some ⟨gs, os, none⟩) N cap]] w fun e w' => e = .returned (.tuple #[.int .i64 (eachF (snE bung x) N 0).1, .int .i64 (eachF (snE bung x) N 0).2]) ∧ Below w.heap.size w w' := by
  have hee : firstL [unlE (nameB s) 4, numE bung 10 800, unlE (decide ((2 : Int) ≤ (N : Int))) 10, unlE (decide ((N : Int) ≤ 12)) 8] = caskE s bung N := rfl
  have hN : N ≤ 100000 := by
    by_cases h : (N : Int) ≤ 12
    · omega
    · exfalso
      have e1 : decide ((N : Int) ≤ 12) = false := by simpa using h
      have e2 := (firstL4_zero (hee.trans hd)).2.2.2
      rw [e1] at e2
      exact absurd e2 (by decide)
  rw [hd] at hee
  have HEE := Lib.hid hee
  have HX := Lib.hid hx
  have HFW := Lib.hid (fun (bc : Nat) (w1 : World) cb (hx : ∀ i j, i < N → j < 3 → w1.cell? ⟨gs, os + i * 3 + j, none⟩ = some (.int .i64 ((x i).at j))) => fwS_any bc gs os N cap bung x w1 hN cb hx)
  obtain ⟨r1, hr1⟩ : ∃ z, (eachF (snE bung x) N 0).1 = z := ⟨_, rfl⟩
  obtain ⟨r2, hr2⟩ : ∃ z, (eachF (snE bung x) N 0).2 = z := ⟨_, rfl⟩
  rw [hr1, hr2] at HFW ⊢
  clear hr1 hr2 hd hee hx
  go_enter Try.func91, Try.ntmps91
  go_upto_region 1 with fail
  obtain ⟨B0, hB0⟩ : ∃ B, w.heap.size = B := ⟨_, rfl⟩
  rw [hB0]
  refine nameWorld (fun w' => w'.cell? ⟨B0, 0, none⟩ = some (.string s) ∧ w'.cell? ⟨B0, 1, none⟩ = some (.int .i64 bung) ∧ w'.cell? ⟨B0, 2, none⟩ = some (.slice (some ⟨gs, os, none⟩) N cap) ∧ Below w.heap.size w w') ?_ (fun wc hc => ?_)
  · rw [← hB0]
    exact ⟨by go_cell, by go_cell, by go_cell, by go_grown⟩
  obtain ⟨x0, x1, x2, hB⟩ := hc
  have k0 := Lib.hid (And.intro x0 (And.intro x1 (And.intro x2 hB)))
  refine regionX 16 0 [] [] (by kernel_rfl) (by kernel_rfl) (by kernel_rfl) (by kernel_rfl) (by decide) (fun _ _ d _ _ h => by cases d <;> exact h) ?_
  intro R hR
  simp only [List.take_succ_cons, List.take_zero]
  iterate 16 (first | (refine headP_val ?_ (by rfl) (by rfl) (fun w' hw' => ?_) ?_; rotate_left; (focus (have y0 := keepC hw' x0; have y1 := keepC hw' x1; have y2 := keepC hw' x2; first | (refine onlyMakes_val ?_; first | (go_simp; done) | (go_simp; with_reducible rfl)) | (apply onlyMakes_call; (first | (go_simp; done) | (go_simp; exact ⟨rfl, rfl⟩) | (go_simp; with_reducible rfl)); first | (with_reducible exact nameS _ _) | (with_reducible exact numS _ _ _ _) | (with_reducible exact unlS _ _ _)))); (try dsimp only); (try simp only [Act.put, List.setIfInBounds_toArray, List.set_cons_zero, List.set_cons_succ])) | (refine headP_pure ?_ (by rfl) (by rfl) (fun w' => ?_) ?_; rotate_left; (focus ((first | (go_simp; done) | (go_simp; with_reducible rfl)))); (try dsimp only); (try simp only [Act.put, List.setIfInBounds_toArray, List.set_cons_zero, List.set_cons_succ])) | (refine headP_skip (by rfl) ?_; (try dsimp only); (try simp only [Act.put, List.setIfInBounds_toArray, List.set_cons_zero, List.set_cons_succ])))
  refine headP_nil (hR.out _ ?_)
  refine AnyZ.last 16 (by kernel_rfl) (by decide) (fun w2 hw2 => ?_)
  refine wpAny_one 16 (by kernel_rfl) rfl rfl ?_
  have x0 := keepC hw2 x0
  have x1 := keepC hw2 x1
  have x2 := keepC hw2 x2
  have hB2 := belowSeq2 hB hw2
  clear hR hw2 hB k0
  (try simp only [List.getElem_toArray, List.getElem_cons_succ, List.getElem_cons_zero])
  (try simp only [Act.put, List.setIfInBounds_toArray, List.set_cons_succ, List.set_cons_zero])
  unfold Oper.wp
  go_simp
  refine wpAny_one 17 (by kernel_rfl) rfl rfl ?_
  (try simp only [List.getElem_toArray, List.getElem_cons_succ, List.getElem_cons_zero])
  (try simp only [Act.put, List.setIfInBounds_toArray, List.set_cons_succ, List.set_cons_zero])
  unfold Oper.wp
  go_simp
  go_at_call 36
  refine (first4L_any _ _ _ _ _ _ (newCell 0 _ rfl) (newCell 1 _ rfl) (newCell 2 _ rfl) (newCell 3 _ rfl)).mono ?_
  rintro e w4 ⟨rfl, rfl⟩
  dsimp only
  rw [HEE.out]
  refine wpAny_one 18 (by kernel_rfl) rfl rfl ?_
  (try simp only [List.getElem_toArray, List.getElem_cons_succ, List.getElem_cons_zero])
  (try simp only [Act.put, List.setIfInBounds_toArray, List.set_cons_succ, List.set_cons_zero])
  unfold Oper.wp
  go_simp
  refine wpAny_done (by kernel_rfl) ?_
  have hbw := belowSeq2 hB2 ((Below.refl _ w2).alloc (Nat.le_refl _) (.cells #[.int .i64 (unlE (nameB s) 4), .int .i64 (numE bung 10 800), .int .i64 (unlE (decide ((2 : Int) ≤ (N : Int))) 10), .int .i64 (unlE (decide ((N : Int) ≤ 12)) 8)] 33))
  go_upto_region 4 with fail
  have ha := (Below.refl _ w2).alloc (Nat.le_refl _) (.cells #[.int .i64 (unlE (nameB s) 4), .int .i64 (numE bung 10 800), .int .i64 (unlE (decide ((2 : Int) ≤ (N : Int))) 10), .int .i64 (unlE (decide ((N : Int) ≤ 12)) 8)] 33)
  refine nameWorld (fun w' => w'.cell? ⟨B0, 1, none⟩ = some (.int .i64 bung) ∧ w'.cell? ⟨B0, 2, none⟩ = some (.slice (some ⟨gs, os, none⟩) N cap) ∧ Below w.heap.size w w') ⟨keepC ha x1, keepC ha x2, hbw⟩ (fun wd hd => ?_)
  clear ha hbw hB2 x0 x1 x2
  obtain ⟨x1, x2, hB⟩ := hd
  have HC := Lib.hid (HFW.out B0 wd x1 (fun i j hi hj => keepC hB (HX.out i j hi hj)))
  go_wp2_with (go_at_call 99; (with_reducible refine Calls.mono HC.out ?_); rintro e w5 ⟨rfl, hb5⟩)
  (with_reducible refine bodyPost_ret (v := .tuple #[.int .i64 r1, .int .i64 r2]) ?_ rfl ?_)
  · simp [results, Try.results91, go_sem]
  · exact ⟨rfl, belowSeq2 hB hb5⟩
end Go.Proofs.Ytlmnhlmgbcpclaa
