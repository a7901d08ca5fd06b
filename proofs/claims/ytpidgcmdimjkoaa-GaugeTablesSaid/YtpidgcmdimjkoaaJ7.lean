/- checks.Each, at the closures of gauge.firstWrong. -/
import Derived.Test.YtpidgcmdimjkoaaJ2
namespace Go.Proofs.Ytpidgcmdimjkoaa
open Go.RowKit

/-- the first number from k on, of m, whose error is not 0: the number and the error -/
def eachF (E : Nat → Int) : Nat → Nat → Int × Int
  | 0, _ => (0, 0)
  | m + 1, k => if E k = 0 then eachF E m (k + 1) else ((k : Int), E k)
theorem eachF_step (E : Nat → Int) (n k : Nat) (hk : k < n) : eachF E (n - k) k = (if E k = 0 then eachF E (n - (k + 1)) (k + 1) else ((k : Int), E k)) := by
  obtain ⟨m, hm⟩ : ∃ m, n - k = m + 1 := ⟨n - k - 1, by omega⟩
  rw [hm, show n - (k + 1) = m by omega]
  rfl
set_option linter.unusedVariables false in
set_option linter.unusedSimpArgs false in
set_option maxRecDepth 100000 in
set_option maxHeartbeats 4000000 in
theorem eachS_any (p1 p2 p3 : Value) (n : Nat) (E : Nat → Int) (w : World) (hn : n ≤ 100000) (hE : ∀ (i : Nat) (w' : World), i < n → Below w.heap.size w w' → Calls Try.prog 89 #[.int .i64 (i : Int), p1, p2, p3] w' fun e w'' => e = .returned (.int .i64 (E i)) ∧ Below w'.heap.size w' w'') :
    Calls Try.prog 88 #[.int .i64 (n : Int), .func (.func 89) #[] #[p1, p2, p3]] w fun e w' => e = .returned (.tuple #[.int .i64 (eachF E n 0).1, .int .i64 (eachF E n 0).2]) ∧ Below w.heap.size w w' := by
  have HE := Lib.hid hE
  clear hE
  go_enter Try.func88, Try.ntmps88
  go_wp2_with fail
  go_loopw [9] (fun i wr => ∃ (k : Nat), (k ≤ n ∧ i = .int .i64 (k : Int)) ∧ Hid (eachF E n 0 = eachF E (n - k) k) ∧ Below w.heap.size w wr)
    (fun i _ => n - (intOf i).toNat)
  case atStart => exact ⟨0, ⟨Nat.zero_le _, rfl⟩, Lib.hid rfl, Below.refl _ _⟩
  case round =>
    obtain ⟨k, ⟨hk, rfl⟩, HI, hB⟩ := hrel
    by_cases hlt : k < n
    · have HC := Lib.hid (fun w' h => HE.out k w' hlt h)
      have HS := Lib.hid (eachF_step E n k hlt)
      obtain ⟨ee, hee⟩ : ∃ z, E k = z := ⟨_, rfl⟩
      rw [hee] at HC HS
      clear hee
      have hk1 : (k : Int) < (n : Int) := by omega
      by_cases hz : ee = 0
      · have hnz : (ee != 0) = false := by rw [hz]; rfl
        have HZ := Lib.hid hz
        clear hz
        go_wp2_with (go_at_call 89; (with_reducible refine Calls.mono (HC.out _ hB) ?_); rintro e w1 ⟨rfl, hb1⟩)
        go_roundw
        case rel => exact ⟨k + 1, ⟨by omega, by first | rfl | go_num⟩, Lib.hid (by rw [HI.out, HS.out, if_pos HZ.out]), belowSeq2 hB hb1⟩
        case measure => simp [intOf]; omega
      · have hnz : (ee != 0) = true := by simp [hz]
        have HZ := Lib.hid hz
        clear hz
        go_wp2_with (go_at_call 89; (with_reducible refine Calls.mono (HC.out _ hB) ?_); rintro e w1 ⟨rfl, hb1⟩)
        (with_reducible refine bodyPost_ret (v := .tuple #[.int .i64 (k : Int), .int .i64 ee]) ?_ rfl ?_)
        · simp [results, Try.results88, go_sem]
        · exact ⟨by rw [HI.out, HS.out, if_neg HZ.out], belowSeq2 hB hb1⟩
    · obtain rfl : k = n := by omega
      have hge : ¬ (k : Int) < (k : Int) := by omega
      clear hlt
      go_wp2_with fail
      (with_reducible refine bodyPost_ret (v := .tuple #[.int .i64 0, .int .i64 0]) ?_ rfl ?_)
      · simp [results, Try.results88, go_sem]
      · exact ⟨by rw [HI.out, Nat.sub_self]; rfl, hB⟩
set_option linter.unusedVariables false in
set_option linter.unusedSimpArgs false in
set_option maxRecDepth 100000 in
set_option maxHeartbeats 4000000 in
theorem eachR_any (p1 p2 p3 : Value) (n : Nat) (E : Nat → Int) (w : World) (hn : n ≤ 100000) (hE : ∀ (i : Nat) (w' : World), i < n → Below w.heap.size w w' → Calls Try.prog 93 #[.int .i64 (i : Int), p1, p2, p3] w' fun e w'' => e = .returned (.int .i64 (E i)) ∧ Below w'.heap.size w' w'') :
    Calls Try.prog 88 #[.int .i64 (n : Int), .func (.func 93) #[] #[p1, p2, p3]] w fun e w' => e = .returned (.tuple #[.int .i64 (eachF E n 0).1, .int .i64 (eachF E n 0).2]) ∧ Below w.heap.size w w' := by
  have HE := Lib.hid hE
  clear hE
  go_enter Try.func88, Try.ntmps88
  go_wp2_with fail
  go_loopw [9] (fun i wr => ∃ (k : Nat), (k ≤ n ∧ i = .int .i64 (k : Int)) ∧ Hid (eachF E n 0 = eachF E (n - k) k) ∧ Below w.heap.size w wr)
    (fun i _ => n - (intOf i).toNat)
  case atStart => exact ⟨0, ⟨Nat.zero_le _, rfl⟩, Lib.hid rfl, Below.refl _ _⟩
  case round =>
    obtain ⟨k, ⟨hk, rfl⟩, HI, hB⟩ := hrel
    by_cases hlt : k < n
    · have HC := Lib.hid (fun w' h => HE.out k w' hlt h)
      have HS := Lib.hid (eachF_step E n k hlt)
      obtain ⟨ee, hee⟩ : ∃ z, E k = z := ⟨_, rfl⟩
      rw [hee] at HC HS
      clear hee
      have hk1 : (k : Int) < (n : Int) := by omega
      by_cases hz : ee = 0
      · have hnz : (ee != 0) = false := by rw [hz]; rfl
        have HZ := Lib.hid hz
        clear hz
        go_wp2_with (go_at_call 93; (with_reducible refine Calls.mono (HC.out _ hB) ?_); rintro e w1 ⟨rfl, hb1⟩)
        go_roundw
        case rel => exact ⟨k + 1, ⟨by omega, by first | rfl | go_num⟩, Lib.hid (by rw [HI.out, HS.out, if_pos HZ.out]), belowSeq2 hB hb1⟩
        case measure => simp [intOf]; omega
      · have hnz : (ee != 0) = true := by simp [hz]
        have HZ := Lib.hid hz
        clear hz
        go_wp2_with (go_at_call 93; (with_reducible refine Calls.mono (HC.out _ hB) ?_); rintro e w1 ⟨rfl, hb1⟩)
        (with_reducible refine bodyPost_ret (v := .tuple #[.int .i64 (k : Int), .int .i64 ee]) ?_ rfl ?_)
        · simp [results, Try.results88, go_sem]
        · exact ⟨by rw [HI.out, HS.out, if_neg HZ.out], belowSeq2 hB hb1⟩
    · obtain rfl : k = n := by omega
      have hge : ¬ (k : Int) < (k : Int) := by omega
      clear hlt
      go_wp2_with fail
      (with_reducible refine bodyPost_ret (v := .tuple #[.int .i64 0, .int .i64 0]) ?_ rfl ?_)
      · simp [results, Try.results88, go_sem]
      · exact ⟨by rw [HI.out, Nat.sub_self]; rfl, hB⟩
set_option linter.unusedVariables false in
set_option linter.unusedSimpArgs false in
set_option maxRecDepth 100000 in
set_option maxHeartbeats 4000000 in
theorem eachM_any (p1 p2 p3 : Value) (n : Nat) (E : Nat → Int) (w : World) (hn : n ≤ 100000) (hE : ∀ (i : Nat) (w' : World), i < n → Below w.heap.size w w' → Calls Try.prog 94 #[.int .i64 (i : Int), p1, p2, p3] w' fun e w'' => e = .returned (.int .i64 (E i)) ∧ Below w'.heap.size w' w'') :
    Calls Try.prog 88 #[.int .i64 (n : Int), .func (.func 94) #[] #[p1, p2, p3]] w fun e w' => e = .returned (.tuple #[.int .i64 (eachF E n 0).1, .int .i64 (eachF E n 0).2]) ∧ Below w.heap.size w w' := by
  have HE := Lib.hid hE
  clear hE
  go_enter Try.func88, Try.ntmps88
  go_wp2_with fail
  go_loopw [9] (fun i wr => ∃ (k : Nat), (k ≤ n ∧ i = .int .i64 (k : Int)) ∧ Hid (eachF E n 0 = eachF E (n - k) k) ∧ Below w.heap.size w wr)
    (fun i _ => n - (intOf i).toNat)
  case atStart => exact ⟨0, ⟨Nat.zero_le _, rfl⟩, Lib.hid rfl, Below.refl _ _⟩
  case round =>
    obtain ⟨k, ⟨hk, rfl⟩, HI, hB⟩ := hrel
    by_cases hlt : k < n
    · have HC := Lib.hid (fun w' h => HE.out k w' hlt h)
      have HS := Lib.hid (eachF_step E n k hlt)
      obtain ⟨ee, hee⟩ : ∃ z, E k = z := ⟨_, rfl⟩
      rw [hee] at HC HS
      clear hee
      have hk1 : (k : Int) < (n : Int) := by omega
      by_cases hz : ee = 0
      · have hnz : (ee != 0) = false := by rw [hz]; rfl
        have HZ := Lib.hid hz
        clear hz
        go_wp2_with (go_at_call 94; (with_reducible refine Calls.mono (HC.out _ hB) ?_); rintro e w1 ⟨rfl, hb1⟩)
        go_roundw
        case rel => exact ⟨k + 1, ⟨by omega, by first | rfl | go_num⟩, Lib.hid (by rw [HI.out, HS.out, if_pos HZ.out]), belowSeq2 hB hb1⟩
        case measure => simp [intOf]; omega
      · have hnz : (ee != 0) = true := by simp [hz]
        have HZ := Lib.hid hz
        clear hz
        go_wp2_with (go_at_call 94; (with_reducible refine Calls.mono (HC.out _ hB) ?_); rintro e w1 ⟨rfl, hb1⟩)
        (with_reducible refine bodyPost_ret (v := .tuple #[.int .i64 (k : Int), .int .i64 ee]) ?_ rfl ?_)
        · simp [results, Try.results88, go_sem]
        · exact ⟨by rw [HI.out, HS.out, if_neg HZ.out], belowSeq2 hB hb1⟩
    · obtain rfl : k = n := by omega
      have hge : ¬ (k : Int) < (k : Int) := by omega
      clear hlt
      go_wp2_with fail
      (with_reducible refine bodyPost_ret (v := .tuple #[.int .i64 0, .int .i64 0]) ?_ rfl ?_)
      · simp [results, Try.results88, go_sem]
      · exact ⟨by rw [HI.out, Nat.sub_self]; rfl, hB⟩
end Go.Proofs.Ytpidgcmdimjkoaa
