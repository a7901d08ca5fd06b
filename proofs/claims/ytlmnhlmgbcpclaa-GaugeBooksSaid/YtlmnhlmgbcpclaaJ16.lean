/- What the reference says of a gauging and of a move. -/
import Derived.Test.YtlmnhlmgbcpclaaJ13
import Derived.Test.YtlmnhlmgbcpclaaRD
import Derived.Test.YtlmnhlmgbcpclaaR1
namespace Go.Proofs.Ytlmnhlmgbcpclaa
open Go.RowKit

theorem firstL3 (a b c : Int) : firstL [a, b, c] = if a = 0 then (if b = 0 then c else b) else a := by
  simp only [firstL]
  by_cases h1 : a = 0 <;> by_cases h2 : b = 0 <;> by_cases h3 : c = 0 <;> simp [h1, h2, h3]
theorem firstL5 (a b c d e : Int) : firstL [a, b, c, d, e] = if a = 0 then (if b = 0 then (if c = 0 then (if d = 0 then e else d) else c) else b) else a := by
  simp only [firstL]
  by_cases h1 : a = 0 <;> by_cases h2 : b = 0 <;> by_cases h3 : c = 0 <;> by_cases h4 : d = 0 <;> by_cases h5 : e = 0 <;> simp [h1, h2, h3, h4, h5]
set_option linter.unusedVariables false in
set_option linter.unusedSimpArgs false in
set_option maxRecDepth 100000 in
set_option maxHeartbeats 4000000 in
theorem rdayE_any (d : Int) (w : World) : Calls Try.prog 18 #[.int .i64 d] w fun e w' => e = .returned (.int .i64 (numE d 0 100000)) ∧ w = w' := by
  cases h1 : inB d 0 100000
  all_goals
    go_enter Try.func18, Try.ntmps18
    go_wp2_with (go_at_call 19; refine (within_any _ _ _ _).mono ?_; rintro e w' ⟨rfl, rfl⟩)
    go_ret
    exact ⟨by simp [numE, h1], rfl⟩
set_option linter.unusedVariables false in
set_option linter.unusedSimpArgs false in
set_option maxRecDepth 100000 in
set_option maxHeartbeats 4000000 in
theorem rrngE_any (lo hi most : Int) (w : World) : Calls Try.prog 49 #[.agg #[.int .i64 lo, .int .i64 hi], .int .i64 most] w fun e w' => e = .returned (.int .i64 (rangeE lo hi most)) ∧ Below w.heap.size w w' := by
  cases h1 : inB lo 0 most
  · skip
    go_enter Try.func49, Try.ntmps49
    go_wp2_with (go_at_call 19; refine (within_any _ _ _ _).mono ?_; rintro e w' ⟨rfl, rfl⟩)
    go_ret
    exact ⟨by simp [rangeE, h1], by go_grown⟩
  · cases h2 : inB hi 0 most
    · skip
      go_enter Try.func49, Try.ntmps49
      go_wp2_with (go_at_call 19; refine (within_any _ _ _ _).mono ?_; rintro e w' ⟨rfl, rfl⟩)
      go_ret
      exact ⟨by simp [rangeE, h1, h2], by go_grown⟩
    · by_cases h3 : hi < lo
      all_goals
        go_enter Try.func49, Try.ntmps49
        go_wp2_with (go_at_call 19; refine (within_any _ _ _ _).mono ?_; rintro e w' ⟨rfl, rfl⟩)
        go_ret
        exact ⟨by simp [rangeE, h1, h2, h3], by go_grown⟩
set_option linter.unusedVariables false in
set_option linter.unusedSimpArgs false in
set_option maxRecDepth 100000 in
set_option maxHeartbeats 4000000 in
theorem rrdE_any (s : ByteArray) (d lo hi : Int) (w : World) : Calls Try.prog 50 #[.agg #[.string s, .int .i64 d, .int .i64 lo, .int .i64 hi]] w fun e w' => e = .returned (.int .i64 (rdE ⟨s, d, lo, hi⟩)) ∧ Below w.heap.size w w' := by
  have hE : rdE ⟨s, d, lo, hi⟩ = if unlE (nameB s) 4 = 0 then (if numE d 0 100000 = 0 then rangeE lo hi 100000 else numE d 0 100000) else unlE (nameB s) 4 := firstL3 _ _ _
  rw [hE]
  clear hE
  have HR := Lib.hid (fun w => rrngE_any lo hi 100000 w)
  have HD := Lib.hid (fun w => rdayE_any d w)
  obtain ⟨rr, hrr⟩ : ∃ z, rangeE lo hi 100000 = z := ⟨_, rfl⟩
  obtain ⟨dd, hdd⟩ : ∃ z, numE d 0 100000 = z := ⟨_, rfl⟩
  rw [hrr] at HR ⊢
  rw [hdd] at HD ⊢
  clear hrr hdd
  have HN := Lib.hid (fun w => isNameR_any s w)
  cases hn : nameB s
  · rw [hn] at HN
    clear hn
    go_enter Try.func50, Try.ntmps50
    go_wp2_with (first | (go_at_call 21; (with_reducible refine Calls.mono (HN.out _) ?_); rintro e w1 ⟨rfl, rfl⟩) | (go_at_call 18; (with_reducible refine Calls.mono (HD.out _) ?_); rintro e w2 ⟨rfl, rfl⟩) | (go_at_call 49; (with_reducible refine Calls.mono (HR.out _) ?_); rintro e w3 ⟨rfl, hb3⟩))
    go_ret
    exact ⟨rfl, by go_grown⟩
  · rw [hn] at HN
    clear hn
    by_cases hz : dd = 0
    · have hnz : (dd != 0) = false := by rw [hz]; rfl
      have HZ := Lib.hid hz
      clear hz
      go_enter Try.func50, Try.ntmps50
      go_wp2_with (first | (go_at_call 21; (with_reducible refine Calls.mono (HN.out _) ?_); rintro e w1 ⟨rfl, rfl⟩) | (go_at_call 18; (with_reducible refine Calls.mono (HD.out _) ?_); rintro e w2 ⟨rfl, rfl⟩) | (go_at_call 49; (with_reducible refine Calls.mono (HR.out _) ?_); rintro e w3 ⟨rfl, hb3⟩))
      go_ret
      exact ⟨by first | rfl | (simp [HZ.out, unlE]; done), belowSeq2 ((Below.refl _ w).alloc (Nat.le_refl _) _) hb3⟩
    · have hnz : (dd != 0) = true := by simp [hz]
      have HZ := Lib.hid hz
      clear hz
      go_enter Try.func50, Try.ntmps50
      go_wp2_with (first | (go_at_call 21; (with_reducible refine Calls.mono (HN.out _) ?_); rintro e w1 ⟨rfl, rfl⟩) | (go_at_call 18; (with_reducible refine Calls.mono (HD.out _) ?_); rintro e w2 ⟨rfl, rfl⟩) | (go_at_call 49; (with_reducible refine Calls.mono (HR.out _) ?_); rintro e w3 ⟨rfl, hb3⟩))
      go_ret
      exact ⟨by first | rfl | (simp [HZ.out, unlE]; done), by go_grown⟩
set_option linter.unusedVariables false in
set_option linter.unusedSimpArgs false in
set_option maxRecDepth 100000 in
set_option maxHeartbeats 4000000 in
theorem rmvE_any (a b : ByteArray) (d v : Int) (w : World) : Calls Try.prog 51 #[.agg #[.int .i64 d, .string a, .string b, .int .i64 v]] w fun e w' => e = .returned (.int .i64 (mvE ⟨a, b, d, v⟩)) ∧ Below w.heap.size w w' := by
  have hE : mvE ⟨a, b, d, v⟩ = if numE d 0 100000 = 0 then (if plE a = 0 then (if plE b = 0 then (if unlE (!a.toList == b.toList) 3 = 0 then numE v 0 100000 else unlE (!a.toList == b.toList) 3) else plE b) else plE a) else numE d 0 100000 := firstL5 _ _ _ _ _
  rw [hE]
  clear hE
  have HD := Lib.hid (fun w => rdayE_any d w)
  have HA := Lib.hid (fun w => isNameR_any a w)
  have HB := Lib.hid (fun w => isNameR_any b w)
  have HV := Lib.hid (fun w => within_any v 0 100000 w)
  obtain ⟨dd, hdd⟩ : ∃ z, numE d 0 100000 = z := ⟨_, rfl⟩
  rw [hdd] at HD ⊢
  clear hdd
  by_cases hz : dd = 0
  · subst hz
    unfold plE
    cases ea : a.toList.isEmpty <;> cases na : nameB a <;> cases eb : b.toList.isEmpty <;> cases nb : nameB b <;> cases hab : (a.toList == b.toList) <;> cases hv : inB v 0 100000
    all_goals
      rw [na] at HA
      rw [nb] at HB
      rw [hv] at HV
      clear na nb
      go_enter Try.func51, Try.ntmps51
      go_wp2_with (first | (go_at_call 18; (with_reducible refine Calls.mono (HD.out _) ?_); rintro e w2 ⟨rfl, rfl⟩) | (go_at_call 21; (first | (with_reducible refine Calls.mono (HA.out _) ?_) | (with_reducible refine Calls.mono (HB.out _) ?_)); rintro e w1 ⟨rfl, rfl⟩) | (go_at_call 19; (with_reducible refine Calls.mono (HV.out _) ?_); rintro e w3 ⟨rfl, rfl⟩))
      go_ret
      exact ⟨by first | rfl | (simp [unlE, numE, hv]; done), by go_grown⟩
  · have hnz : (dd != 0) = true := by simp [hz]
    have HZ := Lib.hid hz
    clear hz
    go_enter Try.func51, Try.ntmps51
    go_wp2_with (first | (go_at_call 18; (with_reducible refine Calls.mono (HD.out _) ?_); rintro e w2 ⟨rfl, rfl⟩) | (go_at_call 21; (first | (with_reducible refine Calls.mono (HA.out _) ?_) | (with_reducible refine Calls.mono (HB.out _) ?_)); rintro e w1 ⟨rfl, rfl⟩) | (go_at_call 19; (with_reducible refine Calls.mono (HV.out _) ?_); rintro e w3 ⟨rfl, rfl⟩))
    go_ret
    exact ⟨by first | rfl | (simp [HZ.out]; done), by go_grown⟩
end Go.Proofs.Ytlmnhlmgbcpclaa
