/- The checker's IsName of any text. -/
import Derived.Test.YtlmnhlmgbcpclaaJ6
set_option linter.unusedVariables false
set_option linter.unusedSimpArgs false
namespace Go.Proofs.Ytlmnhlmgbcpclaa
open Go.RowKit
def okC (j : Nat) (c : Int) : Bool := letB c || (!decide (j = 0) && (decide (c = 45) || digB c))
theorem nameB_all {s : ByteArray} : nameB s = true ↔ 1 ≤ s.size ∧ s.size ≤ 12 ∧ ∀ j, j < s.size → okC j (bts s j) = true := by
  rw [nameB_iff]
  unfold isNm
  constructor
  · rintro ⟨h1, h2, h3, h4⟩
    refine ⟨h1, h2, fun j hj => ?_⟩
    by_cases e : j = 0
    · subst e; simp [okC, h3]
    · have := h4 j (by omega) hj
      unfold chB at this; unfold okC
      cases ha : letB (bts s j) <;> cases hb : digB (bts s j) <;> simp_all
  · rintro ⟨h1, h2, h4⟩
    refine ⟨h1, h2, ?_, fun j h hj => ?_⟩
    · have := h4 0 (by omega)
      simpa [okC] using this
    · have := h4 j hj
      unfold okC at this; unfold chB
      cases ha : letB (bts s j) <;> cases hb : digB (bts s j) <;> simp_all
theorem nameB_bad {s : ByteArray} (k : Nat) (hk : k < s.size) (h : okC k (bts s k) = false) : nameB s = false := by
  cases e : nameB s
  · rfl
  · have := (nameB_all.1 e).2.2 k hk
    rw [h] at this; cases this
theorem okC_yes {j : Nat} {c : Int} (h : (97 ≤ c ∧ c ≤ 122) ∨ (65 ≤ c ∧ c ≤ 90) ∨ (j ≠ 0 ∧ (c = 45 ∨ (48 ≤ c ∧ c ≤ 57)))) : okC j c = true := by
  rcases h with h | h | ⟨h0, h | h⟩ <;> simp [okC, letB, digB, h, *]
theorem okC_no {j : Nat} {c : Int} (h1 : ¬ (97 ≤ c ∧ c ≤ 122)) (h2 : ¬ (65 ≤ c ∧ c ≤ 90)) (h : j = 0 ∨ (c ≠ 45 ∧ ¬ (48 ≤ c ∧ c ≤ 57))) : okC j c = false := by
  have hl : letB c = false := by
    cases e : letB c
    · rfl
    · exfalso; simp [letB] at e; omega
  rcases h with h | ⟨h3, h4⟩
  · simp [okC, hl, h]
  · have hd : digB c = false := by
      cases e : digB c
      · rfl
      · exfalso; simp [digB] at e; omega
    simp [okC, hl, hd, h3]
set_option maxRecDepth 100000 in
set_option maxHeartbeats 8000000 in
theorem isNameR_any (s : ByteArray) (w : World) : Calls Try.prog 21 #[.string s] w fun e w' => e = .returned (.bool (nameB s)) ∧ w = w' := by
  by_cases h1 : s.size < 1
  · have e : nameB s = false := nameB_no fun h => by have := h.1; omega
    rw [e]
    have n1 : (s.size : Int) < 1 := by omega
    clear e h1
    go_enter Try.func21, Try.ntmps21
    go_wp2_with fail
    go_ret
    exact ⟨rfl, rfl⟩
  by_cases h2 : 12 < s.size
  · have e : nameB s = false := nameB_no fun h => by have := h.2.1; omega
    rw [e]
    have n1 : ¬ ((s.size : Int) < 1) := by omega
    have n2 : (12 : Int) < (s.size : Int) := by omega
    clear e h1 h2
    go_enter Try.func21, Try.ntmps21
    go_wp2_with fail
    go_ret
    exact ⟨rfl, rfl⟩
  have HS := Lib.hid (show 1 ≤ s.size ∧ s.size ≤ 12 by omega)
  have n1 : ¬ ((s.size : Int) < 1) := by omega
  have n2 : ¬ ((12 : Int) < (s.size : Int)) := by omega
  clear h1 h2
  go_enter Try.func21, Try.ntmps21
  go_wp2_with fail
  go_loopw [3] (fun i wr => ∃ (k : Nat), (k ≤ s.size ∧ i = .int .i64 (k : Int)) ∧ Hid (∀ j, j < k → okC j (bts s j) = true) ∧ w = wr)
    (fun i _ => s.size - (intOf i).toNat)
  case atStart => exact ⟨0, ⟨Nat.zero_le _, rfl⟩, Lib.hid (fun j h => by omega), rfl⟩
  case round =>
    obtain ⟨k, ⟨hk2, rfl⟩, HC, rfl⟩ := hrel
    by_cases hlt : k < s.size
    · have hi0 : (0 : Int) ≤ (k : Int) := by omega
      have hi1 : (k : Int) < (s.size : Int) := by omega
      have HB := Lib.hid (bts_at hlt)
      by_cases h97 : 97 ≤ (s[k].toNat : Int)
      · by_cases h122 : (s[k].toNat : Int) ≤ 122
        · have HN : Hid (okC k (bts s k) = true) := Lib.hid (by rw [HB.out]; exact okC_yes (.inl ⟨h97, h122⟩))
          go_wp2_with fail
          go_roundw
          case rel => exact ⟨k + 1, ⟨by omega, by first | rfl | go_num⟩, Lib.hid (fun j h => by by_cases e : j = k; (rw [e]; exact HN.out); exact HC.out j (by omega)), trivial⟩
          case measure => simp [intOf]; omega
        · have h65 : 65 ≤ (s[k].toNat : Int) := by omega
          have h90 : ¬ (s[k].toNat : Int) ≤ 90 := by omega
          by_cases hz : k = 0
          · have hz1 : (k : Int) = 0 := by omega
            have HE := Lib.hid (nameB_bad k hlt (by rw [HB.out]; exact okC_no (by omega) (by omega) (.inl hz)))
            go_wp2_with fail
            all_goals first | (go_ret; exact ⟨by rw [HE.out]; rfl, rfl⟩) | (exfalso; (try subst hz); (try simp only [Bool.not_eq_eq_eq_not, Bool.not_false, Bool.not_true, decide_eq_true_eq] at *); omega)
          · have hz1 : ¬ (k : Int) = 0 := by omega
            have hc4 : ((s[k].toNat : Int) != 45) = true := by simp; omega
            have h48 : ¬ (s[k].toNat : Int) < 48 := by omega
            have h57 : 57 < (s[k].toNat : Int) := by omega
            have HE := Lib.hid (nameB_bad k hlt (by rw [HB.out]; exact okC_no (by omega) (by omega) (.inr ⟨by omega, by omega⟩)))
            go_wp2_with fail
            all_goals first | (go_ret; exact ⟨by rw [HE.out]; rfl, rfl⟩) | (exfalso; (try subst hz); (try simp only [Bool.not_eq_eq_eq_not, Bool.not_false, Bool.not_true, decide_eq_true_eq] at *); omega)
      · by_cases h65 : 65 ≤ (s[k].toNat : Int)
        · by_cases h90 : (s[k].toNat : Int) ≤ 90
          · have HN : Hid (okC k (bts s k) = true) := Lib.hid (by rw [HB.out]; exact okC_yes (.inr (.inl ⟨h65, h90⟩)))
            go_wp2_with fail
            go_roundw
            case rel => exact ⟨k + 1, ⟨by omega, by first | rfl | go_num⟩, Lib.hid (fun j h => by by_cases e : j = k; (rw [e]; exact HN.out); exact HC.out j (by omega)), trivial⟩
            case measure => simp [intOf]; omega
          · by_cases hz : k = 0
            · have hz1 : (k : Int) = 0 := by omega
              have HE := Lib.hid (nameB_bad k hlt (by rw [HB.out]; exact okC_no (by omega) (by omega) (.inl hz)))
              go_wp2_with fail
              all_goals first | (go_ret; exact ⟨by rw [HE.out]; rfl, rfl⟩) | (exfalso; (try subst hz); (try simp only [Bool.not_eq_eq_eq_not, Bool.not_false, Bool.not_true, decide_eq_true_eq] at *); omega)
            · have hz1 : ¬ (k : Int) = 0 := by omega
              have hc4 : ((s[k].toNat : Int) != 45) = true := by simp; omega
              have h48 : ¬ (s[k].toNat : Int) < 48 := by omega
              have h57 : 57 < (s[k].toNat : Int) := by omega
              have HE := Lib.hid (nameB_bad k hlt (by rw [HB.out]; exact okC_no (by omega) (by omega) (.inr ⟨by omega, by omega⟩)))
              go_wp2_with fail
              all_goals first | (go_ret; exact ⟨by rw [HE.out]; rfl, rfl⟩) | (exfalso; (try subst hz); (try simp only [Bool.not_eq_eq_eq_not, Bool.not_false, Bool.not_true, decide_eq_true_eq] at *); omega)
        · by_cases hz : k = 0
          · have hz1 : (k : Int) = 0 := by omega
            have HE := Lib.hid (nameB_bad k hlt (by rw [HB.out]; exact okC_no (by omega) (by omega) (.inl hz)))
            go_wp2_with fail
            all_goals first | (go_ret; exact ⟨by rw [HE.out]; rfl, rfl⟩) | (exfalso; (try subst hz); (try simp only [Bool.not_eq_eq_eq_not, Bool.not_false, Bool.not_true, decide_eq_true_eq] at *); omega)
          · have hz1 : ¬ (k : Int) = 0 := by omega
            by_cases h45 : (s[k].toNat : Int) = 45
            · have hc4 : ((s[k].toNat : Int) != 45) = false := by simp [h45]
              have HN : Hid (okC k (bts s k) = true) := Lib.hid (by rw [HB.out]; exact okC_yes (.inr (.inr ⟨hz, .inl h45⟩)))
              go_wp2_with fail
              go_roundw
              case rel => exact ⟨k + 1, ⟨by omega, by first | rfl | go_num⟩, Lib.hid (fun j h => by by_cases e : j = k; (rw [e]; exact HN.out); exact HC.out j (by omega)), trivial⟩
              case measure => simp [intOf]; omega
            · have hc4 : ((s[k].toNat : Int) != 45) = true := by simp [h45]
              by_cases h48 : (s[k].toNat : Int) < 48
              · have HE := Lib.hid (nameB_bad k hlt (by rw [HB.out]; exact okC_no (by omega) (by omega) (.inr ⟨h45, by omega⟩)))
                go_wp2_with fail
                all_goals first | (go_ret; exact ⟨by rw [HE.out]; rfl, rfl⟩) | (exfalso; (try subst hz); (try simp only [Bool.not_eq_eq_eq_not, Bool.not_false, Bool.not_true, decide_eq_true_eq] at *); omega)
              · by_cases h57 : 57 < (s[k].toNat : Int)
                · have HE := Lib.hid (nameB_bad k hlt (by rw [HB.out]; exact okC_no (by omega) (by omega) (.inr ⟨h45, by omega⟩)))
                  go_wp2_with fail
                  all_goals first | (go_ret; exact ⟨by rw [HE.out]; rfl, rfl⟩) | (exfalso; (try subst hz); (try simp only [Bool.not_eq_eq_eq_not, Bool.not_false, Bool.not_true, decide_eq_true_eq] at *); omega)
                · have HN : Hid (okC k (bts s k) = true) := Lib.hid (by rw [HB.out]; exact okC_yes (.inr (.inr ⟨hz, .inr ⟨by omega, by omega⟩⟩)))
                  go_wp2_with fail
                  go_roundw
                  case rel => exact ⟨k + 1, ⟨by omega, by first | rfl | go_num⟩, Lib.hid (fun j h => by by_cases e : j = k; (rw [e]; exact HN.out); exact HC.out j (by omega)), trivial⟩
                  case measure => simp [intOf]; omega
    · have e : nameB s = true := nameB_all.2 ⟨HS.out.1, HS.out.2, fun i h' => HC.out i (by omega)⟩
      have HE := Lib.hid e
      have hge : ¬ ((k : Int) < (s.size : Int)) := by omega
      clear e
      go_wp2_with fail
      go_ret
      exact ⟨by rw [HE.out]; rfl, rfl⟩
end Go.Proofs.Ytlmnhlmgbcpclaa
