/- Names: texts.IsName, the laws' IsName, checks.Name. -/
import Derived.Test.YtlmnhlmgbcpclaaJ1
namespace Go.Proofs.Ytlmnhlmgbcpclaa
open Go.RowKit

def letB (c : Int) : Bool := (decide (97 ≤ c) && decide (c ≤ 122)) || (decide (65 ≤ c) && decide (c ≤ 90))
def digB (c : Int) : Bool := decide (48 ≤ c) && decide (c ≤ 57)
set_option linter.unusedVariables false in
set_option linter.unusedSimpArgs false in
set_option maxRecDepth 100000 in
set_option maxHeartbeats 4000000 in
theorem isLetter_any (c : Int) (w : World) : Calls Try.prog 93 #[.int .u8 c] w fun e w' => e = .returned (.bool (letB c)) ∧ w = w' := by
  have hl : letB c = ((decide (97 ≤ c) && decide (c ≤ 122)) || (decide (65 ≤ c) && decide (c ≤ 90))) := rfl
  by_cases h1 : 97 ≤ c
  · by_cases h2 : c ≤ 122
    · have e : letB c = true := by rw [hl]; simp [h1, h2]
      rw [e]
      clear e hl
      go_enter Try.func93, Try.ntmps93
      go_wp2_with fail
      go_ret
      exact ⟨rfl, rfl⟩
    · have e : letB c = false := by rw [hl]; simp; omega
      have h4 : 65 ≤ c := by omega
      have h5 : ¬ c ≤ 90 := by omega
      rw [e]
      clear e hl
      go_enter Try.func93, Try.ntmps93
      go_wp2_with fail
      go_ret
      exact ⟨rfl, rfl⟩
  · by_cases h3 : 65 ≤ c
    · by_cases h4 : c ≤ 90
      · have e : letB c = true := by rw [hl]; simp [h3, h4]
        rw [e]
        clear e hl
        go_enter Try.func93, Try.ntmps93
        go_wp2_with fail
        go_ret
        exact ⟨rfl, rfl⟩
      · have e : letB c = false := by rw [hl]; simp; omega
        rw [e]
        clear e hl
        go_enter Try.func93, Try.ntmps93
        go_wp2_with fail
        go_ret
        exact ⟨rfl, rfl⟩
    · have e : letB c = false := by rw [hl]; simp; omega
      rw [e]
      clear e hl
      go_enter Try.func93, Try.ntmps93
      go_wp2_with fail
      go_ret
      exact ⟨rfl, rfl⟩
set_option linter.unusedVariables false in
set_option linter.unusedSimpArgs false in
set_option maxRecDepth 100000 in
set_option maxHeartbeats 4000000 in
theorem isDigit_any (c : Int) (w : World) : Calls Try.prog 94 #[.int .u8 c] w fun e w' => e = .returned (.bool (digB c)) ∧ w = w' := by
  have hl : digB c = (decide (48 ≤ c) && decide (c ≤ 57)) := rfl
  by_cases h1 : 48 ≤ c
  · by_cases h2 : c ≤ 57
    · have e : digB c = true := by rw [hl]; simp [h1, h2]
      rw [e]
      clear e hl
      go_enter Try.func94, Try.ntmps94
      go_wp2_with fail
      go_ret
      exact ⟨rfl, rfl⟩
    · have e : digB c = false := by rw [hl]; simp; omega
      rw [e]
      clear e hl
      go_enter Try.func94, Try.ntmps94
      go_wp2_with fail
      go_ret
      exact ⟨rfl, rfl⟩
  · have e : digB c = false := by rw [hl]; simp; omega
    rw [e]
    clear e hl
    go_enter Try.func94, Try.ntmps94
    go_wp2_with fail
    go_ret
    exact ⟨rfl, rfl⟩
/-- the byte at a place -/
def bts (s : ByteArray) (i : Nat) : Int := if h : i < s.size then (s[i].toNat : Int) else 0
theorem bts_at {s : ByteArray} {i : Nat} (h : i < s.size) : bts s i = (s[i].toNat : Int) := dif_pos h
def chB (c : Int) : Bool := letB c || (digB c || decide (c = 45))
def isNm (s : ByteArray) : Prop := 1 ≤ s.size ∧ s.size ≤ 12 ∧ letB (bts s 0) = true ∧ ∀ i, 1 ≤ i → i < s.size → chB (bts s i) = true
def nameB (s : ByteArray) : Bool := decide (1 ≤ s.size) && (decide (s.size ≤ 12) && (letB (bts s 0) && (List.range s.size).all fun i => decide (i = 0) || chB (bts s i)))
theorem nameB_iff {s : ByteArray} : nameB s = true ↔ isNm s := by
  unfold nameB isNm
  simp only [Bool.and_eq_true, decide_eq_true_eq, List.all_eq_true, List.mem_range, Bool.or_eq_true]
  constructor
  · rintro ⟨h1, h2, h3, h4⟩
    exact ⟨h1, h2, h3, fun i hi hs => (h4 i hs).resolve_left (by omega)⟩
  · rintro ⟨h1, h2, h3, h4⟩
    exact ⟨h1, h2, h3, fun i hs => by by_cases e : i = 0; exact .inl e; exact .inr (h4 i (by omega) hs)⟩
theorem nameB_no {s : ByteArray} (h : ¬ isNm s) : nameB s = false := by
  cases e : nameB s
  · rfl
  · exact absurd (nameB_iff.1 e) h
set_option linter.unusedVariables false in
set_option linter.unusedSimpArgs false in
set_option maxRecDepth 100000 in
set_option maxHeartbeats 4000000 in
theorem isName_any (s : ByteArray) (w : World) : Calls Try.prog 78 #[.string s] w fun e w' => e = .returned (.bool (nameB s)) ∧ w = w' := by
  by_cases h1 : s.size < 1
  · have e : nameB s = false := nameB_no fun h => by have := h.1; omega
    rw [e]
    have n1 : (s.size : Int) < 1 := by omega
    clear e h1
    go_enter Try.func78, Try.ntmps78
    go_wp2_with (first | (go_at_call 93; refine (isLetter_any _ _).mono ?_; rintro e w1 ⟨rfl, rfl⟩) | (go_at_call 94; refine (isDigit_any _ _).mono ?_; rintro e w1 ⟨rfl, rfl⟩))
    go_ret
    exact ⟨rfl, rfl⟩
  by_cases h2 : 12 < s.size
  · have e : nameB s = false := nameB_no fun h => by have := h.2.1; omega
    rw [e]
    have n1 : ¬ ((s.size : Int) < 1) := by omega
    have n2 : (12 : Int) < (s.size : Int) := by omega
    clear e h1 h2
    go_enter Try.func78, Try.ntmps78
    go_wp2_with (first | (go_at_call 93; refine (isLetter_any _ _).mono ?_; rintro e w1 ⟨rfl, rfl⟩) | (go_at_call 94; refine (isDigit_any _ _).mono ?_; rintro e w1 ⟨rfl, rfl⟩))
    go_ret
    exact ⟨rfl, rfl⟩
  have h0 : 0 < s.size := by omega
  have HS := Lib.hid (show 1 ≤ s.size ∧ s.size ≤ 12 by omega)
  have n1 : ¬ ((s.size : Int) < 1) := by omega
  have n2 : ¬ ((12 : Int) < (s.size : Int)) := by omega
  clear h1 h2
  cases hL : letB (s[0].toNat : Int)
  · have e : nameB s = false := nameB_no fun h => by have := h.2.2.1; rw [bts_at h0, hL] at this; cases this
    rw [e]
    clear e
    go_enter Try.func78, Try.ntmps78
    go_wp2_with (first | (go_at_call 93; refine (isLetter_any _ _).mono ?_; rintro e w1 ⟨rfl, rfl⟩) | (go_at_call 94; refine (isDigit_any _ _).mono ?_; rintro e w1 ⟨rfl, rfl⟩))
    go_ret
    exact ⟨rfl, rfl⟩
  have HL := Lib.hid hL
  go_enter Try.func78, Try.ntmps78
  go_wp2_with (first | (go_at_call 93; refine (isLetter_any _ _).mono ?_; rintro e w1 ⟨rfl, rfl⟩) | (go_at_call 94; refine (isDigit_any _ _).mono ?_; rintro e w1 ⟨rfl, rfl⟩))
  go_loopw [3] (fun i wr => ∃ (k : Nat), (1 ≤ k ∧ k ≤ s.size ∧ i = .int .i64 (k : Int)) ∧ Hid (∀ j, 1 ≤ j → j < k → chB (bts s j) = true) ∧ w = wr)
    (fun i _ => s.size - (intOf i).toNat)
  case atStart => exact ⟨1, ⟨Nat.le_refl _, HS.out.1, rfl⟩, Lib.hid (fun j h h' => by omega), rfl⟩
  case round =>
    obtain ⟨k, ⟨hk1, hk2, rfl⟩, HC, rfl⟩ := hrel
    by_cases hlt : k < s.size
    · have hi0 : (0 : Int) ≤ (k : Int) := by omega
      have hi1 : (k : Int) < (s.size : Int) := by omega
      have HB := Lib.hid (bts_at hlt)
      cases hc1 : letB (s[k].toNat : Int)
      · cases hc2 : digB (s[k].toNat : Int)
        · cases hc3 : decide ((s[k].toNat : Int) = 45)
          · have hc4 : ((s[k].toNat : Int) != 45) = true := by simpa using hc3
            have e : nameB s = false := nameB_no fun h => by have := h.2.2.2 k hk1 hlt; rw [HB.out, chB, hc1, hc2, hc3] at this; cases this
            have HE := Lib.hid e
            clear e hc3
            go_wp2_with (first | (go_at_call 93; refine (isLetter_any _ _).mono ?_; rintro e w1 ⟨rfl, rfl⟩) | (go_at_call 94; refine (isDigit_any _ _).mono ?_; rintro e w1 ⟨rfl, rfl⟩))
            go_ret
            exact ⟨by rw [HE.out]; rfl, rfl⟩
          · have hc4 : ((s[k].toNat : Int) != 45) = false := by simpa using hc3
            have HN : Hid (chB (bts s k) = true) := Lib.hid (by rw [HB.out, chB, hc1, hc2, hc3]; rfl)
            clear hc3
            go_wp2_with (first | (go_at_call 93; refine (isLetter_any _ _).mono ?_; rintro e w1 ⟨rfl, rfl⟩) | (go_at_call 94; refine (isDigit_any _ _).mono ?_; rintro e w1 ⟨rfl, rfl⟩))
            go_roundw
            case rel => exact ⟨k + 1, ⟨by omega, by omega, by first | rfl | go_num⟩, Lib.hid (fun j h h' => by by_cases e : j = k; (rw [e]; exact HN.out); exact HC.out j h (by omega)), trivial⟩
            case measure => simp [intOf]; omega
        · have HN : Hid (chB (bts s k) = true) := Lib.hid (by rw [HB.out, chB, hc1, hc2]; rfl)
          go_wp2_with (first | (go_at_call 93; refine (isLetter_any _ _).mono ?_; rintro e w1 ⟨rfl, rfl⟩) | (go_at_call 94; refine (isDigit_any _ _).mono ?_; rintro e w1 ⟨rfl, rfl⟩))
          go_roundw
          case rel => exact ⟨k + 1, ⟨by omega, by omega, by first | rfl | go_num⟩, Lib.hid (fun j h h' => by by_cases e : j = k; (rw [e]; exact HN.out); exact HC.out j h (by omega)), trivial⟩
          case measure => simp [intOf]; omega
      · have HN : Hid (chB (bts s k) = true) := Lib.hid (by rw [HB.out, chB, hc1]; rfl)
        go_wp2_with (first | (go_at_call 93; refine (isLetter_any _ _).mono ?_; rintro e w1 ⟨rfl, rfl⟩) | (go_at_call 94; refine (isDigit_any _ _).mono ?_; rintro e w1 ⟨rfl, rfl⟩))
        go_roundw
        case rel => exact ⟨k + 1, ⟨by omega, by omega, by first | rfl | go_num⟩, Lib.hid (fun j h h' => by by_cases e : j = k; (rw [e]; exact HN.out); exact HC.out j h (by omega)), trivial⟩
        case measure => simp [intOf]; omega
    · have e : nameB s = true := nameB_iff.2 ⟨HS.out.1, HS.out.2, by rw [bts_at h0]; exact HL.out, fun i h h' => HC.out i h (by omega)⟩
      have HE := Lib.hid e
      have hge : ¬ ((k : Int) < (s.size : Int)) := by omega
      clear e
      go_wp2_with fail
      go_ret
      exact ⟨by rw [HE.out]; rfl, rfl⟩
set_option linter.unusedVariables false in
set_option linter.unusedSimpArgs false in
set_option maxRecDepth 100000 in
set_option maxHeartbeats 4000000 in
theorem chkName_any (s : ByteArray) (w : World) : Calls Try.prog 46 #[.string s] w fun e w' => e = .returned (.int .i64 (unlE (nameB s) 4)) ∧ w = w' := by
  go_enter Try.func46, Try.ntmps46
  go_wp2_with (first | (go_at_call 78; refine (isName_any _ _).mono ?_; rintro e w1 ⟨rfl, rfl⟩) | (go_at_call 38; refine (unless_any _ _ _).mono ?_; rintro e w1 ⟨rfl, rfl⟩))
  go_ret
  exact ⟨rfl, rfl⟩
end Go.Proofs.Ytlmnhlmgbcpclaa
