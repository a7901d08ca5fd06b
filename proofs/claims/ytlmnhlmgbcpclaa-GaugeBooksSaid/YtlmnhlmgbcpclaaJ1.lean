/- Roots: gauge's rootOf and the laws' Root, RootUp. -/
import Derived.Test.YtlmnhlmgbcpclaaJ0
import Derived.OwnWalk
namespace Go.Proofs.Ytlmnhlmgbcpclaa
open Go.RowKit

set_option linter.unusedVariables false in
set_option linter.unusedSimpArgs false in
set_option maxRecDepth 100000 in
set_option maxHeartbeats 2000000 in
theorem rootOf_is (n r : Int) (w : World) (h : isRt r n) (hr : r < 2048) (hn : n ≤ 4000000) : Calls Try.prog 98 #[.int .i64 n] w fun e w' => e = .returned (.int .i64 r) ∧ w = w' := by
  have HR := Lib.hid h
  have h00 := h.1
  clear h
  go_enter Try.func98, Try.ntmps98
  go_wp2_with fail
  go_loopw [4, 3] (fun vb vr wr => ∃ (j : Nat) (R : Int), (j ≤ 11 ∧ vb = .int .i64 (pw j) ∧ vr = .int .i64 R) ∧ Hid (0 ≤ R ∧ R ≤ r ∧ r < R + 2 ^ j) ∧ w = wr)
    (fun vb _ _ => (intOf vb).toNat)
  case atStart => exact ⟨11, 0, ⟨Nat.le_refl _, by rw [show pw 11 = 1024 by decide], rfl⟩, Lib.hid ⟨Int.le_refl _, h00, by rw [show (2 : Int) ^ 11 = 2048 by decide]; omega⟩, rfl⟩
  case round =>
    obtain ⟨j, R, ⟨hj, rfl, rfl⟩, HI, rfl⟩ := hrel
    cases j with
    | zero =>
      have e0 : pw 0 = 0 := rfl
      simp only [e0]
      go_wp2_with fail
      go_ret
      obtain ⟨a, b, c⟩ := HI.out
      exact ⟨ret_int (by rw [show (2 : Int) ^ 0 = 1 from rfl] at c; omega), rfl⟩
    | succ j =>
      have b0 := pw_pos j
      have b1 := two_pow_le (show j ≤ 10 by omega)
      rw [show (2 : Int) ^ 10 = 1024 by decide, ← pw_succ] at b1
      have b2 := pw_half j
      have b3 := pw_succ j
      obtain ⟨B, hB⟩ : ∃ B, pw (j + 1) = B := ⟨_, rfl⟩
      rw [hB] at b0 b1 b2 b3 ⊢
      obtain ⟨r0, r1, r2⟩ := HI.out
      rw [Int.pow_succ, ← b3] at r2
      have HH := Lib.hid b2
      have HB := Lib.hid b3
      have HQ := Lib.hid r2
      clear b2 b3 hB HI
      obtain ⟨s0, s1⟩ := sq_bd (x := R + B) (M := 3072) (by omega) (by omega)
      have u0 : IntKind.i64.wrap (R + B) = R + B := IntWalk.i64_in _ (by omega)
      have u1 : IntKind.i64.wrap ((R + B) * (R + B)) = (R + B) * (R + B) := IntWalk.i64_in _ (by omega)
      have hk := isRt_le HR.out (x := R + B) (by omega)
      by_cases hc : R + B ≤ r
      · have hle : (R + B) * (R + B) ≤ n := hk.2 hc
        clear hk r2
        go_wp2_with fail
        go_roundw
        case rel => exact ⟨j, R + B, ⟨by omega, by rw [HH.out], rfl⟩, Lib.hid ⟨by omega, hc, by rw [← HB.out]; have := HQ.out; omega⟩, trivial⟩
        case measure => simp [intOf]; omega
      · have hle : ¬ (R + B) * (R + B) ≤ n := fun h => hc (hk.1 h)
        clear hk r2
        go_wp2_with fail
        go_roundw
        case rel => exact ⟨j, R, ⟨by omega, by rw [HH.out], rfl⟩, Lib.hid ⟨r0, r1, by rw [← HB.out]; omega⟩, trivial⟩
        case measure => simp [intOf]; omega
set_option linter.unusedVariables false in
set_option linter.unusedSimpArgs false in
set_option maxRecDepth 100000 in
set_option maxHeartbeats 2000000 in
theorem rootOf_any (n : Int) (w : World) (h0 : 0 ≤ n) (hn : n ≤ 4000000) : Calls Try.prog 98 #[.int .i64 n] w fun e w' => e = .returned (.int .i64 (rt n)) ∧ w = w' :=
  rootOf_is n (rt n) w (isRt_rt h0) (by have := rt_bd h0 (M := 2000) (by omega) (by decide); omega) hn
set_option linter.unusedVariables false in
set_option linter.unusedSimpArgs false in
set_option maxRecDepth 100000 in
set_option maxHeartbeats 2000000 in
theorem widthOf_any (R y : Int) (w : World) (hR : 0 ≤ R) (hR1 : R ≤ 800) (h0 : -R ≤ y) (h1 : y ≤ R) : Calls Try.prog 90 #[.int .i64 R, .int .i64 y] w fun e w' => e = .returned (.agg #[.int .i64 (rt (sqW R y)), .int .i64 (rtUp (sqW R y))]) ∧ Below w.heap.size w w' := by
  have hb := sqW_bd hR h0 h1
  have hs := sq_bd hR hR1
  have HW : Hid (sqW R y = 4 * (R * R - y * y)) := Lib.hid rfl
  have HC := Lib.hid (fun w => rootOf_any (sqW R y) w hb.1 (by omega))
  have hrb := rt_bd hb.1 (M := 2000) (by omega) (by decide)
  have HU : Hid (rtUp (sqW R y) = if rt (sqW R y) * rt (sqW R y) = sqW R y then rt (sqW R y) else rt (sqW R y) + 1) := Lib.hid rfl
  obtain ⟨r, hr9⟩ : ∃ r, rt (sqW R y) = r := ⟨_, rfl⟩
  obtain ⟨q, hq9⟩ : ∃ q, rtUp (sqW R y) = q := ⟨_, rfl⟩
  rw [hr9, hq9] at HU
  rw [hr9] at HC hrb
  rw [hr9, hq9]
  rw [HW.out] at hb HC HU
  have hss := sq_bd hrb.1 hrb.2
  have u0 : IntKind.i64.wrap (R * R) = R * R := IntWalk.i64_in _ (by omega)
  have u1 : IntKind.i64.wrap (y * y) = y * y := IntWalk.i64_in _ (by omega)
  have u2 : IntKind.i64.wrap (R * R - y * y) = R * R - y * y := IntWalk.i64_in _ (by omega)
  have u3 : IntKind.i64.wrap (4 * (R * R - y * y)) = 4 * (R * R - y * y) := IntWalk.i64_in _ (by omega)
  have u4 : IntKind.i64.wrap (r * r) = r * r := IntWalk.i64_in _ (by omega)
  have u5 : IntKind.i64.wrap (r + 1) = r + 1 := IntWalk.i64_in _ (by omega)
  clear hr9 hq9 hs hss hb HW
  by_cases hc : r * r = 4 * (R * R - y * y)
  · have hc1 : (r * r == 4 * (R * R - y * y)) = true := by simpa using hc
    have hq : q = r := by rw [HU.out, if_pos hc]
    subst hq
    clear hc HU
    go_enter Try.func90, Try.ntmps90
    go_wp2_with (go_at_call 98; (with_reducible refine Calls.mono (HC.out _) ?_); rintro e w1 ⟨rfl, rfl⟩)
    go_returns
    exact ⟨rfl, by go_grown⟩
  · have hc1 : (r * r == 4 * (R * R - y * y)) = false := by simpa using hc
    have hq : q = r + 1 := by rw [HU.out, if_neg hc]
    subst hq
    clear hc HU
    go_enter Try.func90, Try.ntmps90
    go_wp2_with (go_at_call 98; (with_reducible refine Calls.mono (HC.out _) ?_); rintro e w1 ⟨rfl, rfl⟩)
    go_returns
    exact ⟨rfl, by go_grown⟩
end Go.Proofs.Ytlmnhlmgbcpclaa
