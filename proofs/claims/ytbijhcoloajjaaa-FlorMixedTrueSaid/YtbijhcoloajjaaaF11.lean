/- flor's own common, isNothing, isWithin, answer. -/
import Derived.Test.YtbijhcoloajjaaaF3
import Derived.Test.YtbijhcoloajjaaaR7
import Derived.Test.YtbijhcoloajjaaaE1
namespace Go.Proofs.Ytbijhcoloajjaaa
open Go.RowKit

theorem florCommon_any (a0 a1 b0 b1 : Int) (w : World) :
    Calls Try.prog 66 #[.agg #[.int .i64 a0, .int .i64 a1], .agg #[.int .i64 b0, .int .i64 b1]] w fun e w' => e = .returned (.agg #[.int .i64 (mx a0 b0), .int .i64 (mn a1 b1)]) ∧ Below w.heap.size w w' := by
  go_enter Try.func66, Try.ntmps66
  go_wp2
  all_goals go_returns
  all_goals refine ⟨?_, by go_grown⟩
  all_goals (by_cases p : a0 < b0 <;> by_cases q : b1 < a1 <;> simp [mx, mn, p, q] <;> omega)
theorem isNothing_yes (a b : Int) (w : World) (h : b < a) :
    Calls Try.prog 65 #[.agg #[.int .i64 a, .int .i64 b]] w fun e w' => e = .returned (.bool true) ∧ Below w.heap.size w w' := by
  go_enter Try.func65, Try.ntmps65
  go_wp2
  go_ret
  exact ⟨by first | rfl | simp [h], by go_grown⟩
theorem isNothing_no (a b : Int) (w : World) (h : a ≤ b) :
    Calls Try.prog 65 #[.agg #[.int .i64 a, .int .i64 b]] w fun e w' => e = .returned (.bool false) ∧ Below w.heap.size w w' := by
  go_enter Try.func65, Try.ntmps65
  go_wp2
  go_ret
  exact ⟨by first | rfl | simp [h], by go_grown⟩
def inR (t0 t1 w0 w1 : Int) : Bool := decide (w0 ≤ t0) && decide (t1 ≤ w1)
theorem isWithin_any (t0 t1 w0 w1 : Int) (w : World) :
    Calls Try.prog 67 #[.agg #[.int .i64 t0, .int .i64 t1], .agg #[.int .i64 w0, .int .i64 w1]] w fun e w' => e = .returned (.bool (inR t0 t1 w0 w1)) ∧ Below w.heap.size w w' := by
  by_cases h1 : w0 ≤ t0
  · by_cases h2 : t1 ≤ w1
    all_goals
      go_enter Try.func67, Try.ntmps67
      go_wp2
      go_ret
      exact ⟨by simp [inR, h1]; try omega, by go_grown⟩
  · have e : inR t0 t1 w0 w1 = false := by simp [inR]; omega
    rw [e]
    go_enter Try.func67, Try.ntmps67
    go_wp2
    go_ret
    exact ⟨rfl, by go_grown⟩
def ansF (f : Nat → Nat → Int) : Nat → Nat → Int → Int
  | 0, _, z => z
  | m + 1, k, z => if mn (f k 1) (f k 3) < mx (f k 0) (f k 2) then 0 else ansF f m (k + 1) (if inR (f k 0) (f k 1) (f k 2) (f k 3) then z else 1)
theorem answer_list (n : Nat) (f : Nat → Nat → Int) (b off : Nat) (w : World) (hn : n ≤ 100) (hc : ∀ j i, j < n → i < 4 → w.cell? ⟨b, off + j * 4 + i, none⟩ = some (.int .i64 (f j i))) :
    Calls Try.prog 55 #[.slice (some ⟨b, off, none⟩) n n] w fun e w' => e = .returned (.int .i64 (ansF f n 0 2)) ∧ Below w.heap.size w w' := by
  have HC := Lib.hid hc
  clear hc
  go_enter Try.func55, Try.ntmps55
  go_wp2
  go_loopw [3, 8] (fun kn i wr => ∃ k : Nat, ∃ z : Int, k ≤ n ∧ kn = .int .i64 z ∧ i = .int .i64 k ∧ ansF f n 0 2 = ansF f (n - k) k z ∧ Below w.heap.size w wr) (fun _ i _ => n - (intOf i).toNat)
  case atStart => exact ⟨0, 2, Nat.zero_le _, rfl, rfl, rfl, Below.refl _ _⟩
  case round =>
    obtain ⟨k, z, hk, rfl, rfl, hE, hB⟩ := hrel
    have HE := Lib.hid hE
    clear hE
    by_cases hlt : k < n
    · have d0 : wr.cell? ⟨b, off + k * 4, none⟩ = some (.int .i64 (f k 0)) := keepC hB (HC.out k 0 hlt (by omega))
      have d1 := keepC hB (HC.out k 1 hlt (by omega))
      have d2 := keepC hB (HC.out k 2 hlt (by omega))
      have d3 := keepC hB (HC.out k 3 hlt (by omega))
      have hA : ansF f (n - k) k z = if mn (f k 1) (f k 3) < mx (f k 0) (f k 2) then 0 else ansF f (n - (k + 1)) (k + 1) (if inR (f k 0) (f k 1) (f k 2) (f k 3) then z else 1) := by
        obtain ⟨m, hm⟩ : ∃ m, n - k = m + 1 := ⟨n - k - 1, by omega⟩
        have hm2 : n - (k + 1) = m := by omega
        rw [hm, hm2, ansF]
      obtain ⟨t0, e0⟩ : ∃ t, f k 0 = t := ⟨_, rfl⟩
      obtain ⟨t1, e1⟩ : ∃ t, f k 1 = t := ⟨_, rfl⟩
      obtain ⟨t2, e2⟩ : ∃ t, f k 2 = t := ⟨_, rfl⟩
      obtain ⟨t3, e3⟩ : ∃ t, f k 3 = t := ⟨_, rfl⟩
      rw [e0] at d0
      rw [e1] at d1
      rw [e2] at d2
      rw [e3] at d3
      rw [e0, e1, e2, e3] at hA
      have HA := Lib.hid hA
      clear hA e0 e1 e2 e3
      by_cases hN : mn t1 t3 < mx t0 t2
      · go_wp2_with (first | (go_at_call 66; refine (florCommon_any _ _ _ _ _).mono ?_; rintro e w2 ⟨rfl, hb2⟩; have n0 := newHeld0 hb2 0 _ rfl; have n1 := newHeld0 hb2 1 _ rfl; have n2 := newHeld0 hb2 2 _ rfl; have n3 := newHeld0 hb2 3 _ rfl; have hB2 := belowSeq hb2 (hB.alloc hB.size _)) | (go_at_call 65; refine (isNothing_yes _ _ _ (by assumption)).mono ?_; rintro e w3 ⟨rfl, hb3⟩; have hB3 := belowSeq hb3 hB2))
        go_ret
        exact ⟨ret_int (by rw [HE.out, HA.out, if_pos hN]), hB3⟩
      · have hN2 : mx t0 t2 ≤ mn t1 t3 := by omega
        clear hN
        cases hI : inR t0 t1 t2 t3
        · go_wp2_with (first | (go_at_call 66; refine (florCommon_any _ _ _ _ _).mono ?_; rintro e w2 ⟨rfl, hb2⟩; have n0 := newHeld0 hb2 0 _ rfl; have n1 := newHeld0 hb2 1 _ rfl; have n2 := newHeld0 hb2 2 _ rfl; have n3 := newHeld0 hb2 3 _ rfl; have hB2 := belowSeq hb2 (hB.alloc hB.size _)) | (go_at_call 65; refine (isNothing_no _ _ _ (by assumption)).mono ?_; rintro e w3 ⟨rfl, hb3⟩; have m0 := keepC hb3 n0; have m1 := keepC hb3 n1; have m2 := keepC hb3 n2; have m3 := keepC hb3 n3; have hB3 := belowSeq hb3 hB2) | (go_at_call 67; refine (isWithin_any _ _ _ _ _).mono ?_; rintro e w4 ⟨rfl, hb4⟩; have hB4 := belowSeq hb4 hB3))
          go_roundw
          case rel => exact ⟨k + 1, 1, by omega, rfl, by go_num, by rw [HE.out, HA.out, if_neg (Int.not_lt.2 hN2), hI]; rfl, hB4⟩
          case measure => simp [intOf]; omega
        · go_wp2_with (first | (go_at_call 66; refine (florCommon_any _ _ _ _ _).mono ?_; rintro e w2 ⟨rfl, hb2⟩; have n0 := newHeld0 hb2 0 _ rfl; have n1 := newHeld0 hb2 1 _ rfl; have n2 := newHeld0 hb2 2 _ rfl; have n3 := newHeld0 hb2 3 _ rfl; have hB2 := belowSeq hb2 (hB.alloc hB.size _)) | (go_at_call 65; refine (isNothing_no _ _ _ (by assumption)).mono ?_; rintro e w3 ⟨rfl, hb3⟩; have m0 := keepC hb3 n0; have m1 := keepC hb3 n1; have m2 := keepC hb3 n2; have m3 := keepC hb3 n3; have hB3 := belowSeq hb3 hB2) | (go_at_call 67; refine (isWithin_any _ _ _ _ _).mono ?_; rintro e w4 ⟨rfl, hb4⟩; have hB4 := belowSeq hb4 hB3))
          go_roundw
          case rel => exact ⟨k + 1, z, by omega, rfl, by go_num, by rw [HE.out, HA.out, if_neg (Int.not_lt.2 hN2), hI]; rfl, hB4⟩
          case measure => simp [intOf]; omega
    · have e : k = n := by omega
      subst e
      go_wp2
      go_ret
      exact ⟨ret_int (by rw [HE.out, Nat.sub_self]; rfl), hB⟩
end Go.Proofs.Ytbijhcoloajjaaa
