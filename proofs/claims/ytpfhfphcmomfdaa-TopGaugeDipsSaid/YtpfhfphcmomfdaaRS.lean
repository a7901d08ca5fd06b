/- Contracts: Small of a cask, the area up to any level as the reference has it. -/
import Derived.Test.YtpfhfphcmomfdaaSD
import Derived.Test.YtpfhfphcmomfdaaJA
set_option linter.unusedVariables false
set_option linter.unusedSimpArgs false
namespace Go.Proofs.Ytpfhfphcmomfdaa
open Go.RowKit
namespace Sy
open Go.RowKit

def smallB (s : ByteArray) (N : Nat) (bung : Int) : Bool := decide (s.size ≤ 20) && ((decide (N ≤ 4) || (decide (12 < N) && decide (N ≤ 14))) && (decide (bung ≤ 60) || decide (800 < bung)))
set_option maxRecDepth 100000 in
set_option maxHeartbeats 4000000 in
theorem small_any (s : ByteArray) (bung : Int) (sa : Option Addr) (N cap : Nat) (w : World) : Calls Try.prog 5 #[.agg #[.string s, .int .i64 bung, .slice sa N cap]] w fun e w' => e = .returned (.bool (smallB s N bung)) ∧ Below w.heap.size w w' := by
  obtain ⟨z, hz⟩ : ∃ z, smallB s N bung = z := ⟨_, rfl⟩
  rw [hz]
  unfold smallB at hz
  by_cases h1 : s.size ≤ 20
  · have a1 : (s.size : Int) ≤ 20 := by omega
    by_cases h2 : N ≤ 4
    · have a2 : (N : Int) ≤ 4 := by omega
      by_cases h3 : bung ≤ 60
      · have hz : z = true := by rw [← hz]; simp [h1, h2, h3]
        subst hz
        clear h1 h2
        go_enter Try.func5, Try.ntmps5
        go_wp2_with fail
        go_ret
        exact ⟨rfl, by go_grown⟩
      · by_cases h4 : 800 < bung
        · have hz : z = true := by rw [← hz]; simp [h1, h2, h3, h4]
          subst hz
          clear h1 h2
          go_enter Try.func5, Try.ntmps5
          go_wp2_with fail
          go_ret
          exact ⟨rfl, by go_grown⟩
        · have hz : z = false := by rw [← hz]; simp [h1, h2, h3, h4]
          subst hz
          clear h1 h2
          go_enter Try.func5, Try.ntmps5
          go_wp2_with fail
          go_ret
          exact ⟨rfl, by go_grown⟩
    · have a2 : ¬ (N : Int) ≤ 4 := by omega
      by_cases h5 : 12 < N
      · have a5 : 12 < (N : Int) := by omega
        by_cases h6 : N ≤ 14
        · have a6 : (N : Int) ≤ 14 := by omega
          by_cases h3 : bung ≤ 60
          · have hz : z = true := by rw [← hz]; simp [h1, h2, h3, h5, h6]
            subst hz
            clear h1 h2 h5 h6
            go_enter Try.func5, Try.ntmps5
            go_wp2_with fail
            go_ret
            exact ⟨rfl, by go_grown⟩
          · by_cases h4 : 800 < bung
            · have hz : z = true := by rw [← hz]; simp [h1, h2, h3, h4, h5, h6]
              subst hz
              clear h1 h2 h5 h6
              go_enter Try.func5, Try.ntmps5
              go_wp2_with fail
              go_ret
              exact ⟨rfl, by go_grown⟩
            · have hz : z = false := by rw [← hz]; simp [h1, h2, h3, h4, h5, h6]
              subst hz
              clear h1 h2 h5 h6
              go_enter Try.func5, Try.ntmps5
              go_wp2_with fail
              go_ret
              exact ⟨rfl, by go_grown⟩
        · have a6 : ¬ (N : Int) ≤ 14 := by omega
          have hz : z = false := by rw [← hz]; simp [h1, h2, h5, h6]
          subst hz
          clear h1 h2 h5 h6
          go_enter Try.func5, Try.ntmps5
          go_wp2_with fail
          go_ret
          exact ⟨rfl, by go_grown⟩
      · have a5 : ¬ 12 < (N : Int) := by omega
        have hz : z = false := by rw [← hz]; simp [h1, h2, h5]
        subst hz
        clear h1 h2 h5
        go_enter Try.func5, Try.ntmps5
        go_wp2_with fail
        go_ret
        exact ⟨rfl, by go_grown⟩
  · have a1 : ¬ (s.size : Int) ≤ 20 := by omega
    have hz : z = false := by rw [← hz]; simp [h1]
    subst hz
    clear h1
    go_enter Try.func5, Try.ntmps5
    go_wp2_with fail
    go_ret
    exact ⟨rfl, by go_grown⟩
end Sy
end Go.Proofs.Ytpfhfphcmomfdaa
