/- Contracts of small helpers (package criaderabase): Within, Floor, Ceil, Mod. -/
import Derived.Test.YtpfhfphcmomfdaaProg
import Derived.WalkKit
import Derived.Handy
import Derived.Lib.Hide
namespace Go.Proofs.Ytpfhfphcmomfdaa
open Go.RowKit

/-- n lies from lo to hi -/
def inB (n lo hi : Int) : Bool := decide (lo ≤ n) && decide (n ≤ hi)
theorem inB_iff {n lo hi : Int} : inB n lo hi = true ↔ lo ≤ n ∧ n ≤ hi := by simp [inB]
theorem inB_yes {n lo hi : Int} (h1 : lo ≤ n) (h2 : n ≤ hi) : inB n lo hi = true := inB_iff.2 ⟨h1, h2⟩
theorem inB_no {n lo hi : Int} : inB n lo hi = false ↔ n < lo ∨ hi < n := by
  rw [← Bool.not_eq_true, inB_iff]; omega

theorem within_any (n lo hi : Int) (w : World) :
    Calls Try.prog 10 #[.int .i64 n, .int .i64 lo, .int .i64 hi] w fun e w' => e = .returned (.bool (inB n lo hi)) ∧ w = w' := by
  by_cases h1 : lo ≤ n
  · go_enter Try.func10, Try.ntmps10
    go_wp2
    go_ret
    exact ⟨by simp [inB, h1], rfl⟩
  · go_enter Try.func10, Try.ntmps10
    go_wp2
    go_ret
    exact ⟨by simp [inB]; omega, rfl⟩

theorem ret_int {k : IntKind} {a b : Int} (h : a = b) : Ending.returned (.int k a) = .returned (.int k b) := by rw [h]

theorem tdiv_neg_facts (n b : Int) (hn : n < 0) : n.tdiv b = -((-n) / b) ∧ n.tmod b = -((-n) % b) := by
  have e : n = -(-n) := by omega
  constructor
  · rw [e, Int.neg_tdiv, Int.tdiv_eq_ediv_of_nonneg (by omega)]; simp
  · rw [e, Int.neg_tmod, Int.tmod_eq_emod_of_nonneg (by omega)]; simp
theorem floor_neg (m b : Int) (hb : 0 < b) : (0 < m % b → (-m) / b = -(m / b) - 1 ∧ (-m) % b = b - m % b) ∧ (m % b = 0 → (-m) / b = -(m / b) ∧ (-m) % b = 0) := by
  have h1 := Int.emod_add_mul_ediv m b
  have h2 := Int.emod_nonneg m (by omega : b ≠ 0)
  have h3 := Int.emod_lt_of_pos m hb
  constructor
  · intro h
    have e : -m = (b - m % b) + b * (-(m / b) - 1) := by rw [Int.mul_sub, Int.mul_neg]; omega
    have e1 : (-m) / b = -(m / b) - 1 := by
      rw [e, Int.add_mul_ediv_left _ _ (by omega), Int.ediv_eq_zero_of_lt (by omega) (by omega)]; omega
    refine ⟨e1, ?_⟩
    have := Int.emod_add_mul_ediv (-m) b
    rw [e1, Int.mul_sub, Int.mul_neg] at this; omega
  · intro h
    have e : -m = b * (-(m / b)) := by rw [Int.mul_neg]; omega
    have e1 : (-m) / b = -(m / b) := by rw [e, Int.mul_ediv_cancel_left _ (by omega)]
    refine ⟨e1, ?_⟩
    have := Int.emod_add_mul_ediv (-m) b
    rw [e1, Int.mul_neg] at this; omega

end Go.Proofs.Ytpfhfphcmomfdaa
