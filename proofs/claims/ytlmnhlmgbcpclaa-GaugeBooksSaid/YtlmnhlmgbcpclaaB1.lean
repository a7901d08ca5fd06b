/- Contracts of small helpers (package criaderabase): Within, Floor, Ceil, Mod. -/
import Derived.Test.YtlmnhlmgbcpclaaProg
import Derived.WalkKit
import Derived.Handy
import Derived.Lib.Hide
namespace Go.Proofs.Ytlmnhlmgbcpclaa
open Go.RowKit

/-- n lies from lo to hi -/
def inB (n lo hi : Int) : Bool := decide (lo ≤ n) && decide (n ≤ hi)
theorem inB_iff {n lo hi : Int} : inB n lo hi = true ↔ lo ≤ n ∧ n ≤ hi := by simp [inB]
theorem inB_yes {n lo hi : Int} (h1 : lo ≤ n) (h2 : n ≤ hi) : inB n lo hi = true := inB_iff.2 ⟨h1, h2⟩
theorem inB_no {n lo hi : Int} : inB n lo hi = false ↔ n < lo ∨ hi < n := by
  rw [← Bool.not_eq_true, inB_iff]; omega

theorem within_any (n lo hi : Int) (w : World) :
    Calls Try.prog 19 #[.int .i64 n, .int .i64 lo, .int .i64 hi] w fun e w' => e = .returned (.bool (inB n lo hi)) ∧ w = w' := by
  by_cases h1 : lo ≤ n
  · go_enter Try.func19, Try.ntmps19
    go_wp2
    go_ret
    exact ⟨by simp [inB, h1], rfl⟩
  · go_enter Try.func19, Try.ntmps19
    go_wp2
    go_ret
    exact ⟨by simp [inB]; omega, rfl⟩

theorem ret_int {k : IntKind} {a b : Int} (h : a = b) : Ending.returned (.int k a) = .returned (.int k b) := by rw [h]

theorem tdiv_neg_facts (n b : Int) (hn : n < 0) : n.tdiv b = -((-n) / b) ∧ n.tmod b = -((-n) % b) := by
  have e : n = -(-n) := by omega
  constructor
  · rw [e, Int.neg_tdiv, Int.tdiv_eq_ediv_of_nonneg (by omega)]; simp
  · rw [e, Int.neg_tmod, Int.tmod_eq_emod_of_nonneg (by omega)]; simp
theorem floor_neg (m b : Int) (hb : 0 < b) : (0 < m % b → (-m) / b = -(m / b) - 1 ∧ (-m) % b = b - m % b) ∧ (m % b = 0 → (-m) / b = -(m / b) ∧ (-m) % b = 0) := by
  have h1 := Int.emod_add_mul_ediv m b
  have h2 := Int.emod_nonneg m (by omega : b ≠ 0)
  have h3 := Int.emod_lt_of_pos m hb
  constructor
  · intro h
    have e : -m = (b - m % b) + b * (-(m / b) - 1) := by rw [Int.mul_sub, Int.mul_neg]; omega
    have e1 : (-m) / b = -(m / b) - 1 := by
      rw [e, Int.add_mul_ediv_left _ _ (by omega), Int.ediv_eq_zero_of_lt (by omega) (by omega)]; omega
    refine ⟨e1, ?_⟩
    have := Int.emod_add_mul_ediv (-m) b
    rw [e1, Int.mul_sub, Int.mul_neg] at this; omega
  · intro h
    have e : -m = b * (-(m / b)) := by rw [Int.mul_neg]; omega
    have e1 : (-m) / b = -(m / b) := by rw [e, Int.mul_ediv_cancel_left _ (by omega)]
    refine ⟨e1, ?_⟩
    have := Int.emod_add_mul_ediv (-m) b
    rw [e1, Int.mul_neg] at this; omega

theorem floor_any (n b : Int) (w : World) (h0 : -1000000000000000000 ≤ n) (h1 : n ≤ 1000000000000000000) (hb : 0 < b) (hb1 : b ≤ 1000000000000000000) :
    Calls Try.prog 86 #[.int .i64 n, .int .i64 b] w fun e w' => e = .returned (.int .i64 (n / b)) ∧ w = w' := by
  by_cases hn : 0 ≤ n
  · have hm : 0 ≤ n % b := Int.emod_nonneg n (by omega)
    go_enter Try.func86, Try.ntmps86
    go_wp2
    go_ret
    exact ⟨rfl, rfl⟩
  · obtain ⟨e1, e2⟩ := tdiv_neg_facts n b (by omega)
    have g := floor_neg (-n) b hb
    have hd : (-n) / b ≤ -n := Int.ediv_le_self _ (by omega)
    have hd0 : 0 ≤ (-n) / b := Int.ediv_nonneg (by omega) (by omega)
    have hm : 0 ≤ (-n) % b := Int.emod_nonneg (-n) (by omega)
    rw [Int.neg_neg] at g
    by_cases hz : (-n) % b = 0
    · have g1 := Lib.hid (g.2 hz).1
      have E1 := Lib.hid e1
      have z : ¬ n.tmod b < 0 := by omega
      clear g e1 e2
      go_enter Try.func86, Try.ntmps86
      go_wp2
      go_ret
      exact ⟨ret_int (by rw [g1.out, E1.out]), rfl⟩
    · have g1 := Lib.hid (g.1 (by omega)).1
      have E1 := Lib.hid e1
      have z : n.tmod b < 0 := by omega
      have q0 : -1000000000000000000 ≤ n.tdiv b := by omega
      have q1 : n.tdiv b ≤ 0 := by omega
      clear g e1 e2
      go_enter Try.func86, Try.ntmps86
      go_wp2
      go_ret
      exact ⟨ret_int (by rw [g1.out, E1.out]), rfl⟩

theorem ceil_any (n b : Int) (w : World) (h0 : -1000000000000000000 ≤ n) (h1 : n ≤ 1000000000000000000) (hb : 0 < b) (hb1 : b ≤ 1000000000000000000) :
    Calls Try.prog 87 #[.int .i64 n, .int .i64 b] w fun e w' => e = .returned (.int .i64 (-((-n) / b))) ∧ w = w' := by
  have q := floor_any (-n) b w (by omega) (by omega) hb hb1
  have q0 : -1000000000000000000 ≤ (-n) / b := Int.le_ediv_of_mul_le hb (by
    have : -1000000000000000000 * b ≤ -1000000000000000000 * 1 := Int.mul_le_mul_of_nonpos_left (by omega) (by omega)
    omega)
  have q1 : (-n) / b ≤ 1000000000000000000 := by
    have := Int.ediv_le_self (a := 1000000000000000000) b (by omega)
    have := Int.ediv_le_ediv hb (show -n ≤ 1000000000000000000 by omega)
    omega
  have Q := Lib.hid q; clear q
  go_enter Try.func87, Try.ntmps87
  go_wp2_with (go_at_call 86; refine Q.out.mono ?_; rintro e w' ⟨rfl, rfl⟩)
  go_ret
  exact ⟨rfl, rfl⟩

end Go.Proofs.Ytlmnhlmgbcpclaa
