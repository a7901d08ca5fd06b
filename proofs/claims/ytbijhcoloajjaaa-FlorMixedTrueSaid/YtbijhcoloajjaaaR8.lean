/- Contract of the reference of chapter 3: SafeDays. -/
import Derived.Test.YtbijhcoloajjaaaR5
namespace Go.Proofs.Ytbijhcoloajjaaa
open Go.RowKit

def sLo (s0 a0 g1 d : Int) : Int := fl (s0 * lft g1 d) (lft a0 d)
/-- n is for how many days the strength is kept -/
def isSafe (s0 a0 g1 least : Int) (n : Nat) : Prop := n ≤ 365 ∧ (∀ j : Nat, j < n → least ≤ sLo s0 a0 g1 (j + 1)) ∧ (n = 365 ∨ sLo s0 a0 g1 (n + 1) < least)
theorem safe_exists (s0 a0 g1 least : Int) : ∃ n, isSafe s0 a0 g1 least n := by
  have key : ∀ f n : Nat, n + f = 365 → (∀ j : Nat, j < n → least ≤ sLo s0 a0 g1 (j + 1)) → ∃ n, isSafe s0 a0 g1 least n := by
    intro f
    induction f with
    | zero => intro n hn h; exact ⟨n, by omega, h, Or.inl (by omega)⟩
    | succ f ih =>
      intro n hn h
      by_cases c : sLo s0 a0 g1 (n + 1) < least
      · exact ⟨n, by omega, h, Or.inr c⟩
      · refine ih (n + 1) (by omega) fun j hj => ?_
        by_cases e : j = n
        · subst e; omega
        · exact h j (by omega)
  exact key 365 0 (by omega) (fun j hj => by omega)
theorem safe_one {s0 a0 g1 least : Int} {n m : Nat} (hn : isSafe s0 a0 g1 least n) (hm : isSafe s0 a0 g1 least m) : n = m := by
  have key : ∀ {n m : Nat}, isSafe s0 a0 g1 least n → isSafe s0 a0 g1 least m → ¬ n < m := by
    intro n m hn hm h
    rcases hn.2.2 with e | e
    · have := hm.1; omega
    · have := hm.2.1 n h; omega
  have a := key hn hm
  have b := key hm hn
  omega
theorem field_lo (a b : Int) (w : World) : (Instr.field 25 (.agg #[.int .i64 a, .int .i64 b]) 0).run Try.prog w = .ok (.int .i64 a) w := by kernel_rfl
theorem field_hi (a b : Int) (w : World) : (Instr.field 25 (.agg #[.int .i64 a, .int .i64 b]) 1).run Try.prog w = .ok (.int .i64 b) w := by kernel_rfl
end Go.Proofs.Ytbijhcoloajjaaa
