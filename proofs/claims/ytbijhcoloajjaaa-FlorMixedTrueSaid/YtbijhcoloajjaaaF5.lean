/- flor's own after. -/
import Derived.Test.YtbijhcoloajjaaaF4
namespace Go.Proofs.Ytbijhcoloajjaaa
open Go.RowKit

set_option maxHeartbeats 1000000 in
theorem exactly_is (n : Int) (w : World)  :
    Calls Try.prog 43 #[.int .i64 n] w fun e w' => e = .returned (.agg #[.int .i64 n, .int .i64 n]) ∧ (w.alloc (.cells #[.int .i64 n, .int .i64 n] 25)) = w' := by
  go_enter Try.func43, Try.ntmps43
  go_wp2
  go_returns
  exact ⟨rfl, by simp⟩
set_option maxHeartbeats 1000000 in
theorem lostOf_is (a0 a1 days : Int) (w : World) (h0 : 0 ≤ a0) (h1 : a0 ≤ 2000) (h2 : 0 ≤ a1) (h3 : a1 ≤ 2000) (d0 : 0 ≤ days) (d1 : days ≤ 366) :
    Calls Try.prog 69 #[.agg #[.int .i64 a0, .int .i64 a1], .int .i64 days] w fun e w' => e = .returned (.agg #[.int .i64 (a0 * days), .int .i64 (a1 * days)]) ∧ ((w.alloc (.cells #[.int .i64 a0, .int .i64 a1] 25)).alloc (.cells #[.int .i64 (a0 * days), .int .i64 (a1 * days)] 25)) = w' := by
  obtain ⟨m0, m1⟩ := mul_bd a0 days 2000 366 h0 h1 d0 d1
  obtain ⟨m2, m3⟩ := mul_bd a1 days 2000 366 h2 h3 d0 d1
  go_enter Try.func69, Try.ntmps69
  go_wp2
  go_returns
  exact ⟨rfl, by simp⟩
set_option maxHeartbeats 1000000 in
theorem leftOf_is (a0 a1 days : Int) (w : World) (h0 : 0 ≤ a0) (h1 : a0 ≤ 2000) (h2 : 0 ≤ a1) (h3 : a1 ≤ 2000) (d0 : 0 ≤ days) (d1 : days ≤ 366) :
    Calls Try.prog 63 #[.agg #[.int .i64 a0, .int .i64 a1], .int .i64 days] w fun e w' => e = .returned (.agg #[.int .i64 (lft a1 days), .int .i64 (lft a0 days)]) ∧ (((((w.alloc (.cells #[.int .i64 a0, .int .i64 a1] 25)).alloc (.cells #[.int .i64 (lft a1 days), .int .i64 (lft a0 days)] 25)).alloc (.cells #[.int .i64 a0, .int .i64 a1] 25)).alloc (.cells #[.int .i64 (a0 * days), .int .i64 (a1 * days)] 25)).alloc (.cells #[.int .i64 (a0 * days), .int .i64 (a1 * days)] 25)) = w' := by
  obtain ⟨m0, m1⟩ := mul_bd a0 days 2000 366 h0 h1 d0 d1
  obtain ⟨m2, m3⟩ := mul_bd a1 days 2000 366 h2 h3 d0 d1
  have HL := Lib.hid (fun w => lostOf_is a0 a1 days w h0 h1 h2 h3 d0 d1)
  go_enter Try.func63, Try.ntmps63
  go_wp2_with (go_at_call 69; refine (HL.out _).mono ?_; rintro e w2 ⟨rfl, rfl⟩)
  go_returns
  exact ⟨by simp [lft], by simp [lft]⟩
end Go.Proofs.Ytbijhcoloajjaaa
