/- flor's own floor, ceiling, lostOf, leftOf, exactly, scaled. -/
import Derived.Test.YtdejmleboflopaaGreatF2
import Derived.Test.YtdejmleboflopaaGreatR3
import Derived.Test.YtdejmleboflopaaGreatH1
namespace Go.Proofs.YtdejmleboflopaaGreat
open Go.RowKit

theorem florFloor_any (n b : Int) (w : World) (h0 : -1000000000000000000 ≤ n) (h1 : n ≤ 1000000000000000000) (hb : 0 < b) (hb1 : b ≤ 1000000000000000000) :
    Calls Tryz.prog 91 #[.int .i64 n, .int .i64 b] w fun e w' => e = .returned (.int .i64 (n / b)) ∧ w = w' := by
  by_cases hn : 0 ≤ n
  · have hm : 0 ≤ n % b := Int.emod_nonneg n (by omega)
    go_enter Tryz.func91, Tryz.ntmps91
    go_wp2
    go_ret
    exact ⟨rfl, rfl⟩
  · obtain ⟨e1, e2⟩ := tdiv_neg_facts n b (by omega)
    have g := floor_neg (-n) b hb
    have hd : (-n) / b ≤ -n := Int.ediv_le_self _ (by omega)
    have hd0 : 0 ≤ (-n) / b := Int.ediv_nonneg (by omega) (by omega)
    have hm : 0 ≤ (-n) % b := Int.emod_nonneg (-n) (by omega)
    rw [Int.neg_neg] at g
    by_cases hz : (-n) % b = 0
    · have g1 := Lib.hid (g.2 hz).1
      have E1 := Lib.hid e1
      have z : ¬ n.tmod b < 0 := by omega
      clear g e1 e2
      go_enter Tryz.func91, Tryz.ntmps91
      go_wp2
      go_ret
      exact ⟨ret_int (by rw [g1.out, E1.out]), rfl⟩
    · have g1 := Lib.hid (g.1 (by omega)).1
      have E1 := Lib.hid e1
      have z : n.tmod b < 0 := by omega
      have q0 : -1000000000000000000 ≤ n.tdiv b := by omega
      have q1 : n.tdiv b ≤ 0 := by omega
      clear g e1 e2
      go_enter Tryz.func91, Tryz.ntmps91
      go_wp2
      go_ret
      exact ⟨ret_int (by rw [g1.out, E1.out]), rfl⟩

theorem florCeil_any (n b : Int) (w : World) (h0 : -1000000000000000000 ≤ n) (h1 : n ≤ 1000000000000000000) (hb : 0 < b) (hb1 : b ≤ 1000000000000000000) :
    Calls Tryz.prog 92 #[.int .i64 n, .int .i64 b] w fun e w' => e = .returned (.int .i64 (-((-n) / b))) ∧ w = w' := by
  have q := florFloor_any (-n) b w (by omega) (by omega) hb hb1
  have q0 : -1000000000000000000 ≤ (-n) / b := Int.le_ediv_of_mul_le hb (by
    have : -1000000000000000000 * b ≤ -1000000000000000000 * 1 := Int.mul_le_mul_of_nonpos_left (by omega) (by omega)
    omega)
  have q1 : (-n) / b ≤ 1000000000000000000 := by
    have := Int.ediv_le_self (a := 1000000000000000000) b (by omega)
    have := Int.ediv_le_ediv hb (show -n ≤ 1000000000000000000 by omega)
    omega
  have Q := Lib.hid q; clear q
  go_enter Tryz.func92, Tryz.ntmps92
  go_wp2_with (go_at_call 91; refine Q.out.mono ?_; rintro e w' ⟨rfl, rfl⟩)
  go_ret
  exact ⟨rfl, rfl⟩

theorem ffl_any (n b : Int) (w : World) (h0 : -1000000000000000000 ≤ n) (h1 : n ≤ 1000000000000000000) (hb : 0 < b) (hb1 : b ≤ 1000000000000000000) :
    Calls Tryz.prog 91 #[.int .i64 n, .int .i64 b] w fun e w' => e = .returned (.int .i64 (fl n b)) ∧ w = w' := florFloor_any n b w h0 h1 hb hb1
theorem fce_any (n b : Int) (w : World) (h0 : -1000000000000000000 ≤ n) (h1 : n ≤ 1000000000000000000) (hb : 0 < b) (hb1 : b ≤ 1000000000000000000) :
    Calls Tryz.prog 92 #[.int .i64 n, .int .i64 b] w fun e w' => e = .returned (.int .i64 (ce n b)) ∧ w = w' := florCeil_any n b w h0 h1 hb hb1
end Go.Proofs.YtdejmleboflopaaGreat
