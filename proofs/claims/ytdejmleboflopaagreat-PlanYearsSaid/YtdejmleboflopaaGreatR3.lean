/- Contracts of the reference of chapter 3: left, strength, LossOf, After, Drawn. -/
import Derived.Test.YtdejmleboflopaaGreatR2
namespace Go.Proofs.YtdejmleboflopaaGreat
open Go.RowKit

theorem mul_bd (x y a b : Int) (x0 : 0 ≤ x) (x1 : x ≤ a) (y0 : 0 ≤ y) (y1 : y ≤ b) : 0 ≤ x * y ∧ x * y ≤ a * b :=
  ⟨Int.mul_nonneg x0 y0, Int.mul_le_mul x1 y1 y0 (by omega)⟩
def lft (a days : Int) : Int := 1000000 - a * days
theorem lft_bd (a days : Int) (h0 : 0 ≤ a) (h1 : a ≤ 2000) (d0 : 0 ≤ days) (d1 : days ≤ 366) : 268000 ≤ lft a days ∧ lft a days ≤ 1000000 := by
  have := mul_bd a days 2000 366 h0 h1 d0 d1
  unfold lft; omega
def fl (n d : Int) : Int := n / d
def ce (n d : Int) : Int := -((-n) / d)
theorem fl_any (n b : Int) (w : World) (h0 : -1000000000000000000 ≤ n) (h1 : n ≤ 1000000000000000000) (hb : 0 < b) (hb1 : b ≤ 1000000000000000000) :
    Calls Tryz.prog 75 #[.int .i64 n, .int .i64 b] w fun e w' => e = .returned (.int .i64 (fl n b)) ∧ w = w' := floor_any n b w h0 h1 hb hb1
theorem ce_any (n b : Int) (w : World) (h0 : -1000000000000000000 ≤ n) (h1 : n ≤ 1000000000000000000) (hb : 0 < b) (hb1 : b ≤ 1000000000000000000) :
    Calls Tryz.prog 76 #[.int .i64 n, .int .i64 b] w fun e w' => e = .returned (.int .i64 (ce n b)) ∧ w = w' := ceil_any n b w h0 h1 hb hb1
end Go.Proofs.YtdejmleboflopaaGreat
