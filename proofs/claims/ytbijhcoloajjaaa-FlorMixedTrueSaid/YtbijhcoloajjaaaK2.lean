/- The law's own helpers: between (a quotient lies in a range), within (a number of a range). -/
import Derived.Test.YtbijhcoloajjaaaK1
import Derived.Test.YtbijhcoloajjaaaR2
namespace Go.Proofs.Ytbijhcoloajjaaa
open Go.RowKit

theorem cmp1_ge {n d m : Int} (hd : 0 < d) (h : m * d ≤ n) : 0 ≤ cmp1 n d m := by
  have := (Int.le_ediv_iff_mul_le hd).2 h
  unfold cmp1
  rw [if_neg (by omega)]
  split
  · omega
  · split <;> omega
theorem cmp1_le {n d m : Int} (hd : 0 < d) (h : n ≤ m * d) : cmp1 n d m ≤ 0 := by
  have h1 := Int.emod_add_mul_ediv n d
  have h2 := Int.emod_nonneg n (by omega : d ≠ 0)
  have h3 : n / d ≤ m := by
    have := Int.ediv_le_ediv hd h
    rwa [Int.mul_ediv_cancel _ (by omega)] at this
  unfold cmp1
  split
  · omega
  · rename_i h4
    rw [if_neg (by omega)]
    have h5 : n / d = m := by omega
    rw [h5, Int.mul_comm] at h1
    rw [if_pos (by omega)]; omega

theorem between_yes (n d lo hi : Int) (w : World) (h0 : -1000000000000000000 ≤ n) (h1 : n ≤ 1000000000000000000) (hd : 0 < d) (hd1 : d ≤ 1000000000000000000) (l0 : -1000000000000000000 ≤ lo) (l1 : lo ≤ 1000000000000000000) (u0 : -1000000000000000000 ≤ hi) (u1 : hi ≤ 1000000000000000000) (a : lo * d ≤ n) (b : n ≤ hi * d) :
    Calls Try.prog 15 #[.int .i64 n, .int .i64 d, .agg #[.int .i64 lo, .int .i64 hi]] w fun e w' => e = .returned (.bool true) ∧ Below w.heap.size w w' := by
  have c1 := cmp1_ge hd a
  have c2 := cmp1_le hd b
  have C1 := Lib.hid (fun w => compare_one n d lo w h0 h1 hd hd1 l0 l1)
  have C2 := Lib.hid (fun w => compare_one n d hi w h0 h1 hd hd1 u0 u1)
  clear a b
  go_enter Try.func15, Try.ntmps15
  go_wp2_with fail
  refine (C1.out _).mono ?_; rintro e w' ⟨rfl, rfl⟩
  go_wp2_with fail
  refine (C2.out _).mono ?_; rintro e w' ⟨rfl, rfl⟩
  go_wp2
  go_ret
  exact ⟨rfl, by go_grown⟩
end Go.Proofs.Ytbijhcoloajjaaa
