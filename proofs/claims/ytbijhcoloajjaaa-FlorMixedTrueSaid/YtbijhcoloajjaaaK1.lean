/- Compare of the base at a denominator 1 on the right. -/
import Derived.Test.YtbijhcoloajjaaaB1
namespace Go.Proofs.Ytbijhcoloajjaaa
open Go.RowKit

def cmp1 (n d m : Int) : Int := if n / d < m then -1 else if m < n / d then 1 else if n % d = 0 then 0 else 1

theorem compare_one (n d m : Int) (w : World) (h0 : -1000000000000000000 ≤ n) (h1 : n ≤ 1000000000000000000) (hd : 0 < d) (hd1 : d ≤ 1000000000000000000) (m0 : -1000000000000000000 ≤ m) (m1 : m ≤ 1000000000000000000) :
    Calls Try.prog 42 #[.int .i64 n, .int .i64 d, .int .i64 m, .int .i64 1] w fun e w' => e = .returned (.int .i64 (cmp1 n d m)) ∧ w = w' := by
  have q := floor_any n d w h0 h1 hd hd1
  have p := floor_any m 1 w m0 m1 (by omega) (by omega)
  rw [Int.ediv_one] at p
  have Q := Lib.hid q
  have P := Lib.hid p
  clear q p
  have hm := Int.emod_add_mul_ediv n d
  have hm0 := Int.emod_nonneg n (by omega : d ≠ 0)
  have hm1 := Int.emod_lt_of_pos n hd
  have hc : n / d * d = d * (n / d) := Int.mul_comm _ _
  have hx : n - n / d * d = n % d := by omega
  by_cases c1 : n / d < m
  · have HX := Lib.hid hx
    clear hm hc hx hm0 hm1
    go_enter Try.func42, Try.ntmps42
    go_wp2_with fail
    refine wp_loop_rounds 1 ?_; rw [rounds_succ]
    go_wp2_with fail
    refine Q.out.mono ?_; rintro e w' ⟨rfl, rfl⟩
    go_wp2_with fail
    refine P.out.mono ?_; rintro e w' ⟨rfl, rfl⟩
    go_wp2
    go_ret
    exact ⟨by simp [cmp1, c1], rfl⟩
  by_cases c2 : m < n / d
  · have HX := Lib.hid hx
    clear hm hc hx hm0 hm1
    go_enter Try.func42, Try.ntmps42
    go_wp2_with fail
    refine wp_loop_rounds 1 ?_; rw [rounds_succ]
    go_wp2_with fail
    refine Q.out.mono ?_; rintro e w' ⟨rfl, rfl⟩
    go_wp2_with fail
    refine P.out.mono ?_; rintro e w' ⟨rfl, rfl⟩
    go_wp2
    go_ret
    exact ⟨by simp [cmp1, c1, c2], rfl⟩
  have l0 : -2000000000000000000 ≤ n / d * d := by omega
  have l1 : n / d * d ≤ 2000000000000000000 := by omega
  by_cases c3 : n % d = 0
  · have z : (n - n / d * d == 0) = true := by rw [hx, c3]; rfl
    have C3 := Lib.hid c3
    clear hm hc hx hm0 hm1 c3
    go_enter Try.func42, Try.ntmps42
    go_wp2_with fail
    refine wp_loop_rounds 1 ?_; rw [rounds_succ]
    go_wp2_with fail
    refine Q.out.mono ?_; rintro e w' ⟨rfl, rfl⟩
    go_wp2_with fail
    refine P.out.mono ?_; rintro e w' ⟨rfl, rfl⟩
    go_wp2
    go_ret
    exact ⟨ret_int (by unfold cmp1; rw [if_neg (by omega), if_neg (by omega), if_pos C3.out]), rfl⟩
  · have z : (n - n / d * d == 0) = false := by rw [hx]; simpa using c3
    have C3 := Lib.hid c3
    clear hm hc hx hm0 hm1 c3
    go_enter Try.func42, Try.ntmps42
    go_wp2_with fail
    refine wp_loop_rounds 1 ?_; rw [rounds_succ]
    go_wp2_with fail
    refine Q.out.mono ?_; rintro e w' ⟨rfl, rfl⟩
    go_wp2_with fail
    refine P.out.mono ?_; rintro e w' ⟨rfl, rfl⟩
    go_wp2
    go_ret
    exact ⟨ret_int (by unfold cmp1; rw [if_neg (by omega), if_neg (by omega), if_neg C3.out]), rfl⟩
end Go.Proofs.Ytbijhcoloajjaaa
