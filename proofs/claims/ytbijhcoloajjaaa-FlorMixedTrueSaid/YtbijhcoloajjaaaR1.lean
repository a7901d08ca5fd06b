/- Contracts of the reference of chapter 3: RangeErr, first. -/
import Derived.Test.YtbijhcoloajjaaaB1
import Derived.Deep.QuietTactic
import Derived.BigQuiet
import Derived.Below
import Derived.Deep.RegionHeld3
import Derived.Deep.DeepCutAuto
namespace Go.Proofs.Ytbijhcoloajjaaa
open Go.RowKit

def rangeE (lo hi most : Int) : Int := if inB lo 0 most && inB hi 0 most then (if hi < lo then 9 else 0) else 2
def firstE (a b c : Int) : Int := if a ≠ 0 then a else if b ≠ 0 then b else c

theorem rangeErr_any (lo hi most : Int) (w : World) :
    Calls Try.prog 40 #[.agg #[.int .i64 lo, .int .i64 hi], .int .i64 most] w fun e w' => e = .returned (.int .i64 (rangeE lo hi most)) ∧ Below w.heap.size w w' := by
  cases h1 : inB lo 0 most
  · go_enter Try.func40, Try.ntmps40
    go_wp2_with (go_at_call 14; refine (within_any _ _ _ _).mono ?_; rintro e w' ⟨rfl, rfl⟩)
    go_ret
    exact ⟨by simp [rangeE, h1], by go_grown⟩
  · cases h2 : inB hi 0 most
    · go_enter Try.func40, Try.ntmps40
      go_wp2_with (go_at_call 14; refine (within_any _ _ _ _).mono ?_; rintro e w' ⟨rfl, rfl⟩)
      go_ret
      exact ⟨by simp [rangeE, h2], by go_grown⟩
    · by_cases h3 : hi < lo
      · go_enter Try.func40, Try.ntmps40
        go_wp2_with (go_at_call 14; refine (within_any _ _ _ _).mono ?_; rintro e w' ⟨rfl, rfl⟩)
        go_ret
        exact ⟨by simp [rangeE, h1, h2, h3], by go_grown⟩
      · go_enter Try.func40, Try.ntmps40
        go_wp2_with (go_at_call 14; refine (within_any _ _ _ _).mono ?_; rintro e w' ⟨rfl, rfl⟩)
        go_ret
        exact ⟨by simp [rangeE, h1, h2, h3], by go_grown⟩

theorem first_any (a b c : Int) (w : World) :
    Calls Try.prog 39 #[.int .i64 a, .int .i64 b, .int .i64 c] w fun e w' => e = .returned (.int .i64 (firstE a b c)) ∧ w = w' := by
  by_cases h1 : a = 0
  · by_cases h2 : b = 0
    · go_enter Try.func39, Try.ntmps39
      go_wp2
      go_ret
      exact ⟨by simp [firstE, h1, h2], rfl⟩
    · go_enter Try.func39, Try.ntmps39
      go_wp2
      go_ret
      exact ⟨by simp [firstE, h1, h2], rfl⟩
  · go_enter Try.func39, Try.ntmps39
    go_wp2
    go_ret
    exact ⟨by simp [firstE, h1], rfl⟩

end Go.Proofs.Ytbijhcoloajjaaa
