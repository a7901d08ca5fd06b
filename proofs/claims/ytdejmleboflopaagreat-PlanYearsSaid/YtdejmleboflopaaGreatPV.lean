/- The program of chapter 6, with what the model does itself. -/
import Derived.Test.YtdejmleboflopaaGreatPX
set_option linter.unusedVariables false
set_option linter.unusedSimpArgs false
namespace Go.Proofs.YtdejmleboflopaaGreat
open Go.RowKit
namespace Sy
open Go.RowKit

theorem extsP : ∀ t ∈ [((111 : Nat), false), ((137 : Nat), true)], ∀ (x y c : Nat) (w : World), c ≤ 1 → (callFunc t.1 #[.int .u64 x, .int .u64 y, .int .u64 c]).run Tryz.prog w = .ok (.value (carryV t.2 x y c)) w := by
  intro t ht x y c w hc
  simp only [List.mem_cons, List.not_mem_nil, or_false] at ht
  rcases ht with rfl | rfl
  · rw [run_callFunc_extern Tryz.func111 (by kernel_rfl) (by kernel_rfl) (by kernel_rfl) (e := add64Entry) (by kernel_rfl), run_add64E x y c hc]
    rfl
  · rw [run_callFunc_extern Tryz.func137 (by kernel_rfl) (by kernel_rfl) (by kernel_rfl) (e := sub64E) (by kernel_rfl), run_sub64E x y c hc]
    rfl
noncomputable def pgX0 : Pg := { prog := Tryz.prog, den := { hole := fun _ => .int .i64 0, int := fun _ _ => 0, obj := fun _ _ _ => False }, facts := [], ok := by simp, exts := [(111, false), (137, true)], okExt := extsP }
end Sy
end Go.Proofs.YtdejmleboflopaaGreat
