/- The examples of chapter 6. -/
import Derived.Test.YtdejmleboflopaaGreatChecked
import Derived.Test.YtdejmleboflopaaGreatSY20
import Derived.Laws.Externs
set_option linter.unusedVariables false
set_option linter.unusedSimpArgs false
namespace Go.Proofs.YtdejmleboflopaaGreat
open Go.RowKit
namespace Sy
open Go.RowKit

def sub64E : Array Value → Sem Value := fun args => do
  let (x, y, b) ← Extern.MathBitsCarry.three "Sub64" args
  pure (Extern.MathBitsCarry.pair ((x + Extern.MathBitsCarry.m64 - y - b) % Extern.MathBitsCarry.m64) (if x < y + b then 1 else 0))
theorem run_sub64E {P : Program} (x y b : Nat) (hb : b ≤ 1) (w : World) :
    (sub64E #[.int .u64 x, .int .u64 y, .int .u64 b]).run P w = .ok (carryV true x y b) w := by
  have e : carryV true x y b = .tuple #[.int .u64 (((x + 18446744073709551616 - y - b) % 18446744073709551616 : Nat) : Int), .int .u64 ((if x < y + b then 1 else 0 : Nat) : Int)] := by
    unfold carryV
    show Value.tuple #[_, .int .u64 (.ofNat (bi (Nat.ble (Nat.succ x) (Nat.add y b)) 1 0))] = _
    by_cases h : x < y + b
    · rw [if_pos h, show Nat.ble (Nat.succ x) (Nat.add y b) = true from Nat.ble_eq_true_of_le h]; rfl
    · rw [if_neg h, show Nat.ble (Nat.succ x) (Nat.add y b) = false from Bool.eq_false_iff.2 (fun e => h (Nat.le_of_ble_eq_true e))]; rfl
  rw [e]
  have : b = 0 ∨ b = 1 := by omega
  rcases this with rfl | rfl <;> rfl
theorem run_add64E {P : Program} (x y b : Nat) (hb : b ≤ 1) (w : World) :
    (add64Entry #[.int .u64 x, .int .u64 y, .int .u64 b]).run P w = .ok (carryV false x y b) w := by
  rw [run_add64 x y b (by omega) (by omega) (by omega) (by omega)]
  have e : carryV false x y b = .tuple #[.int .u64 (((x + y + b) % 18446744073709551616 : Nat) : Int), .int .u64 (((x + y + b) / 18446744073709551616 : Nat) : Int)] := rfl
  rw [e]
  congr 4 <;> omega
end Sy
end Go.Proofs.YtdejmleboflopaaGreat
