/- The reference's CheckCask, reckoned: a run for each comparison that fails first. -/
import Derived.Test.YtpfhfphcmomfdaaSD
set_option linter.unusedVariables false
set_option linter.unusedSimpArgs false
namespace Go.Proofs.Ytpfhfphcmomfdaa
open Go.RowKit
namespace Sy
open Go.RowKit

/-- IsName of the name that is not told -/
noncomputable def spName (f : Nat) (c : Bool) : CallF := fun t args hp nid =>
  match t with
  | .fn g => ck (Nat.beq g f && Nat.beq args.length 1) (ob args[0]? fun v => ck (isName0 v) (some (.bool c, hp, nid)))
  | .yield _ => none
def winV (N : Nat) : Value := .agg #[hName, hBung, .iface 91 (.tuple #[.int .i64 0, .int .i64 (.ofNat N)])]
def hpW (N : Nat) : T AObj := .node .leaf (some (.win (rowV N))) .leaf
/-- the value, and the window behind the call -/
noncomputable def fstW (o : Option (Value × T AObj × Nat)) : Option (Value × Option AObj) := o.map fun r => (r.1, r.2.1.get 0)
def rcR (i e : Int) : Value := .tuple #[.int .i64 i, .int .i64 e]
def rcG0 : List Fact := [(2, .int .i64 10, hBung, true), (2, hBung, .int .i64 800, true)]
def rcF0_0 : List Fact := rcG0.take 0 ++ [(2, .int .i64 10, hBung, false)]
def rcF0_1 : List Fact := rcG0.take 1 ++ [(2, hBung, .int .i64 800, false)]
def rcG1 : List Fact := [(2, .int .i64 10, hBung, true), (2, hBung, .int .i64 800, true)]
def rcF1_0 : List Fact := rcG1.take 0 ++ [(2, .int .i64 10, hBung, false)]
def rcF1_1 : List Fact := rcG1.take 1 ++ [(2, hBung, .int .i64 800, false)]
def rcG2 : List Fact := [(2, .int .i64 10, hBung, true), (2, hBung, .int .i64 800, true), (2, .int .i64 0, (hSt 0 0), true), (2, (hSt 0 0), .int .i64 3000, true), (2, .int .i64 10, (hSt 0 1), true), (2, (hSt 0 1), hBung, true), (2, .int .i64 10, (hSt 0 2), true), (2, (hSt 0 2), hBung, true), (1, (hSt 0 2), (hSt 0 1), false), (2, .int .i64 0, (hSt 1 0), true), (2, (hSt 1 0), .int .i64 3000, true), (2, .int .i64 10, (hSt 1 1), true), (2, (hSt 1 1), hBung, true), (2, .int .i64 10, (hSt 1 2), true), (2, (hSt 1 2), hBung, true), (1, (hSt 1 2), (hSt 1 1), false), (2, (hSt 1 0), (hSt 0 0), false)]
def rcF2_0 : List Fact := rcG2.take 0 ++ [(2, .int .i64 10, hBung, false)]
def rcF2_1 : List Fact := rcG2.take 1 ++ [(2, hBung, .int .i64 800, false)]
def rcF2_2 : List Fact := rcG2.take 2 ++ [(2, .int .i64 0, (hSt 0 0), false)]
def rcF2_3 : List Fact := rcG2.take 3 ++ [(2, (hSt 0 0), .int .i64 3000, false)]
def rcF2_4 : List Fact := rcG2.take 4 ++ [(2, .int .i64 10, (hSt 0 1), false)]
def rcF2_5 : List Fact := rcG2.take 5 ++ [(2, (hSt 0 1), hBung, false)]
def rcF2_6 : List Fact := rcG2.take 6 ++ [(2, .int .i64 10, (hSt 0 2), false)]
def rcF2_7 : List Fact := rcG2.take 7 ++ [(2, (hSt 0 2), hBung, false)]
def rcF2_8 : List Fact := rcG2.take 8 ++ [(1, (hSt 0 2), (hSt 0 1), true)]
def rcF2_9 : List Fact := rcG2.take 9 ++ [(2, .int .i64 0, (hSt 1 0), false)]
def rcF2_10 : List Fact := rcG2.take 10 ++ [(2, (hSt 1 0), .int .i64 3000, false)]
def rcF2_11 : List Fact := rcG2.take 11 ++ [(2, .int .i64 10, (hSt 1 1), false)]
def rcF2_12 : List Fact := rcG2.take 12 ++ [(2, (hSt 1 1), hBung, false)]
def rcF2_13 : List Fact := rcG2.take 13 ++ [(2, .int .i64 10, (hSt 1 2), false)]
def rcF2_14 : List Fact := rcG2.take 14 ++ [(2, (hSt 1 2), hBung, false)]
def rcF2_15 : List Fact := rcG2.take 15 ++ [(1, (hSt 1 2), (hSt 1 1), true)]
def rcF2_16 : List Fact := rcG2.take 16 ++ [(2, (hSt 1 0), (hSt 0 0), true)]
def rcG3 : List Fact := [(2, .int .i64 10, hBung, true), (2, hBung, .int .i64 800, true), (2, .int .i64 0, (hSt 0 0), true), (2, (hSt 0 0), .int .i64 3000, true), (2, .int .i64 10, (hSt 0 1), true), (2, (hSt 0 1), hBung, true), (2, .int .i64 10, (hSt 0 2), true), (2, (hSt 0 2), hBung, true), (1, (hSt 0 2), (hSt 0 1), false), (2, .int .i64 0, (hSt 1 0), true), (2, (hSt 1 0), .int .i64 3000, true), (2, .int .i64 10, (hSt 1 1), true), (2, (hSt 1 1), hBung, true), (2, .int .i64 10, (hSt 1 2), true), (2, (hSt 1 2), hBung, true), (1, (hSt 1 2), (hSt 1 1), false), (2, (hSt 1 0), (hSt 0 0), false), (2, .int .i64 0, (hSt 2 0), true), (2, (hSt 2 0), .int .i64 3000, true), (2, .int .i64 10, (hSt 2 1), true), (2, (hSt 2 1), hBung, true), (2, .int .i64 10, (hSt 2 2), true), (2, (hSt 2 2), hBung, true), (1, (hSt 2 2), (hSt 2 1), false), (2, (hSt 2 0), (hSt 1 0), false)]
def rcF3_0 : List Fact := rcG3.take 0 ++ [(2, .int .i64 10, hBung, false)]
def rcF3_1 : List Fact := rcG3.take 1 ++ [(2, hBung, .int .i64 800, false)]
def rcF3_2 : List Fact := rcG3.take 2 ++ [(2, .int .i64 0, (hSt 0 0), false)]
def rcF3_3 : List Fact := rcG3.take 3 ++ [(2, (hSt 0 0), .int .i64 3000, false)]
def rcF3_4 : List Fact := rcG3.take 4 ++ [(2, .int .i64 10, (hSt 0 1), false)]
def rcF3_5 : List Fact := rcG3.take 5 ++ [(2, (hSt 0 1), hBung, false)]
def rcF3_6 : List Fact := rcG3.take 6 ++ [(2, .int .i64 10, (hSt 0 2), false)]
def rcF3_7 : List Fact := rcG3.take 7 ++ [(2, (hSt 0 2), hBung, false)]
def rcF3_8 : List Fact := rcG3.take 8 ++ [(1, (hSt 0 2), (hSt 0 1), true)]
def rcF3_9 : List Fact := rcG3.take 9 ++ [(2, .int .i64 0, (hSt 1 0), false)]
def rcF3_10 : List Fact := rcG3.take 10 ++ [(2, (hSt 1 0), .int .i64 3000, false)]
def rcF3_11 : List Fact := rcG3.take 11 ++ [(2, .int .i64 10, (hSt 1 1), false)]
def rcF3_12 : List Fact := rcG3.take 12 ++ [(2, (hSt 1 1), hBung, false)]
def rcF3_13 : List Fact := rcG3.take 13 ++ [(2, .int .i64 10, (hSt 1 2), false)]
def rcF3_14 : List Fact := rcG3.take 14 ++ [(2, (hSt 1 2), hBung, false)]
def rcF3_15 : List Fact := rcG3.take 15 ++ [(1, (hSt 1 2), (hSt 1 1), true)]
def rcF3_16 : List Fact := rcG3.take 16 ++ [(2, (hSt 1 0), (hSt 0 0), true)]
def rcF3_17 : List Fact := rcG3.take 17 ++ [(2, .int .i64 0, (hSt 2 0), false)]
def rcF3_18 : List Fact := rcG3.take 18 ++ [(2, (hSt 2 0), .int .i64 3000, false)]
def rcF3_19 : List Fact := rcG3.take 19 ++ [(2, .int .i64 10, (hSt 2 1), false)]
def rcF3_20 : List Fact := rcG3.take 20 ++ [(2, (hSt 2 1), hBung, false)]
def rcF3_21 : List Fact := rcG3.take 21 ++ [(2, .int .i64 10, (hSt 2 2), false)]
def rcF3_22 : List Fact := rcG3.take 22 ++ [(2, (hSt 2 2), hBung, false)]
def rcF3_23 : List Fact := rcG3.take 23 ++ [(1, (hSt 2 2), (hSt 2 1), true)]
def rcF3_24 : List Fact := rcG3.take 24 ++ [(2, (hSt 2 0), (hSt 1 0), true)]
def rcG4 : List Fact := [(2, .int .i64 10, hBung, true), (2, hBung, .int .i64 800, true), (2, .int .i64 0, (hSt 0 0), true), (2, (hSt 0 0), .int .i64 3000, true), (2, .int .i64 10, (hSt 0 1), true), (2, (hSt 0 1), hBung, true), (2, .int .i64 10, (hSt 0 2), true), (2, (hSt 0 2), hBung, true), (1, (hSt 0 2), (hSt 0 1), false), (2, .int .i64 0, (hSt 1 0), true), (2, (hSt 1 0), .int .i64 3000, true), (2, .int .i64 10, (hSt 1 1), true), (2, (hSt 1 1), hBung, true), (2, .int .i64 10, (hSt 1 2), true), (2, (hSt 1 2), hBung, true), (1, (hSt 1 2), (hSt 1 1), false), (2, (hSt 1 0), (hSt 0 0), false), (2, .int .i64 0, (hSt 2 0), true), (2, (hSt 2 0), .int .i64 3000, true), (2, .int .i64 10, (hSt 2 1), true), (2, (hSt 2 1), hBung, true), (2, .int .i64 10, (hSt 2 2), true), (2, (hSt 2 2), hBung, true), (1, (hSt 2 2), (hSt 2 1), false), (2, (hSt 2 0), (hSt 1 0), false), (2, .int .i64 0, (hSt 3 0), true), (2, (hSt 3 0), .int .i64 3000, true), (2, .int .i64 10, (hSt 3 1), true), (2, (hSt 3 1), hBung, true), (2, .int .i64 10, (hSt 3 2), true), (2, (hSt 3 2), hBung, true), (1, (hSt 3 2), (hSt 3 1), false), (2, (hSt 3 0), (hSt 2 0), false)]
def rcF4_0 : List Fact := rcG4.take 0 ++ [(2, .int .i64 10, hBung, false)]
def rcF4_1 : List Fact := rcG4.take 1 ++ [(2, hBung, .int .i64 800, false)]
def rcF4_2 : List Fact := rcG4.take 2 ++ [(2, .int .i64 0, (hSt 0 0), false)]
def rcF4_3 : List Fact := rcG4.take 3 ++ [(2, (hSt 0 0), .int .i64 3000, false)]
def rcF4_4 : List Fact := rcG4.take 4 ++ [(2, .int .i64 10, (hSt 0 1), false)]
def rcF4_5 : List Fact := rcG4.take 5 ++ [(2, (hSt 0 1), hBung, false)]
def rcF4_6 : List Fact := rcG4.take 6 ++ [(2, .int .i64 10, (hSt 0 2), false)]
def rcF4_7 : List Fact := rcG4.take 7 ++ [(2, (hSt 0 2), hBung, false)]
def rcF4_8 : List Fact := rcG4.take 8 ++ [(1, (hSt 0 2), (hSt 0 1), true)]
def rcF4_9 : List Fact := rcG4.take 9 ++ [(2, .int .i64 0, (hSt 1 0), false)]
def rcF4_10 : List Fact := rcG4.take 10 ++ [(2, (hSt 1 0), .int .i64 3000, false)]
def rcF4_11 : List Fact := rcG4.take 11 ++ [(2, .int .i64 10, (hSt 1 1), false)]
def rcF4_12 : List Fact := rcG4.take 12 ++ [(2, (hSt 1 1), hBung, false)]
def rcF4_13 : List Fact := rcG4.take 13 ++ [(2, .int .i64 10, (hSt 1 2), false)]
def rcF4_14 : List Fact := rcG4.take 14 ++ [(2, (hSt 1 2), hBung, false)]
def rcF4_15 : List Fact := rcG4.take 15 ++ [(1, (hSt 1 2), (hSt 1 1), true)]
def rcF4_16 : List Fact := rcG4.take 16 ++ [(2, (hSt 1 0), (hSt 0 0), true)]
def rcF4_17 : List Fact := rcG4.take 17 ++ [(2, .int .i64 0, (hSt 2 0), false)]
def rcF4_18 : List Fact := rcG4.take 18 ++ [(2, (hSt 2 0), .int .i64 3000, false)]
def rcF4_19 : List Fact := rcG4.take 19 ++ [(2, .int .i64 10, (hSt 2 1), false)]
def rcF4_20 : List Fact := rcG4.take 20 ++ [(2, (hSt 2 1), hBung, false)]
def rcF4_21 : List Fact := rcG4.take 21 ++ [(2, .int .i64 10, (hSt 2 2), false)]
def rcF4_22 : List Fact := rcG4.take 22 ++ [(2, (hSt 2 2), hBung, false)]
def rcF4_23 : List Fact := rcG4.take 23 ++ [(1, (hSt 2 2), (hSt 2 1), true)]
def rcF4_24 : List Fact := rcG4.take 24 ++ [(2, (hSt 2 0), (hSt 1 0), true)]
def rcF4_25 : List Fact := rcG4.take 25 ++ [(2, .int .i64 0, (hSt 3 0), false)]
def rcF4_26 : List Fact := rcG4.take 26 ++ [(2, (hSt 3 0), .int .i64 3000, false)]
def rcF4_27 : List Fact := rcG4.take 27 ++ [(2, .int .i64 10, (hSt 3 1), false)]
def rcF4_28 : List Fact := rcG4.take 28 ++ [(2, (hSt 3 1), hBung, false)]
def rcF4_29 : List Fact := rcG4.take 29 ++ [(2, .int .i64 10, (hSt 3 2), false)]
def rcF4_30 : List Fact := rcG4.take 30 ++ [(2, (hSt 3 2), hBung, false)]
def rcF4_31 : List Fact := rcG4.take 31 ++ [(1, (hSt 3 2), (hSt 3 1), true)]
def rcF4_32 : List Fact := rcG4.take 32 ++ [(2, (hSt 3 0), (hSt 2 0), true)]
def rcG13 : List Fact := [(2, .int .i64 10, hBung, true), (2, hBung, .int .i64 800, true)]
def rcF13_0 : List Fact := rcG13.take 0 ++ [(2, .int .i64 10, hBung, false)]
def rcF13_1 : List Fact := rcG13.take 1 ++ [(2, hBung, .int .i64 800, false)]
def rcG14 : List Fact := [(2, .int .i64 10, hBung, true), (2, hBung, .int .i64 800, true)]
def rcF14_0 : List Fact := rcG14.take 0 ++ [(2, .int .i64 10, hBung, false)]
def rcF14_1 : List Fact := rcG14.take 1 ++ [(2, hBung, .int .i64 800, false)]
section
variable (s : ByteArray) (bung dip : Int) (xs : List Int) (O : Obj → Prop)
theorem rcN0 (ok) : fstW (evDS (pgV s bung dip xs O [] ok) (spName 25 false) 2000 60 (.fn 18) [winV 0] (hpW 0) 1) = some (rcR 0 4, some (.win (rowV 0))) := by kernel_rfl
theorem rcR0_0 (ok) : fstW (evDS (pgV s bung dip xs O rcF0_0 ok) (spName 25 true) 2000 60 (.fn 18) [winV 0] (hpW 0) 1) = some (rcR 0 2, some (.win (rowV 0))) := by kernel_rfl
theorem rcR0_1 (ok) : fstW (evDS (pgV s bung dip xs O rcF0_1 ok) (spName 25 true) 2000 60 (.fn 18) [winV 0] (hpW 0) 1) = some (rcR 0 2, some (.win (rowV 0))) := by kernel_rfl
theorem rcR0 (ok) : fstW (evDS (pgV s bung dip xs O rcG0 ok) (spName 25 true) 2000 60 (.fn 18) [winV 0] (hpW 0) 1) = some (rcR 0 10, some (.win (rowV 0))) := by kernel_rfl
theorem rcN1 (ok) : fstW (evDS (pgV s bung dip xs O [] ok) (spName 25 false) 2000 60 (.fn 18) [winV 1] (hpW 1) 1) = some (rcR 0 4, some (.win (rowV 1))) := by kernel_rfl
theorem rcR1_0 (ok) : fstW (evDS (pgV s bung dip xs O rcF1_0 ok) (spName 25 true) 2000 60 (.fn 18) [winV 1] (hpW 1) 1) = some (rcR 0 2, some (.win (rowV 1))) := by kernel_rfl
theorem rcR1_1 (ok) : fstW (evDS (pgV s bung dip xs O rcF1_1 ok) (spName 25 true) 2000 60 (.fn 18) [winV 1] (hpW 1) 1) = some (rcR 0 2, some (.win (rowV 1))) := by kernel_rfl
theorem rcR1 (ok) : fstW (evDS (pgV s bung dip xs O rcG1 ok) (spName 25 true) 2000 60 (.fn 18) [winV 1] (hpW 1) 1) = some (rcR 0 10, some (.win (rowV 1))) := by kernel_rfl
theorem rcN2 (ok) : fstW (evDS (pgV s bung dip xs O [] ok) (spName 25 false) 2000 60 (.fn 18) [winV 2] (hpW 2) 1) = some (rcR 0 4, some (.win (rowV 2))) := by kernel_rfl
theorem rcR2_0 (ok) : fstW (evDS (pgV s bung dip xs O rcF2_0 ok) (spName 25 true) 2000 60 (.fn 18) [winV 2] (hpW 2) 1) = some (rcR 0 2, some (.win (rowV 2))) := by kernel_rfl
theorem rcR2_1 (ok) : fstW (evDS (pgV s bung dip xs O rcF2_1 ok) (spName 25 true) 2000 60 (.fn 18) [winV 2] (hpW 2) 1) = some (rcR 0 2, some (.win (rowV 2))) := by kernel_rfl
theorem rcR2_2 (ok) : fstW (evDS (pgV s bung dip xs O rcF2_2 ok) (spName 25 true) 2000 60 (.fn 18) [winV 2] (hpW 2) 1) = some (rcR 0 2, some (.win (rowV 2))) := by kernel_rfl
theorem rcR2_3 (ok) : fstW (evDS (pgV s bung dip xs O rcF2_3 ok) (spName 25 true) 2000 60 (.fn 18) [winV 2] (hpW 2) 1) = some (rcR 0 2, some (.win (rowV 2))) := by kernel_rfl
theorem rcR2_4 (ok) : fstW (evDS (pgV s bung dip xs O rcF2_4 ok) (spName 25 true) 2000 60 (.fn 18) [winV 2] (hpW 2) 1) = some (rcR 0 2, some (.win (rowV 2))) := by kernel_rfl
theorem rcR2_5 (ok) : fstW (evDS (pgV s bung dip xs O rcF2_5 ok) (spName 25 true) 2000 60 (.fn 18) [winV 2] (hpW 2) 1) = some (rcR 0 2, some (.win (rowV 2))) := by kernel_rfl
theorem rcR2_6 (ok) : fstW (evDS (pgV s bung dip xs O rcF2_6 ok) (spName 25 true) 2000 60 (.fn 18) [winV 2] (hpW 2) 1) = some (rcR 0 2, some (.win (rowV 2))) := by kernel_rfl
theorem rcR2_7 (ok) : fstW (evDS (pgV s bung dip xs O rcF2_7 ok) (spName 25 true) 2000 60 (.fn 18) [winV 2] (hpW 2) 1) = some (rcR 0 2, some (.win (rowV 2))) := by kernel_rfl
theorem rcR2_8 (ok) : fstW (evDS (pgV s bung dip xs O rcF2_8 ok) (spName 25 true) 2000 60 (.fn 18) [winV 2] (hpW 2) 1) = some (rcR 0 9, some (.win (rowV 2))) := by kernel_rfl
theorem rcR2_9 (ok) : fstW (evDS (pgV s bung dip xs O rcF2_9 ok) (spName 25 true) 2000 60 (.fn 18) [winV 2] (hpW 2) 1) = some (rcR 1 2, some (.win (rowV 2))) := by kernel_rfl
theorem rcR2_10 (ok) : fstW (evDS (pgV s bung dip xs O rcF2_10 ok) (spName 25 true) 2000 60 (.fn 18) [winV 2] (hpW 2) 1) = some (rcR 1 2, some (.win (rowV 2))) := by kernel_rfl
theorem rcR2_11 (ok) : fstW (evDS (pgV s bung dip xs O rcF2_11 ok) (spName 25 true) 2000 60 (.fn 18) [winV 2] (hpW 2) 1) = some (rcR 1 2, some (.win (rowV 2))) := by kernel_rfl
theorem rcR2_12 (ok) : fstW (evDS (pgV s bung dip xs O rcF2_12 ok) (spName 25 true) 2000 60 (.fn 18) [winV 2] (hpW 2) 1) = some (rcR 1 2, some (.win (rowV 2))) := by kernel_rfl
theorem rcR2_13 (ok) : fstW (evDS (pgV s bung dip xs O rcF2_13 ok) (spName 25 true) 2000 60 (.fn 18) [winV 2] (hpW 2) 1) = some (rcR 1 2, some (.win (rowV 2))) := by kernel_rfl
theorem rcR2_14 (ok) : fstW (evDS (pgV s bung dip xs O rcF2_14 ok) (spName 25 true) 2000 60 (.fn 18) [winV 2] (hpW 2) 1) = some (rcR 1 2, some (.win (rowV 2))) := by kernel_rfl
theorem rcR2_15 (ok) : fstW (evDS (pgV s bung dip xs O rcF2_15 ok) (spName 25 true) 2000 60 (.fn 18) [winV 2] (hpW 2) 1) = some (rcR 1 9, some (.win (rowV 2))) := by kernel_rfl
theorem rcR2_16 (ok) : fstW (evDS (pgV s bung dip xs O rcF2_16 ok) (spName 25 true) 2000 60 (.fn 18) [winV 2] (hpW 2) 1) = some (rcR 1 9, some (.win (rowV 2))) := by kernel_rfl
theorem rcR2 (ok) : fstW (evDS (pgV s bung dip xs O rcG2 ok) (spName 25 true) 2000 60 (.fn 18) [winV 2] (hpW 2) 1) = some (rcR 0 0, some (.win (rowV 2))) := by kernel_rfl
theorem rcN3 (ok) : fstW (evDS (pgV s bung dip xs O [] ok) (spName 25 false) 2000 60 (.fn 18) [winV 3] (hpW 3) 1) = some (rcR 0 4, some (.win (rowV 3))) := by kernel_rfl
theorem rcR3_0 (ok) : fstW (evDS (pgV s bung dip xs O rcF3_0 ok) (spName 25 true) 2000 60 (.fn 18) [winV 3] (hpW 3) 1) = some (rcR 0 2, some (.win (rowV 3))) := by kernel_rfl
theorem rcR3_1 (ok) : fstW (evDS (pgV s bung dip xs O rcF3_1 ok) (spName 25 true) 2000 60 (.fn 18) [winV 3] (hpW 3) 1) = some (rcR 0 2, some (.win (rowV 3))) := by kernel_rfl
theorem rcR3_2 (ok) : fstW (evDS (pgV s bung dip xs O rcF3_2 ok) (spName 25 true) 2000 60 (.fn 18) [winV 3] (hpW 3) 1) = some (rcR 0 2, some (.win (rowV 3))) := by kernel_rfl
theorem rcR3_3 (ok) : fstW (evDS (pgV s bung dip xs O rcF3_3 ok) (spName 25 true) 2000 60 (.fn 18) [winV 3] (hpW 3) 1) = some (rcR 0 2, some (.win (rowV 3))) := by kernel_rfl
theorem rcR3_4 (ok) : fstW (evDS (pgV s bung dip xs O rcF3_4 ok) (spName 25 true) 2000 60 (.fn 18) [winV 3] (hpW 3) 1) = some (rcR 0 2, some (.win (rowV 3))) := by kernel_rfl
theorem rcR3_5 (ok) : fstW (evDS (pgV s bung dip xs O rcF3_5 ok) (spName 25 true) 2000 60 (.fn 18) [winV 3] (hpW 3) 1) = some (rcR 0 2, some (.win (rowV 3))) := by kernel_rfl
theorem rcR3_6 (ok) : fstW (evDS (pgV s bung dip xs O rcF3_6 ok) (spName 25 true) 2000 60 (.fn 18) [winV 3] (hpW 3) 1) = some (rcR 0 2, some (.win (rowV 3))) := by kernel_rfl
theorem rcR3_7 (ok) : fstW (evDS (pgV s bung dip xs O rcF3_7 ok) (spName 25 true) 2000 60 (.fn 18) [winV 3] (hpW 3) 1) = some (rcR 0 2, some (.win (rowV 3))) := by kernel_rfl
theorem rcR3_8 (ok) : fstW (evDS (pgV s bung dip xs O rcF3_8 ok) (spName 25 true) 2000 60 (.fn 18) [winV 3] (hpW 3) 1) = some (rcR 0 9, some (.win (rowV 3))) := by kernel_rfl
theorem rcR3_9 (ok) : fstW (evDS (pgV s bung dip xs O rcF3_9 ok) (spName 25 true) 2000 60 (.fn 18) [winV 3] (hpW 3) 1) = some (rcR 1 2, some (.win (rowV 3))) := by kernel_rfl
theorem rcR3_10 (ok) : fstW (evDS (pgV s bung dip xs O rcF3_10 ok) (spName 25 true) 2000 60 (.fn 18) [winV 3] (hpW 3) 1) = some (rcR 1 2, some (.win (rowV 3))) := by kernel_rfl
theorem rcR3_11 (ok) : fstW (evDS (pgV s bung dip xs O rcF3_11 ok) (spName 25 true) 2000 60 (.fn 18) [winV 3] (hpW 3) 1) = some (rcR 1 2, some (.win (rowV 3))) := by kernel_rfl
theorem rcR3_12 (ok) : fstW (evDS (pgV s bung dip xs O rcF3_12 ok) (spName 25 true) 2000 60 (.fn 18) [winV 3] (hpW 3) 1) = some (rcR 1 2, some (.win (rowV 3))) := by kernel_rfl
theorem rcR3_13 (ok) : fstW (evDS (pgV s bung dip xs O rcF3_13 ok) (spName 25 true) 2000 60 (.fn 18) [winV 3] (hpW 3) 1) = some (rcR 1 2, some (.win (rowV 3))) := by kernel_rfl
theorem rcR3_14 (ok) : fstW (evDS (pgV s bung dip xs O rcF3_14 ok) (spName 25 true) 2000 60 (.fn 18) [winV 3] (hpW 3) 1) = some (rcR 1 2, some (.win (rowV 3))) := by kernel_rfl
theorem rcR3_15 (ok) : fstW (evDS (pgV s bung dip xs O rcF3_15 ok) (spName 25 true) 2000 60 (.fn 18) [winV 3] (hpW 3) 1) = some (rcR 1 9, some (.win (rowV 3))) := by kernel_rfl
theorem rcR3_16 (ok) : fstW (evDS (pgV s bung dip xs O rcF3_16 ok) (spName 25 true) 2000 60 (.fn 18) [winV 3] (hpW 3) 1) = some (rcR 1 9, some (.win (rowV 3))) := by kernel_rfl
theorem rcR3_17 (ok) : fstW (evDS (pgV s bung dip xs O rcF3_17 ok) (spName 25 true) 2000 60 (.fn 18) [winV 3] (hpW 3) 1) = some (rcR 2 2, some (.win (rowV 3))) := by kernel_rfl
theorem rcR3_18 (ok) : fstW (evDS (pgV s bung dip xs O rcF3_18 ok) (spName 25 true) 2000 60 (.fn 18) [winV 3] (hpW 3) 1) = some (rcR 2 2, some (.win (rowV 3))) := by kernel_rfl
theorem rcR3_19 (ok) : fstW (evDS (pgV s bung dip xs O rcF3_19 ok) (spName 25 true) 2000 60 (.fn 18) [winV 3] (hpW 3) 1) = some (rcR 2 2, some (.win (rowV 3))) := by kernel_rfl
theorem rcR3_20 (ok) : fstW (evDS (pgV s bung dip xs O rcF3_20 ok) (spName 25 true) 2000 60 (.fn 18) [winV 3] (hpW 3) 1) = some (rcR 2 2, some (.win (rowV 3))) := by kernel_rfl
theorem rcR3_21 (ok) : fstW (evDS (pgV s bung dip xs O rcF3_21 ok) (spName 25 true) 2000 60 (.fn 18) [winV 3] (hpW 3) 1) = some (rcR 2 2, some (.win (rowV 3))) := by kernel_rfl
theorem rcR3_22 (ok) : fstW (evDS (pgV s bung dip xs O rcF3_22 ok) (spName 25 true) 2000 60 (.fn 18) [winV 3] (hpW 3) 1) = some (rcR 2 2, some (.win (rowV 3))) := by kernel_rfl
theorem rcR3_23 (ok) : fstW (evDS (pgV s bung dip xs O rcF3_23 ok) (spName 25 true) 2000 60 (.fn 18) [winV 3] (hpW 3) 1) = some (rcR 2 9, some (.win (rowV 3))) := by kernel_rfl
theorem rcR3_24 (ok) : fstW (evDS (pgV s bung dip xs O rcF3_24 ok) (spName 25 true) 2000 60 (.fn 18) [winV 3] (hpW 3) 1) = some (rcR 2 9, some (.win (rowV 3))) := by kernel_rfl
theorem rcR3 (ok) : fstW (evDS (pgV s bung dip xs O rcG3 ok) (spName 25 true) 2000 60 (.fn 18) [winV 3] (hpW 3) 1) = some (rcR 0 0, some (.win (rowV 3))) := by kernel_rfl
theorem rcN4 (ok) : fstW (evDS (pgV s bung dip xs O [] ok) (spName 25 false) 2000 60 (.fn 18) [winV 4] (hpW 4) 1) = some (rcR 0 4, some (.win (rowV 4))) := by kernel_rfl
theorem rcR4_0 (ok) : fstW (evDS (pgV s bung dip xs O rcF4_0 ok) (spName 25 true) 2000 60 (.fn 18) [winV 4] (hpW 4) 1) = some (rcR 0 2, some (.win (rowV 4))) := by kernel_rfl
theorem rcR4_1 (ok) : fstW (evDS (pgV s bung dip xs O rcF4_1 ok) (spName 25 true) 2000 60 (.fn 18) [winV 4] (hpW 4) 1) = some (rcR 0 2, some (.win (rowV 4))) := by kernel_rfl
theorem rcR4_2 (ok) : fstW (evDS (pgV s bung dip xs O rcF4_2 ok) (spName 25 true) 2000 60 (.fn 18) [winV 4] (hpW 4) 1) = some (rcR 0 2, some (.win (rowV 4))) := by kernel_rfl
theorem rcR4_3 (ok) : fstW (evDS (pgV s bung dip xs O rcF4_3 ok) (spName 25 true) 2000 60 (.fn 18) [winV 4] (hpW 4) 1) = some (rcR 0 2, some (.win (rowV 4))) := by kernel_rfl
theorem rcR4_4 (ok) : fstW (evDS (pgV s bung dip xs O rcF4_4 ok) (spName 25 true) 2000 60 (.fn 18) [winV 4] (hpW 4) 1) = some (rcR 0 2, some (.win (rowV 4))) := by kernel_rfl
theorem rcR4_5 (ok) : fstW (evDS (pgV s bung dip xs O rcF4_5 ok) (spName 25 true) 2000 60 (.fn 18) [winV 4] (hpW 4) 1) = some (rcR 0 2, some (.win (rowV 4))) := by kernel_rfl
theorem rcR4_6 (ok) : fstW (evDS (pgV s bung dip xs O rcF4_6 ok) (spName 25 true) 2000 60 (.fn 18) [winV 4] (hpW 4) 1) = some (rcR 0 2, some (.win (rowV 4))) := by kernel_rfl
theorem rcR4_7 (ok) : fstW (evDS (pgV s bung dip xs O rcF4_7 ok) (spName 25 true) 2000 60 (.fn 18) [winV 4] (hpW 4) 1) = some (rcR 0 2, some (.win (rowV 4))) := by kernel_rfl
theorem rcR4_8 (ok) : fstW (evDS (pgV s bung dip xs O rcF4_8 ok) (spName 25 true) 2000 60 (.fn 18) [winV 4] (hpW 4) 1) = some (rcR 0 9, some (.win (rowV 4))) := by kernel_rfl
theorem rcR4_9 (ok) : fstW (evDS (pgV s bung dip xs O rcF4_9 ok) (spName 25 true) 2000 60 (.fn 18) [winV 4] (hpW 4) 1) = some (rcR 1 2, some (.win (rowV 4))) := by kernel_rfl
theorem rcR4_10 (ok) : fstW (evDS (pgV s bung dip xs O rcF4_10 ok) (spName 25 true) 2000 60 (.fn 18) [winV 4] (hpW 4) 1) = some (rcR 1 2, some (.win (rowV 4))) := by kernel_rfl
theorem rcR4_11 (ok) : fstW (evDS (pgV s bung dip xs O rcF4_11 ok) (spName 25 true) 2000 60 (.fn 18) [winV 4] (hpW 4) 1) = some (rcR 1 2, some (.win (rowV 4))) := by kernel_rfl
theorem rcR4_12 (ok) : fstW (evDS (pgV s bung dip xs O rcF4_12 ok) (spName 25 true) 2000 60 (.fn 18) [winV 4] (hpW 4) 1) = some (rcR 1 2, some (.win (rowV 4))) := by kernel_rfl
theorem rcR4_13 (ok) : fstW (evDS (pgV s bung dip xs O rcF4_13 ok) (spName 25 true) 2000 60 (.fn 18) [winV 4] (hpW 4) 1) = some (rcR 1 2, some (.win (rowV 4))) := by kernel_rfl
theorem rcR4_14 (ok) : fstW (evDS (pgV s bung dip xs O rcF4_14 ok) (spName 25 true) 2000 60 (.fn 18) [winV 4] (hpW 4) 1) = some (rcR 1 2, some (.win (rowV 4))) := by kernel_rfl
theorem rcR4_15 (ok) : fstW (evDS (pgV s bung dip xs O rcF4_15 ok) (spName 25 true) 2000 60 (.fn 18) [winV 4] (hpW 4) 1) = some (rcR 1 9, some (.win (rowV 4))) := by kernel_rfl
theorem rcR4_16 (ok) : fstW (evDS (pgV s bung dip xs O rcF4_16 ok) (spName 25 true) 2000 60 (.fn 18) [winV 4] (hpW 4) 1) = some (rcR 1 9, some (.win (rowV 4))) := by kernel_rfl
theorem rcR4_17 (ok) : fstW (evDS (pgV s bung dip xs O rcF4_17 ok) (spName 25 true) 2000 60 (.fn 18) [winV 4] (hpW 4) 1) = some (rcR 2 2, some (.win (rowV 4))) := by kernel_rfl
theorem rcR4_18 (ok) : fstW (evDS (pgV s bung dip xs O rcF4_18 ok) (spName 25 true) 2000 60 (.fn 18) [winV 4] (hpW 4) 1) = some (rcR 2 2, some (.win (rowV 4))) := by kernel_rfl
theorem rcR4_19 (ok) : fstW (evDS (pgV s bung dip xs O rcF4_19 ok) (spName 25 true) 2000 60 (.fn 18) [winV 4] (hpW 4) 1) = some (rcR 2 2, some (.win (rowV 4))) := by kernel_rfl
theorem rcR4_20 (ok) : fstW (evDS (pgV s bung dip xs O rcF4_20 ok) (spName 25 true) 2000 60 (.fn 18) [winV 4] (hpW 4) 1) = some (rcR 2 2, some (.win (rowV 4))) := by kernel_rfl
theorem rcR4_21 (ok) : fstW (evDS (pgV s bung dip xs O rcF4_21 ok) (spName 25 true) 2000 60 (.fn 18) [winV 4] (hpW 4) 1) = some (rcR 2 2, some (.win (rowV 4))) := by kernel_rfl
theorem rcR4_22 (ok) : fstW (evDS (pgV s bung dip xs O rcF4_22 ok) (spName 25 true) 2000 60 (.fn 18) [winV 4] (hpW 4) 1) = some (rcR 2 2, some (.win (rowV 4))) := by kernel_rfl
theorem rcR4_23 (ok) : fstW (evDS (pgV s bung dip xs O rcF4_23 ok) (spName 25 true) 2000 60 (.fn 18) [winV 4] (hpW 4) 1) = some (rcR 2 9, some (.win (rowV 4))) := by kernel_rfl
theorem rcR4_24 (ok) : fstW (evDS (pgV s bung dip xs O rcF4_24 ok) (spName 25 true) 2000 60 (.fn 18) [winV 4] (hpW 4) 1) = some (rcR 2 9, some (.win (rowV 4))) := by kernel_rfl
theorem rcR4_25 (ok) : fstW (evDS (pgV s bung dip xs O rcF4_25 ok) (spName 25 true) 2000 60 (.fn 18) [winV 4] (hpW 4) 1) = some (rcR 3 2, some (.win (rowV 4))) := by kernel_rfl
theorem rcR4_26 (ok) : fstW (evDS (pgV s bung dip xs O rcF4_26 ok) (spName 25 true) 2000 60 (.fn 18) [winV 4] (hpW 4) 1) = some (rcR 3 2, some (.win (rowV 4))) := by kernel_rfl
theorem rcR4_27 (ok) : fstW (evDS (pgV s bung dip xs O rcF4_27 ok) (spName 25 true) 2000 60 (.fn 18) [winV 4] (hpW 4) 1) = some (rcR 3 2, some (.win (rowV 4))) := by kernel_rfl
theorem rcR4_28 (ok) : fstW (evDS (pgV s bung dip xs O rcF4_28 ok) (spName 25 true) 2000 60 (.fn 18) [winV 4] (hpW 4) 1) = some (rcR 3 2, some (.win (rowV 4))) := by kernel_rfl
theorem rcR4_29 (ok) : fstW (evDS (pgV s bung dip xs O rcF4_29 ok) (spName 25 true) 2000 60 (.fn 18) [winV 4] (hpW 4) 1) = some (rcR 3 2, some (.win (rowV 4))) := by kernel_rfl
theorem rcR4_30 (ok) : fstW (evDS (pgV s bung dip xs O rcF4_30 ok) (spName 25 true) 2000 60 (.fn 18) [winV 4] (hpW 4) 1) = some (rcR 3 2, some (.win (rowV 4))) := by kernel_rfl
theorem rcR4_31 (ok) : fstW (evDS (pgV s bung dip xs O rcF4_31 ok) (spName 25 true) 2000 60 (.fn 18) [winV 4] (hpW 4) 1) = some (rcR 3 9, some (.win (rowV 4))) := by kernel_rfl
theorem rcR4_32 (ok) : fstW (evDS (pgV s bung dip xs O rcF4_32 ok) (spName 25 true) 2000 60 (.fn 18) [winV 4] (hpW 4) 1) = some (rcR 3 9, some (.win (rowV 4))) := by kernel_rfl
theorem rcR4 (ok) : fstW (evDS (pgV s bung dip xs O rcG4 ok) (spName 25 true) 2000 60 (.fn 18) [winV 4] (hpW 4) 1) = some (rcR 0 0, some (.win (rowV 4))) := by kernel_rfl
theorem rcN13 (ok) : fstW (evDS (pgV s bung dip xs O [] ok) (spName 25 false) 2000 60 (.fn 18) [winV 13] (hpW 13) 1) = some (rcR 0 4, some (.win (rowV 13))) := by kernel_rfl
theorem rcR13_0 (ok) : fstW (evDS (pgV s bung dip xs O rcF13_0 ok) (spName 25 true) 2000 60 (.fn 18) [winV 13] (hpW 13) 1) = some (rcR 0 2, some (.win (rowV 13))) := by kernel_rfl
theorem rcR13_1 (ok) : fstW (evDS (pgV s bung dip xs O rcF13_1 ok) (spName 25 true) 2000 60 (.fn 18) [winV 13] (hpW 13) 1) = some (rcR 0 2, some (.win (rowV 13))) := by kernel_rfl
theorem rcR13 (ok) : fstW (evDS (pgV s bung dip xs O rcG13 ok) (spName 25 true) 2000 60 (.fn 18) [winV 13] (hpW 13) 1) = some (rcR 0 8, some (.win (rowV 13))) := by kernel_rfl
theorem rcN14 (ok) : fstW (evDS (pgV s bung dip xs O [] ok) (spName 25 false) 2000 60 (.fn 18) [winV 14] (hpW 14) 1) = some (rcR 0 4, some (.win (rowV 14))) := by kernel_rfl
theorem rcR14_0 (ok) : fstW (evDS (pgV s bung dip xs O rcF14_0 ok) (spName 25 true) 2000 60 (.fn 18) [winV 14] (hpW 14) 1) = some (rcR 0 2, some (.win (rowV 14))) := by kernel_rfl
theorem rcR14_1 (ok) : fstW (evDS (pgV s bung dip xs O rcF14_1 ok) (spName 25 true) 2000 60 (.fn 18) [winV 14] (hpW 14) 1) = some (rcR 0 2, some (.win (rowV 14))) := by kernel_rfl
theorem rcR14 (ok) : fstW (evDS (pgV s bung dip xs O rcG14 ok) (spName 25 true) 2000 60 (.fn 18) [winV 14] (hpW 14) 1) = some (rcR 0 8, some (.win (rowV 14))) := by kernel_rfl
end
end Sy
end Go.Proofs.Ytpfhfphcmomfdaa
