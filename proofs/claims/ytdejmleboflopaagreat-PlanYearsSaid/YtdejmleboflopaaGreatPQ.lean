/- What is wrong with ages: runs. -/
import Derived.Test.YtdejmleboflopaaGreatPN
import Derived.Test.YtdejmleboflopaaGreatPG
set_option linter.unusedVariables false
set_option linter.unusedSimpArgs false
namespace Go.Proofs.YtdejmleboflopaaGreat
open Go.RowKit
namespace Sy
open Go.RowKit

def agC (j : Nat) : Int := if j = 4 then 9 else 2
def agE (N : Nat) : List Fact := (List.range N).map fun i => (0, bgT i, iP 0, true)
def agP (i : Nat) : List Fact := (List.range i).flatMap bgG
def gLen (N : Nat) : List Fact := [(0, hLb, iP N, false)]
section
variable (hole : Nat → Value)
theorem aeLen1 (ok) : fstO (evDS (pgS hole (gLen 1) ok) spCk 2000 60 (.fn 34) ([sysW 1, begH]) (hpE 1) 1) = some (iP 10) := by kernel_rfl
theorem reLen1 (ok) : fstO (evDS (pgS hole (gLen 1) ok) spNone 2000 60 (.fn 14) ([sysW 1, begH]) (hpE 1) 1) = some (iP 10) := by kernel_rfl
theorem aeOk1 (ok) : fstO (evDS (pgS hole (agE 1) ok) spCk 2000 60 (.fn 34) ([sysW 1, begW 1]) (hpS 1) 2) = some (iP 0) := by kernel_rfl
theorem reOk1 (ok) : fstO (evDS (pgS hole (agP 1) ok) spNone 2000 60 (.fn 14) ([sysW 1, begW 1]) (hpS 1) 2) = some (iP 0) := by kernel_rfl
theorem ae1_0 (ok) : fstO (evDS (pgS hole (eE [] (agE 1) 0) ok) spCk 2000 60 (.fn 34) ([sysW 1, begW 1]) (hpS 1) 2) = some (bgT 0) := by kernel_rfl
theorem re1_0_0 (ok) : fstO (evDS (pgS hole (eE (agP 0) (bgG 0) 0) ok) spNone 2000 60 (.fn 14) ([sysW 1, begW 1]) (hpS 1) 2) = some (iP (agC 0)) := by kernel_rfl
theorem re1_0_1 (ok) : fstO (evDS (pgS hole (eE (agP 0) (bgG 0) 1) ok) spNone 2000 60 (.fn 14) ([sysW 1, begW 1]) (hpS 1) 2) = some (iP (agC 1)) := by kernel_rfl
theorem re1_0_2 (ok) : fstO (evDS (pgS hole (eE (agP 0) (bgG 0) 2) ok) spNone 2000 60 (.fn 14) ([sysW 1, begW 1]) (hpS 1) 2) = some (iP (agC 2)) := by kernel_rfl
theorem re1_0_3 (ok) : fstO (evDS (pgS hole (eE (agP 0) (bgG 0) 3) ok) spNone 2000 60 (.fn 14) ([sysW 1, begW 1]) (hpS 1) 2) = some (iP (agC 3)) := by kernel_rfl
theorem re1_0_4 (ok) : fstO (evDS (pgS hole (eE (agP 0) (bgG 0) 4) ok) spNone 2000 60 (.fn 14) ([sysW 1, begW 1]) (hpS 1) 2) = some (iP (agC 4)) := by kernel_rfl
theorem aeLen2 (ok) : fstO (evDS (pgS hole (gLen 2) ok) spCk 2000 60 (.fn 34) ([sysW 2, begH]) (hpE 2) 1) = some (iP 10) := by kernel_rfl
theorem reLen2 (ok) : fstO (evDS (pgS hole (gLen 2) ok) spNone 2000 60 (.fn 14) ([sysW 2, begH]) (hpE 2) 1) = some (iP 10) := by kernel_rfl
theorem aeOk2 (ok) : fstO (evDS (pgS hole (agE 2) ok) spCk 2000 60 (.fn 34) ([sysW 2, begW 2]) (hpS 2) 2) = some (iP 0) := by kernel_rfl
theorem reOk2 (ok) : fstO (evDS (pgS hole (agP 2) ok) spNone 2000 60 (.fn 14) ([sysW 2, begW 2]) (hpS 2) 2) = some (iP 0) := by kernel_rfl
theorem ae2_0 (ok) : fstO (evDS (pgS hole (eE [] (agE 2) 0) ok) spCk 2000 60 (.fn 34) ([sysW 2, begW 2]) (hpS 2) 2) = some (bgT 0) := by kernel_rfl
theorem re2_0_0 (ok) : fstO (evDS (pgS hole (eE (agP 0) (bgG 0) 0) ok) spNone 2000 60 (.fn 14) ([sysW 2, begW 2]) (hpS 2) 2) = some (iP (agC 0)) := by kernel_rfl
theorem re2_0_1 (ok) : fstO (evDS (pgS hole (eE (agP 0) (bgG 0) 1) ok) spNone 2000 60 (.fn 14) ([sysW 2, begW 2]) (hpS 2) 2) = some (iP (agC 1)) := by kernel_rfl
theorem re2_0_2 (ok) : fstO (evDS (pgS hole (eE (agP 0) (bgG 0) 2) ok) spNone 2000 60 (.fn 14) ([sysW 2, begW 2]) (hpS 2) 2) = some (iP (agC 2)) := by kernel_rfl
theorem re2_0_3 (ok) : fstO (evDS (pgS hole (eE (agP 0) (bgG 0) 3) ok) spNone 2000 60 (.fn 14) ([sysW 2, begW 2]) (hpS 2) 2) = some (iP (agC 3)) := by kernel_rfl
theorem re2_0_4 (ok) : fstO (evDS (pgS hole (eE (agP 0) (bgG 0) 4) ok) spNone 2000 60 (.fn 14) ([sysW 2, begW 2]) (hpS 2) 2) = some (iP (agC 4)) := by kernel_rfl
theorem ae2_1 (ok) : fstO (evDS (pgS hole (eE [] (agE 2) 1) ok) spCk 2000 60 (.fn 34) ([sysW 2, begW 2]) (hpS 2) 2) = some (bgT 1) := by kernel_rfl
theorem re2_1_0 (ok) : fstO (evDS (pgS hole (eE (agP 1) (bgG 1) 0) ok) spNone 2000 60 (.fn 14) ([sysW 2, begW 2]) (hpS 2) 2) = some (iP (agC 0)) := by kernel_rfl
theorem re2_1_1 (ok) : fstO (evDS (pgS hole (eE (agP 1) (bgG 1) 1) ok) spNone 2000 60 (.fn 14) ([sysW 2, begW 2]) (hpS 2) 2) = some (iP (agC 1)) := by kernel_rfl
theorem re2_1_2 (ok) : fstO (evDS (pgS hole (eE (agP 1) (bgG 1) 2) ok) spNone 2000 60 (.fn 14) ([sysW 2, begW 2]) (hpS 2) 2) = some (iP (agC 2)) := by kernel_rfl
theorem re2_1_3 (ok) : fstO (evDS (pgS hole (eE (agP 1) (bgG 1) 3) ok) spNone 2000 60 (.fn 14) ([sysW 2, begW 2]) (hpS 2) 2) = some (iP (agC 3)) := by kernel_rfl
theorem re2_1_4 (ok) : fstO (evDS (pgS hole (eE (agP 1) (bgG 1) 4) ok) spNone 2000 60 (.fn 14) ([sysW 2, begW 2]) (hpS 2) 2) = some (iP (agC 4)) := by kernel_rfl
theorem aeLen3 (ok) : fstO (evDS (pgS hole (gLen 3) ok) spCk 2000 60 (.fn 34) ([sysW 3, begH]) (hpE 3) 1) = some (iP 10) := by kernel_rfl
theorem reLen3 (ok) : fstO (evDS (pgS hole (gLen 3) ok) spNone 2000 60 (.fn 14) ([sysW 3, begH]) (hpE 3) 1) = some (iP 10) := by kernel_rfl
theorem aeOk3 (ok) : fstO (evDS (pgS hole (agE 3) ok) spCk 2000 60 (.fn 34) ([sysW 3, begW 3]) (hpS 3) 2) = some (iP 0) := by kernel_rfl
theorem reOk3 (ok) : fstO (evDS (pgS hole (agP 3) ok) spNone 2000 60 (.fn 14) ([sysW 3, begW 3]) (hpS 3) 2) = some (iP 0) := by kernel_rfl
theorem ae3_0 (ok) : fstO (evDS (pgS hole (eE [] (agE 3) 0) ok) spCk 2000 60 (.fn 34) ([sysW 3, begW 3]) (hpS 3) 2) = some (bgT 0) := by kernel_rfl
theorem re3_0_0 (ok) : fstO (evDS (pgS hole (eE (agP 0) (bgG 0) 0) ok) spNone 2000 60 (.fn 14) ([sysW 3, begW 3]) (hpS 3) 2) = some (iP (agC 0)) := by kernel_rfl
theorem re3_0_1 (ok) : fstO (evDS (pgS hole (eE (agP 0) (bgG 0) 1) ok) spNone 2000 60 (.fn 14) ([sysW 3, begW 3]) (hpS 3) 2) = some (iP (agC 1)) := by kernel_rfl
theorem re3_0_2 (ok) : fstO (evDS (pgS hole (eE (agP 0) (bgG 0) 2) ok) spNone 2000 60 (.fn 14) ([sysW 3, begW 3]) (hpS 3) 2) = some (iP (agC 2)) := by kernel_rfl
theorem re3_0_3 (ok) : fstO (evDS (pgS hole (eE (agP 0) (bgG 0) 3) ok) spNone 2000 60 (.fn 14) ([sysW 3, begW 3]) (hpS 3) 2) = some (iP (agC 3)) := by kernel_rfl
theorem re3_0_4 (ok) : fstO (evDS (pgS hole (eE (agP 0) (bgG 0) 4) ok) spNone 2000 60 (.fn 14) ([sysW 3, begW 3]) (hpS 3) 2) = some (iP (agC 4)) := by kernel_rfl
theorem ae3_1 (ok) : fstO (evDS (pgS hole (eE [] (agE 3) 1) ok) spCk 2000 60 (.fn 34) ([sysW 3, begW 3]) (hpS 3) 2) = some (bgT 1) := by kernel_rfl
theorem re3_1_0 (ok) : fstO (evDS (pgS hole (eE (agP 1) (bgG 1) 0) ok) spNone 2000 60 (.fn 14) ([sysW 3, begW 3]) (hpS 3) 2) = some (iP (agC 0)) := by kernel_rfl
theorem re3_1_1 (ok) : fstO (evDS (pgS hole (eE (agP 1) (bgG 1) 1) ok) spNone 2000 60 (.fn 14) ([sysW 3, begW 3]) (hpS 3) 2) = some (iP (agC 1)) := by kernel_rfl
theorem re3_1_2 (ok) : fstO (evDS (pgS hole (eE (agP 1) (bgG 1) 2) ok) spNone 2000 60 (.fn 14) ([sysW 3, begW 3]) (hpS 3) 2) = some (iP (agC 2)) := by kernel_rfl
theorem re3_1_3 (ok) : fstO (evDS (pgS hole (eE (agP 1) (bgG 1) 3) ok) spNone 2000 60 (.fn 14) ([sysW 3, begW 3]) (hpS 3) 2) = some (iP (agC 3)) := by kernel_rfl
theorem re3_1_4 (ok) : fstO (evDS (pgS hole (eE (agP 1) (bgG 1) 4) ok) spNone 2000 60 (.fn 14) ([sysW 3, begW 3]) (hpS 3) 2) = some (iP (agC 4)) := by kernel_rfl
theorem ae3_2 (ok) : fstO (evDS (pgS hole (eE [] (agE 3) 2) ok) spCk 2000 60 (.fn 34) ([sysW 3, begW 3]) (hpS 3) 2) = some (bgT 2) := by kernel_rfl
theorem re3_2_0 (ok) : fstO (evDS (pgS hole (eE (agP 2) (bgG 2) 0) ok) spNone 2000 60 (.fn 14) ([sysW 3, begW 3]) (hpS 3) 2) = some (iP (agC 0)) := by kernel_rfl
theorem re3_2_1 (ok) : fstO (evDS (pgS hole (eE (agP 2) (bgG 2) 1) ok) spNone 2000 60 (.fn 14) ([sysW 3, begW 3]) (hpS 3) 2) = some (iP (agC 1)) := by kernel_rfl
theorem re3_2_2 (ok) : fstO (evDS (pgS hole (eE (agP 2) (bgG 2) 2) ok) spNone 2000 60 (.fn 14) ([sysW 3, begW 3]) (hpS 3) 2) = some (iP (agC 2)) := by kernel_rfl
theorem re3_2_3 (ok) : fstO (evDS (pgS hole (eE (agP 2) (bgG 2) 3) ok) spNone 2000 60 (.fn 14) ([sysW 3, begW 3]) (hpS 3) 2) = some (iP (agC 3)) := by kernel_rfl
theorem re3_2_4 (ok) : fstO (evDS (pgS hole (eE (agP 2) (bgG 2) 4) ok) spNone 2000 60 (.fn 14) ([sysW 3, begW 3]) (hpS 3) 2) = some (iP (agC 4)) := by kernel_rfl
theorem aeLen4 (ok) : fstO (evDS (pgS hole (gLen 4) ok) spCk 2000 60 (.fn 34) ([sysW 4, begH]) (hpE 4) 1) = some (iP 10) := by kernel_rfl
theorem reLen4 (ok) : fstO (evDS (pgS hole (gLen 4) ok) spNone 2000 60 (.fn 14) ([sysW 4, begH]) (hpE 4) 1) = some (iP 10) := by kernel_rfl
theorem aeOk4 (ok) : fstO (evDS (pgS hole (agE 4) ok) spCk 2000 60 (.fn 34) ([sysW 4, begW 4]) (hpS 4) 2) = some (iP 0) := by kernel_rfl
theorem reOk4 (ok) : fstO (evDS (pgS hole (agP 4) ok) spNone 2000 60 (.fn 14) ([sysW 4, begW 4]) (hpS 4) 2) = some (iP 0) := by kernel_rfl
theorem ae4_0 (ok) : fstO (evDS (pgS hole (eE [] (agE 4) 0) ok) spCk 2000 60 (.fn 34) ([sysW 4, begW 4]) (hpS 4) 2) = some (bgT 0) := by kernel_rfl
theorem re4_0_0 (ok) : fstO (evDS (pgS hole (eE (agP 0) (bgG 0) 0) ok) spNone 2000 60 (.fn 14) ([sysW 4, begW 4]) (hpS 4) 2) = some (iP (agC 0)) := by kernel_rfl
theorem re4_0_1 (ok) : fstO (evDS (pgS hole (eE (agP 0) (bgG 0) 1) ok) spNone 2000 60 (.fn 14) ([sysW 4, begW 4]) (hpS 4) 2) = some (iP (agC 1)) := by kernel_rfl
theorem re4_0_2 (ok) : fstO (evDS (pgS hole (eE (agP 0) (bgG 0) 2) ok) spNone 2000 60 (.fn 14) ([sysW 4, begW 4]) (hpS 4) 2) = some (iP (agC 2)) := by kernel_rfl
theorem re4_0_3 (ok) : fstO (evDS (pgS hole (eE (agP 0) (bgG 0) 3) ok) spNone 2000 60 (.fn 14) ([sysW 4, begW 4]) (hpS 4) 2) = some (iP (agC 3)) := by kernel_rfl
theorem re4_0_4 (ok) : fstO (evDS (pgS hole (eE (agP 0) (bgG 0) 4) ok) spNone 2000 60 (.fn 14) ([sysW 4, begW 4]) (hpS 4) 2) = some (iP (agC 4)) := by kernel_rfl
theorem ae4_1 (ok) : fstO (evDS (pgS hole (eE [] (agE 4) 1) ok) spCk 2000 60 (.fn 34) ([sysW 4, begW 4]) (hpS 4) 2) = some (bgT 1) := by kernel_rfl
theorem re4_1_0 (ok) : fstO (evDS (pgS hole (eE (agP 1) (bgG 1) 0) ok) spNone 2000 60 (.fn 14) ([sysW 4, begW 4]) (hpS 4) 2) = some (iP (agC 0)) := by kernel_rfl
theorem re4_1_1 (ok) : fstO (evDS (pgS hole (eE (agP 1) (bgG 1) 1) ok) spNone 2000 60 (.fn 14) ([sysW 4, begW 4]) (hpS 4) 2) = some (iP (agC 1)) := by kernel_rfl
theorem re4_1_2 (ok) : fstO (evDS (pgS hole (eE (agP 1) (bgG 1) 2) ok) spNone 2000 60 (.fn 14) ([sysW 4, begW 4]) (hpS 4) 2) = some (iP (agC 2)) := by kernel_rfl
theorem re4_1_3 (ok) : fstO (evDS (pgS hole (eE (agP 1) (bgG 1) 3) ok) spNone 2000 60 (.fn 14) ([sysW 4, begW 4]) (hpS 4) 2) = some (iP (agC 3)) := by kernel_rfl
theorem re4_1_4 (ok) : fstO (evDS (pgS hole (eE (agP 1) (bgG 1) 4) ok) spNone 2000 60 (.fn 14) ([sysW 4, begW 4]) (hpS 4) 2) = some (iP (agC 4)) := by kernel_rfl
theorem ae4_2 (ok) : fstO (evDS (pgS hole (eE [] (agE 4) 2) ok) spCk 2000 60 (.fn 34) ([sysW 4, begW 4]) (hpS 4) 2) = some (bgT 2) := by kernel_rfl
theorem re4_2_0 (ok) : fstO (evDS (pgS hole (eE (agP 2) (bgG 2) 0) ok) spNone 2000 60 (.fn 14) ([sysW 4, begW 4]) (hpS 4) 2) = some (iP (agC 0)) := by kernel_rfl
theorem re4_2_1 (ok) : fstO (evDS (pgS hole (eE (agP 2) (bgG 2) 1) ok) spNone 2000 60 (.fn 14) ([sysW 4, begW 4]) (hpS 4) 2) = some (iP (agC 1)) := by kernel_rfl
theorem re4_2_2 (ok) : fstO (evDS (pgS hole (eE (agP 2) (bgG 2) 2) ok) spNone 2000 60 (.fn 14) ([sysW 4, begW 4]) (hpS 4) 2) = some (iP (agC 2)) := by kernel_rfl
theorem re4_2_3 (ok) : fstO (evDS (pgS hole (eE (agP 2) (bgG 2) 3) ok) spNone 2000 60 (.fn 14) ([sysW 4, begW 4]) (hpS 4) 2) = some (iP (agC 3)) := by kernel_rfl
theorem re4_2_4 (ok) : fstO (evDS (pgS hole (eE (agP 2) (bgG 2) 4) ok) spNone 2000 60 (.fn 14) ([sysW 4, begW 4]) (hpS 4) 2) = some (iP (agC 4)) := by kernel_rfl
theorem ae4_3 (ok) : fstO (evDS (pgS hole (eE [] (agE 4) 3) ok) spCk 2000 60 (.fn 34) ([sysW 4, begW 4]) (hpS 4) 2) = some (bgT 3) := by kernel_rfl
theorem re4_3_0 (ok) : fstO (evDS (pgS hole (eE (agP 3) (bgG 3) 0) ok) spNone 2000 60 (.fn 14) ([sysW 4, begW 4]) (hpS 4) 2) = some (iP (agC 0)) := by kernel_rfl
theorem re4_3_1 (ok) : fstO (evDS (pgS hole (eE (agP 3) (bgG 3) 1) ok) spNone 2000 60 (.fn 14) ([sysW 4, begW 4]) (hpS 4) 2) = some (iP (agC 1)) := by kernel_rfl
theorem re4_3_2 (ok) : fstO (evDS (pgS hole (eE (agP 3) (bgG 3) 2) ok) spNone 2000 60 (.fn 14) ([sysW 4, begW 4]) (hpS 4) 2) = some (iP (agC 2)) := by kernel_rfl
theorem re4_3_3 (ok) : fstO (evDS (pgS hole (eE (agP 3) (bgG 3) 3) ok) spNone 2000 60 (.fn 14) ([sysW 4, begW 4]) (hpS 4) 2) = some (iP (agC 3)) := by kernel_rfl
theorem re4_3_4 (ok) : fstO (evDS (pgS hole (eE (agP 3) (bgG 3) 4) ok) spNone 2000 60 (.fn 14) ([sysW 4, begW 4]) (hpS 4) 2) = some (iP (agC 4)) := by kernel_rfl
end
end Sy
end Go.Proofs.YtdejmleboflopaaGreat
