/- GreatestNow of a right system: the least draw that is too great, or with which a scale is short. -/
import Derived.Test.YtdejmleboflopaaGreatPC
set_option linter.unusedVariables false
set_option linter.unusedSimpArgs false
namespace Go.Proofs.YtdejmleboflopaaGreat
open Go.RowKit
namespace Sy
open Go.RowKit

/-! A system of which nothing hangs on its numbers, to lay the loop's head. -/
def nw0 : Int := 0
def sc0 (n : Nat) : Int := if n % 4 = 0 then 1 else 0
def bg0 (_ : Nat) : Int := 0
theorem sys0 {N : Nat} (h1 : 1 ≤ N) (h4 : N ≤ 4) : SysOk nw0 sc0 bg0 N := by
  refine ⟨h1, h4, by decide, by decide, ?_, ?_, ?_, ?_, ?_, ?_, ?_, ?_, ?_, ?_, ?_, ?_, ?_, ?_⟩ <;> intro i hi <;> simp only [sc0, bg0] <;> (try (have e0 : (4 * i + 0) % 4 = 0 := by omega)) <;> (try (have e1 : (4 * i + 1) % 4 = 1 := by omega)) <;> (try (have e2 : (4 * i + 2) % 4 = 2 := by omega)) <;> (try (have e3 : (4 * i + 3) % 4 = 3 := by omega)) <;> (try simp_all) <;> (try omega)
noncomputable def pgZ (N : Nat) (h : 1 ≤ N ∧ N ≤ 4) : Pg := pgS (holeS nw0 sc0 bg0 (fun _ => 0)) (sysF N) (okSys (sys0 h.1 h.2))
noncomputable def headN (N : Nat) (h : 1 ≤ N ∧ N ≤ 4) : St := headOf (stopAt (pgZ N h) 7 (evDS (pgZ N h) (spP N) 2000 60) 12 [sysW N, begW N] (hpS N) 2)
noncomputable def leftN (N : Nat) (h : 1 ≤ N ∧ N ≤ 4) : St := { headN N h with nid := (headN N h).nid + 500, tm := [(4, iP 0), (5, iP 0), (9, hP 31)] }
def hsN : List (Nat × Nat) := [(9, 30)]
noncomputable def rndN (N : Nat) (h : 1 ≤ N ∧ N ≤ 4) : St := { headN N h with tm := setHoles hsN (headN N h).tm }
def factsS (N : Nat) (l : List Fact) : List Fact := sysF N ++ l
section
variable (hole : Nat → Value)
theorem gnGo1 (ok) : goesOn (headN 1 ⟨by decide, by decide⟩) (leftN 1 ⟨by decide, by decide⟩) hsN [(9, b1 1 hDr (iP 1))] (evCL hkNone csNone (pgS hole (factsS 1 (goodF 1 hDr)) ok) (evDS (pgS hole (factsS 1 (goodF 1 hDr)) ok) (spP 1) 2000 60) 2000 (loopB Tryz.prog 12 7) (rndN 1 ⟨by decide, by decide⟩)) = true := by kernel_rfl
theorem gnFull1_0 (ok) : endsIt (headN 1 ⟨by decide, by decide⟩) (leftN 1 ⟨by decide, by decide⟩) hsN (.exit 0) [(9, hDr)] (evCL hkNone csNone (pgS hole (factsS 1 (fullAt hDr 0)) ok) (evDS (pgS hole (factsS 1 (fullAt hDr 0)) ok) (spP 1) 2000 60) 2000 (loopB Tryz.prog 12 7) (rndN 1 ⟨by decide, by decide⟩)) = true := by kernel_rfl
theorem gnShort1_0 (ok) : endsIt (headN 1 ⟨by decide, by decide⟩) (leftN 1 ⟨by decide, by decide⟩) hsN (.exit 0) [(9, hDr)] (evCL hkNone csNone (pgS hole (factsS 1 (shortAt 1 hDr 0)) ok) (evDS (pgS hole (factsS 1 (shortAt 1 hDr 0)) ok) (spP 1) 2000 60) 2000 (loopB Tryz.prog 12 7) (rndN 1 ⟨by decide, by decide⟩)) = true := by kernel_rfl
theorem gnRun1_true (ok) : fstO (fnRun (pgS hole (factsS 1 [(0, hP 31, iP 0, true)]) ok) (isLoop 7) (csOne (headN 1 ⟨by decide, by decide⟩) (leftN 1 ⟨by decide, by decide⟩) (.exit 0)) (evDS (pgS hole (factsS 1 [(0, hP 31, iP 0, true)]) ok) (spP 1) 2000 60) 2000 12 [sysW 1, begW 1] (hpS 1) 2) = some (.tuple #[iP 0, iP 12]) := by kernel_rfl
theorem gnRun1_false (ok) : fstO (fnRun (pgS hole (factsS 1 [(0, hP 31, iP 0, false)]) ok) (isLoop 7) (csOne (headN 1 ⟨by decide, by decide⟩) (leftN 1 ⟨by decide, by decide⟩) (.exit 0)) (evDS (pgS hole (factsS 1 [(0, hP 31, iP 0, false)]) ok) (spP 1) 2000 60) 2000 12 [sysW 1, begW 1] (hpS 1) 2) = some (.tuple #[b1 2 (hP 31) (iP 1), iP 0]) := by kernel_rfl
theorem gnHead1 : (leftN 1 ⟨by decide, by decide⟩).df = [] ∧ (headN 1 ⟨by decide, by decide⟩).df = [] ∧ (headN 1 ⟨by decide, by decide⟩).nid ≤ (leftN 1 ⟨by decide, by decide⟩).nid := ⟨by kernel_rfl, by kernel_rfl, Nat.le_add_right _ _⟩
theorem gnClean1 : cleanS (headN 1 ⟨by decide, by decide⟩) hsN := ⟨by kernel_rfl, by kernel_rfl, by decide⟩
theorem gnInit1 : agt (headN 1 ⟨by decide, by decide⟩).tm 9 = some (iP 0) := by kernel_rfl
theorem gnKept1 : ((leftN 1 ⟨by decide, by decide⟩).tm.all fun x => kept (headN 1 ⟨by decide, by decide⟩).kp x.1) = true := by kernel_rfl
theorem gnGo2 (ok) : goesOn (headN 2 ⟨by decide, by decide⟩) (leftN 2 ⟨by decide, by decide⟩) hsN [(9, b1 1 hDr (iP 1))] (evCL hkNone csNone (pgS hole (factsS 2 (goodF 2 hDr)) ok) (evDS (pgS hole (factsS 2 (goodF 2 hDr)) ok) (spP 2) 2000 60) 2000 (loopB Tryz.prog 12 7) (rndN 2 ⟨by decide, by decide⟩)) = true := by kernel_rfl
theorem gnFull2_0 (ok) : endsIt (headN 2 ⟨by decide, by decide⟩) (leftN 2 ⟨by decide, by decide⟩) hsN (.exit 0) [(9, hDr)] (evCL hkNone csNone (pgS hole (factsS 2 (fullAt hDr 0)) ok) (evDS (pgS hole (factsS 2 (fullAt hDr 0)) ok) (spP 2) 2000 60) 2000 (loopB Tryz.prog 12 7) (rndN 2 ⟨by decide, by decide⟩)) = true := by kernel_rfl
theorem gnShort2_0 (ok) : endsIt (headN 2 ⟨by decide, by decide⟩) (leftN 2 ⟨by decide, by decide⟩) hsN (.exit 0) [(9, hDr)] (evCL hkNone csNone (pgS hole (factsS 2 (shortAt 2 hDr 0)) ok) (evDS (pgS hole (factsS 2 (shortAt 2 hDr 0)) ok) (spP 2) 2000 60) 2000 (loopB Tryz.prog 12 7) (rndN 2 ⟨by decide, by decide⟩)) = true := by kernel_rfl
theorem gnFull2_1 (ok) : endsIt (headN 2 ⟨by decide, by decide⟩) (leftN 2 ⟨by decide, by decide⟩) hsN (.exit 0) [(9, hDr)] (evCL hkNone csNone (pgS hole (factsS 2 (fullAt hDr 1)) ok) (evDS (pgS hole (factsS 2 (fullAt hDr 1)) ok) (spP 2) 2000 60) 2000 (loopB Tryz.prog 12 7) (rndN 2 ⟨by decide, by decide⟩)) = true := by kernel_rfl
theorem gnShort2_1 (ok) : endsIt (headN 2 ⟨by decide, by decide⟩) (leftN 2 ⟨by decide, by decide⟩) hsN (.exit 0) [(9, hDr)] (evCL hkNone csNone (pgS hole (factsS 2 (shortAt 2 hDr 1)) ok) (evDS (pgS hole (factsS 2 (shortAt 2 hDr 1)) ok) (spP 2) 2000 60) 2000 (loopB Tryz.prog 12 7) (rndN 2 ⟨by decide, by decide⟩)) = true := by kernel_rfl
theorem gnRun2_true (ok) : fstO (fnRun (pgS hole (factsS 2 [(0, hP 31, iP 0, true)]) ok) (isLoop 7) (csOne (headN 2 ⟨by decide, by decide⟩) (leftN 2 ⟨by decide, by decide⟩) (.exit 0)) (evDS (pgS hole (factsS 2 [(0, hP 31, iP 0, true)]) ok) (spP 2) 2000 60) 2000 12 [sysW 2, begW 2] (hpS 2) 2) = some (.tuple #[iP 0, iP 12]) := by kernel_rfl
theorem gnRun2_false (ok) : fstO (fnRun (pgS hole (factsS 2 [(0, hP 31, iP 0, false)]) ok) (isLoop 7) (csOne (headN 2 ⟨by decide, by decide⟩) (leftN 2 ⟨by decide, by decide⟩) (.exit 0)) (evDS (pgS hole (factsS 2 [(0, hP 31, iP 0, false)]) ok) (spP 2) 2000 60) 2000 12 [sysW 2, begW 2] (hpS 2) 2) = some (.tuple #[b1 2 (hP 31) (iP 1), iP 0]) := by kernel_rfl
theorem gnHead2 : (leftN 2 ⟨by decide, by decide⟩).df = [] ∧ (headN 2 ⟨by decide, by decide⟩).df = [] ∧ (headN 2 ⟨by decide, by decide⟩).nid ≤ (leftN 2 ⟨by decide, by decide⟩).nid := ⟨by kernel_rfl, by kernel_rfl, Nat.le_add_right _ _⟩
theorem gnClean2 : cleanS (headN 2 ⟨by decide, by decide⟩) hsN := ⟨by kernel_rfl, by kernel_rfl, by decide⟩
theorem gnInit2 : agt (headN 2 ⟨by decide, by decide⟩).tm 9 = some (iP 0) := by kernel_rfl
theorem gnKept2 : ((leftN 2 ⟨by decide, by decide⟩).tm.all fun x => kept (headN 2 ⟨by decide, by decide⟩).kp x.1) = true := by kernel_rfl
theorem gnGo3 (ok) : goesOn (headN 3 ⟨by decide, by decide⟩) (leftN 3 ⟨by decide, by decide⟩) hsN [(9, b1 1 hDr (iP 1))] (evCL hkNone csNone (pgS hole (factsS 3 (goodF 3 hDr)) ok) (evDS (pgS hole (factsS 3 (goodF 3 hDr)) ok) (spP 3) 2000 60) 2000 (loopB Tryz.prog 12 7) (rndN 3 ⟨by decide, by decide⟩)) = true := by kernel_rfl
theorem gnFull3_0 (ok) : endsIt (headN 3 ⟨by decide, by decide⟩) (leftN 3 ⟨by decide, by decide⟩) hsN (.exit 0) [(9, hDr)] (evCL hkNone csNone (pgS hole (factsS 3 (fullAt hDr 0)) ok) (evDS (pgS hole (factsS 3 (fullAt hDr 0)) ok) (spP 3) 2000 60) 2000 (loopB Tryz.prog 12 7) (rndN 3 ⟨by decide, by decide⟩)) = true := by kernel_rfl
theorem gnShort3_0 (ok) : endsIt (headN 3 ⟨by decide, by decide⟩) (leftN 3 ⟨by decide, by decide⟩) hsN (.exit 0) [(9, hDr)] (evCL hkNone csNone (pgS hole (factsS 3 (shortAt 3 hDr 0)) ok) (evDS (pgS hole (factsS 3 (shortAt 3 hDr 0)) ok) (spP 3) 2000 60) 2000 (loopB Tryz.prog 12 7) (rndN 3 ⟨by decide, by decide⟩)) = true := by kernel_rfl
theorem gnFull3_1 (ok) : endsIt (headN 3 ⟨by decide, by decide⟩) (leftN 3 ⟨by decide, by decide⟩) hsN (.exit 0) [(9, hDr)] (evCL hkNone csNone (pgS hole (factsS 3 (fullAt hDr 1)) ok) (evDS (pgS hole (factsS 3 (fullAt hDr 1)) ok) (spP 3) 2000 60) 2000 (loopB Tryz.prog 12 7) (rndN 3 ⟨by decide, by decide⟩)) = true := by kernel_rfl
theorem gnShort3_1 (ok) : endsIt (headN 3 ⟨by decide, by decide⟩) (leftN 3 ⟨by decide, by decide⟩) hsN (.exit 0) [(9, hDr)] (evCL hkNone csNone (pgS hole (factsS 3 (shortAt 3 hDr 1)) ok) (evDS (pgS hole (factsS 3 (shortAt 3 hDr 1)) ok) (spP 3) 2000 60) 2000 (loopB Tryz.prog 12 7) (rndN 3 ⟨by decide, by decide⟩)) = true := by kernel_rfl
theorem gnFull3_2 (ok) : endsIt (headN 3 ⟨by decide, by decide⟩) (leftN 3 ⟨by decide, by decide⟩) hsN (.exit 0) [(9, hDr)] (evCL hkNone csNone (pgS hole (factsS 3 (fullAt hDr 2)) ok) (evDS (pgS hole (factsS 3 (fullAt hDr 2)) ok) (spP 3) 2000 60) 2000 (loopB Tryz.prog 12 7) (rndN 3 ⟨by decide, by decide⟩)) = true := by kernel_rfl
theorem gnShort3_2 (ok) : endsIt (headN 3 ⟨by decide, by decide⟩) (leftN 3 ⟨by decide, by decide⟩) hsN (.exit 0) [(9, hDr)] (evCL hkNone csNone (pgS hole (factsS 3 (shortAt 3 hDr 2)) ok) (evDS (pgS hole (factsS 3 (shortAt 3 hDr 2)) ok) (spP 3) 2000 60) 2000 (loopB Tryz.prog 12 7) (rndN 3 ⟨by decide, by decide⟩)) = true := by kernel_rfl
theorem gnRun3_true (ok) : fstO (fnRun (pgS hole (factsS 3 [(0, hP 31, iP 0, true)]) ok) (isLoop 7) (csOne (headN 3 ⟨by decide, by decide⟩) (leftN 3 ⟨by decide, by decide⟩) (.exit 0)) (evDS (pgS hole (factsS 3 [(0, hP 31, iP 0, true)]) ok) (spP 3) 2000 60) 2000 12 [sysW 3, begW 3] (hpS 3) 2) = some (.tuple #[iP 0, iP 12]) := by kernel_rfl
theorem gnRun3_false (ok) : fstO (fnRun (pgS hole (factsS 3 [(0, hP 31, iP 0, false)]) ok) (isLoop 7) (csOne (headN 3 ⟨by decide, by decide⟩) (leftN 3 ⟨by decide, by decide⟩) (.exit 0)) (evDS (pgS hole (factsS 3 [(0, hP 31, iP 0, false)]) ok) (spP 3) 2000 60) 2000 12 [sysW 3, begW 3] (hpS 3) 2) = some (.tuple #[b1 2 (hP 31) (iP 1), iP 0]) := by kernel_rfl
theorem gnHead3 : (leftN 3 ⟨by decide, by decide⟩).df = [] ∧ (headN 3 ⟨by decide, by decide⟩).df = [] ∧ (headN 3 ⟨by decide, by decide⟩).nid ≤ (leftN 3 ⟨by decide, by decide⟩).nid := ⟨by kernel_rfl, by kernel_rfl, Nat.le_add_right _ _⟩
theorem gnClean3 : cleanS (headN 3 ⟨by decide, by decide⟩) hsN := ⟨by kernel_rfl, by kernel_rfl, by decide⟩
theorem gnInit3 : agt (headN 3 ⟨by decide, by decide⟩).tm 9 = some (iP 0) := by kernel_rfl
theorem gnKept3 : ((leftN 3 ⟨by decide, by decide⟩).tm.all fun x => kept (headN 3 ⟨by decide, by decide⟩).kp x.1) = true := by kernel_rfl
theorem gnGo4 (ok) : goesOn (headN 4 ⟨by decide, by decide⟩) (leftN 4 ⟨by decide, by decide⟩) hsN [(9, b1 1 hDr (iP 1))] (evCL hkNone csNone (pgS hole (factsS 4 (goodF 4 hDr)) ok) (evDS (pgS hole (factsS 4 (goodF 4 hDr)) ok) (spP 4) 2000 60) 2000 (loopB Tryz.prog 12 7) (rndN 4 ⟨by decide, by decide⟩)) = true := by kernel_rfl
theorem gnFull4_0 (ok) : endsIt (headN 4 ⟨by decide, by decide⟩) (leftN 4 ⟨by decide, by decide⟩) hsN (.exit 0) [(9, hDr)] (evCL hkNone csNone (pgS hole (factsS 4 (fullAt hDr 0)) ok) (evDS (pgS hole (factsS 4 (fullAt hDr 0)) ok) (spP 4) 2000 60) 2000 (loopB Tryz.prog 12 7) (rndN 4 ⟨by decide, by decide⟩)) = true := by kernel_rfl
theorem gnShort4_0 (ok) : endsIt (headN 4 ⟨by decide, by decide⟩) (leftN 4 ⟨by decide, by decide⟩) hsN (.exit 0) [(9, hDr)] (evCL hkNone csNone (pgS hole (factsS 4 (shortAt 4 hDr 0)) ok) (evDS (pgS hole (factsS 4 (shortAt 4 hDr 0)) ok) (spP 4) 2000 60) 2000 (loopB Tryz.prog 12 7) (rndN 4 ⟨by decide, by decide⟩)) = true := by kernel_rfl
theorem gnFull4_1 (ok) : endsIt (headN 4 ⟨by decide, by decide⟩) (leftN 4 ⟨by decide, by decide⟩) hsN (.exit 0) [(9, hDr)] (evCL hkNone csNone (pgS hole (factsS 4 (fullAt hDr 1)) ok) (evDS (pgS hole (factsS 4 (fullAt hDr 1)) ok) (spP 4) 2000 60) 2000 (loopB Tryz.prog 12 7) (rndN 4 ⟨by decide, by decide⟩)) = true := by kernel_rfl
theorem gnShort4_1 (ok) : endsIt (headN 4 ⟨by decide, by decide⟩) (leftN 4 ⟨by decide, by decide⟩) hsN (.exit 0) [(9, hDr)] (evCL hkNone csNone (pgS hole (factsS 4 (shortAt 4 hDr 1)) ok) (evDS (pgS hole (factsS 4 (shortAt 4 hDr 1)) ok) (spP 4) 2000 60) 2000 (loopB Tryz.prog 12 7) (rndN 4 ⟨by decide, by decide⟩)) = true := by kernel_rfl
theorem gnFull4_2 (ok) : endsIt (headN 4 ⟨by decide, by decide⟩) (leftN 4 ⟨by decide, by decide⟩) hsN (.exit 0) [(9, hDr)] (evCL hkNone csNone (pgS hole (factsS 4 (fullAt hDr 2)) ok) (evDS (pgS hole (factsS 4 (fullAt hDr 2)) ok) (spP 4) 2000 60) 2000 (loopB Tryz.prog 12 7) (rndN 4 ⟨by decide, by decide⟩)) = true := by kernel_rfl
theorem gnShort4_2 (ok) : endsIt (headN 4 ⟨by decide, by decide⟩) (leftN 4 ⟨by decide, by decide⟩) hsN (.exit 0) [(9, hDr)] (evCL hkNone csNone (pgS hole (factsS 4 (shortAt 4 hDr 2)) ok) (evDS (pgS hole (factsS 4 (shortAt 4 hDr 2)) ok) (spP 4) 2000 60) 2000 (loopB Tryz.prog 12 7) (rndN 4 ⟨by decide, by decide⟩)) = true := by kernel_rfl
theorem gnFull4_3 (ok) : endsIt (headN 4 ⟨by decide, by decide⟩) (leftN 4 ⟨by decide, by decide⟩) hsN (.exit 0) [(9, hDr)] (evCL hkNone csNone (pgS hole (factsS 4 (fullAt hDr 3)) ok) (evDS (pgS hole (factsS 4 (fullAt hDr 3)) ok) (spP 4) 2000 60) 2000 (loopB Tryz.prog 12 7) (rndN 4 ⟨by decide, by decide⟩)) = true := by kernel_rfl
theorem gnShort4_3 (ok) : endsIt (headN 4 ⟨by decide, by decide⟩) (leftN 4 ⟨by decide, by decide⟩) hsN (.exit 0) [(9, hDr)] (evCL hkNone csNone (pgS hole (factsS 4 (shortAt 4 hDr 3)) ok) (evDS (pgS hole (factsS 4 (shortAt 4 hDr 3)) ok) (spP 4) 2000 60) 2000 (loopB Tryz.prog 12 7) (rndN 4 ⟨by decide, by decide⟩)) = true := by kernel_rfl
theorem gnRun4_true (ok) : fstO (fnRun (pgS hole (factsS 4 [(0, hP 31, iP 0, true)]) ok) (isLoop 7) (csOne (headN 4 ⟨by decide, by decide⟩) (leftN 4 ⟨by decide, by decide⟩) (.exit 0)) (evDS (pgS hole (factsS 4 [(0, hP 31, iP 0, true)]) ok) (spP 4) 2000 60) 2000 12 [sysW 4, begW 4] (hpS 4) 2) = some (.tuple #[iP 0, iP 12]) := by kernel_rfl
theorem gnRun4_false (ok) : fstO (fnRun (pgS hole (factsS 4 [(0, hP 31, iP 0, false)]) ok) (isLoop 7) (csOne (headN 4 ⟨by decide, by decide⟩) (leftN 4 ⟨by decide, by decide⟩) (.exit 0)) (evDS (pgS hole (factsS 4 [(0, hP 31, iP 0, false)]) ok) (spP 4) 2000 60) 2000 12 [sysW 4, begW 4] (hpS 4) 2) = some (.tuple #[b1 2 (hP 31) (iP 1), iP 0]) := by kernel_rfl
theorem gnHead4 : (leftN 4 ⟨by decide, by decide⟩).df = [] ∧ (headN 4 ⟨by decide, by decide⟩).df = [] ∧ (headN 4 ⟨by decide, by decide⟩).nid ≤ (leftN 4 ⟨by decide, by decide⟩).nid := ⟨by kernel_rfl, by kernel_rfl, Nat.le_add_right _ _⟩
theorem gnClean4 : cleanS (headN 4 ⟨by decide, by decide⟩) hsN := ⟨by kernel_rfl, by kernel_rfl, by decide⟩
theorem gnInit4 : agt (headN 4 ⟨by decide, by decide⟩).tm 9 = some (iP 0) := by kernel_rfl
theorem gnKept4 : ((leftN 4 ⟨by decide, by decide⟩).tm.all fun x => kept (headN 4 ⟨by decide, by decide⟩).kp x.1) = true := by kernel_rfl
end
theorem gnOne : ((loopsOf (bodyC Tryz.prog 12)).filter (isLoop 7)).length = 1 := by kernel_rfl
end Sy
end Go.Proofs.YtdejmleboflopaaGreat
