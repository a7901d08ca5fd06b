/- The reference's GreatestNow of a right system: rounds of its loop. -/
import Derived.Test.YtdejmleboflopaaGreatPE
set_option linter.unusedVariables false
set_option linter.unusedSimpArgs false
namespace Go.Proofs.YtdejmleboflopaaGreat
open Go.RowKit
namespace Sy
open Go.RowKit

noncomputable def spR (N : Nat) : CallF := spOr (spP N) (spOr (spDivs 75 110 (volsP N)) (spDivs 76 111 (volsP N)))
/-- the draw that a round tries -/
def hDn : Value := b1 1 hDr (iP 1)
noncomputable def headR (N : Nat) (h : 1 ≤ N ∧ N ≤ 4) : St := headOf (stopAt (pgZ N h) 3 (evDS (pgZ N h) (spR N) 2000 60) 15 [sysW N, begW N] (hpS N) 2)
noncomputable def leftR (N : Nat) (h : 1 ≤ N ∧ N ≤ 4) : St := { headR N h with nid := (headR N h).nid + 500, tm := [(5, hP 31)] }
def hsR : List (Nat × Nat) := [(5, 30)]
noncomputable def rndR (N : Nat) (h : 1 ≤ N ∧ N ≤ 4) : St := { headR N h with tm := setHoles hsR (headR N h).tm }
section
variable (hole : Nat → Value)
theorem rgGo1 (ok) : goesOn (headR 1 ⟨by decide, by decide⟩) (leftR 1 ⟨by decide, by decide⟩) hsR [(5, hDn)] (evCL hkNone csNone (pgS hole (factsS 1 (goodF 1 hDn)) ok) (evDS (pgS hole (factsS 1 (goodF 1 hDn)) ok) (spR 1) 2000 60) 2000 (loopB Tryz.prog 15 3) (rndR 1 ⟨by decide, by decide⟩)) = true := by kernel_rfl
theorem rgFull1_0 (ok) : endsIt (headR 1 ⟨by decide, by decide⟩) (leftR 1 ⟨by decide, by decide⟩) hsR (.exit 0) [(5, hDr)] (evCL hkNone csNone (pgS hole (factsS 1 (fullAt hDn 0)) ok) (evDS (pgS hole (factsS 1 (fullAt hDn 0)) ok) (spR 1) 2000 60) 2000 (loopB Tryz.prog 15 3) (rndR 1 ⟨by decide, by decide⟩)) = true := by kernel_rfl
theorem rgShort1_0 (ok) : endsIt (headR 1 ⟨by decide, by decide⟩) (leftR 1 ⟨by decide, by decide⟩) hsR (.exit 0) [(5, hDr)] (evCL hkNone csNone (pgS hole (factsS 1 (shortAt 1 hDn 0)) ok) (evDS (pgS hole (factsS 1 (shortAt 1 hDn 0)) ok) (spR 1) 2000 60) 2000 (loopB Tryz.prog 15 3) (rndR 1 ⟨by decide, by decide⟩)) = true := by kernel_rfl
theorem rgRun1 (ok) : fstO (fnRun (pgS hole (sysF 1) ok) (isLoop 3) (csOne (headR 1 ⟨by decide, by decide⟩) (leftR 1 ⟨by decide, by decide⟩) (.exit 0)) (evDS (pgS hole (sysF 1) ok) (spR 1) 2000 60) 2000 15 [sysW 1, begW 1] (hpS 1) 2) = some (hP 31) := by kernel_rfl
theorem rgHead1 : (leftR 1 ⟨by decide, by decide⟩).df = [] ∧ (headR 1 ⟨by decide, by decide⟩).df = [] ∧ (headR 1 ⟨by decide, by decide⟩).nid ≤ (leftR 1 ⟨by decide, by decide⟩).nid := ⟨by kernel_rfl, by kernel_rfl, Nat.le_add_right _ _⟩
theorem rgClean1 : cleanS (headR 1 ⟨by decide, by decide⟩) hsR := ⟨by kernel_rfl, by kernel_rfl, by decide⟩
theorem rgInit1 : agt (headR 1 ⟨by decide, by decide⟩).tm 5 = some (iP (-1)) := by kernel_rfl
theorem rgKept1 : ((leftR 1 ⟨by decide, by decide⟩).tm.all fun x => kept (headR 1 ⟨by decide, by decide⟩).kp x.1) = true := by kernel_rfl
theorem rgGo2 (ok) : goesOn (headR 2 ⟨by decide, by decide⟩) (leftR 2 ⟨by decide, by decide⟩) hsR [(5, hDn)] (evCL hkNone csNone (pgS hole (factsS 2 (goodF 2 hDn)) ok) (evDS (pgS hole (factsS 2 (goodF 2 hDn)) ok) (spR 2) 2000 60) 2000 (loopB Tryz.prog 15 3) (rndR 2 ⟨by decide, by decide⟩)) = true := by kernel_rfl
theorem rgFull2_0 (ok) : endsIt (headR 2 ⟨by decide, by decide⟩) (leftR 2 ⟨by decide, by decide⟩) hsR (.exit 0) [(5, hDr)] (evCL hkNone csNone (pgS hole (factsS 2 (fullAt hDn 0)) ok) (evDS (pgS hole (factsS 2 (fullAt hDn 0)) ok) (spR 2) 2000 60) 2000 (loopB Tryz.prog 15 3) (rndR 2 ⟨by decide, by decide⟩)) = true := by kernel_rfl
theorem rgShort2_0 (ok) : endsIt (headR 2 ⟨by decide, by decide⟩) (leftR 2 ⟨by decide, by decide⟩) hsR (.exit 0) [(5, hDr)] (evCL hkNone csNone (pgS hole (factsS 2 (shortAt 2 hDn 0)) ok) (evDS (pgS hole (factsS 2 (shortAt 2 hDn 0)) ok) (spR 2) 2000 60) 2000 (loopB Tryz.prog 15 3) (rndR 2 ⟨by decide, by decide⟩)) = true := by kernel_rfl
theorem rgFull2_1 (ok) : endsIt (headR 2 ⟨by decide, by decide⟩) (leftR 2 ⟨by decide, by decide⟩) hsR (.exit 0) [(5, hDr)] (evCL hkNone csNone (pgS hole (factsS 2 (fullAt hDn 1)) ok) (evDS (pgS hole (factsS 2 (fullAt hDn 1)) ok) (spR 2) 2000 60) 2000 (loopB Tryz.prog 15 3) (rndR 2 ⟨by decide, by decide⟩)) = true := by kernel_rfl
theorem rgShort2_1 (ok) : endsIt (headR 2 ⟨by decide, by decide⟩) (leftR 2 ⟨by decide, by decide⟩) hsR (.exit 0) [(5, hDr)] (evCL hkNone csNone (pgS hole (factsS 2 (shortAt 2 hDn 1)) ok) (evDS (pgS hole (factsS 2 (shortAt 2 hDn 1)) ok) (spR 2) 2000 60) 2000 (loopB Tryz.prog 15 3) (rndR 2 ⟨by decide, by decide⟩)) = true := by kernel_rfl
theorem rgRun2 (ok) : fstO (fnRun (pgS hole (sysF 2) ok) (isLoop 3) (csOne (headR 2 ⟨by decide, by decide⟩) (leftR 2 ⟨by decide, by decide⟩) (.exit 0)) (evDS (pgS hole (sysF 2) ok) (spR 2) 2000 60) 2000 15 [sysW 2, begW 2] (hpS 2) 2) = some (hP 31) := by kernel_rfl
theorem rgHead2 : (leftR 2 ⟨by decide, by decide⟩).df = [] ∧ (headR 2 ⟨by decide, by decide⟩).df = [] ∧ (headR 2 ⟨by decide, by decide⟩).nid ≤ (leftR 2 ⟨by decide, by decide⟩).nid := ⟨by kernel_rfl, by kernel_rfl, Nat.le_add_right _ _⟩
theorem rgClean2 : cleanS (headR 2 ⟨by decide, by decide⟩) hsR := ⟨by kernel_rfl, by kernel_rfl, by decide⟩
theorem rgInit2 : agt (headR 2 ⟨by decide, by decide⟩).tm 5 = some (iP (-1)) := by kernel_rfl
theorem rgKept2 : ((leftR 2 ⟨by decide, by decide⟩).tm.all fun x => kept (headR 2 ⟨by decide, by decide⟩).kp x.1) = true := by kernel_rfl
theorem rgGo3 (ok) : goesOn (headR 3 ⟨by decide, by decide⟩) (leftR 3 ⟨by decide, by decide⟩) hsR [(5, hDn)] (evCL hkNone csNone (pgS hole (factsS 3 (goodF 3 hDn)) ok) (evDS (pgS hole (factsS 3 (goodF 3 hDn)) ok) (spR 3) 2000 60) 2000 (loopB Tryz.prog 15 3) (rndR 3 ⟨by decide, by decide⟩)) = true := by kernel_rfl
theorem rgFull3_0 (ok) : endsIt (headR 3 ⟨by decide, by decide⟩) (leftR 3 ⟨by decide, by decide⟩) hsR (.exit 0) [(5, hDr)] (evCL hkNone csNone (pgS hole (factsS 3 (fullAt hDn 0)) ok) (evDS (pgS hole (factsS 3 (fullAt hDn 0)) ok) (spR 3) 2000 60) 2000 (loopB Tryz.prog 15 3) (rndR 3 ⟨by decide, by decide⟩)) = true := by kernel_rfl
theorem rgShort3_0 (ok) : endsIt (headR 3 ⟨by decide, by decide⟩) (leftR 3 ⟨by decide, by decide⟩) hsR (.exit 0) [(5, hDr)] (evCL hkNone csNone (pgS hole (factsS 3 (shortAt 3 hDn 0)) ok) (evDS (pgS hole (factsS 3 (shortAt 3 hDn 0)) ok) (spR 3) 2000 60) 2000 (loopB Tryz.prog 15 3) (rndR 3 ⟨by decide, by decide⟩)) = true := by kernel_rfl
theorem rgFull3_1 (ok) : endsIt (headR 3 ⟨by decide, by decide⟩) (leftR 3 ⟨by decide, by decide⟩) hsR (.exit 0) [(5, hDr)] (evCL hkNone csNone (pgS hole (factsS 3 (fullAt hDn 1)) ok) (evDS (pgS hole (factsS 3 (fullAt hDn 1)) ok) (spR 3) 2000 60) 2000 (loopB Tryz.prog 15 3) (rndR 3 ⟨by decide, by decide⟩)) = true := by kernel_rfl
theorem rgShort3_1 (ok) : endsIt (headR 3 ⟨by decide, by decide⟩) (leftR 3 ⟨by decide, by decide⟩) hsR (.exit 0) [(5, hDr)] (evCL hkNone csNone (pgS hole (factsS 3 (shortAt 3 hDn 1)) ok) (evDS (pgS hole (factsS 3 (shortAt 3 hDn 1)) ok) (spR 3) 2000 60) 2000 (loopB Tryz.prog 15 3) (rndR 3 ⟨by decide, by decide⟩)) = true := by kernel_rfl
theorem rgFull3_2 (ok) : endsIt (headR 3 ⟨by decide, by decide⟩) (leftR 3 ⟨by decide, by decide⟩) hsR (.exit 0) [(5, hDr)] (evCL hkNone csNone (pgS hole (factsS 3 (fullAt hDn 2)) ok) (evDS (pgS hole (factsS 3 (fullAt hDn 2)) ok) (spR 3) 2000 60) 2000 (loopB Tryz.prog 15 3) (rndR 3 ⟨by decide, by decide⟩)) = true := by kernel_rfl
theorem rgShort3_2 (ok) : endsIt (headR 3 ⟨by decide, by decide⟩) (leftR 3 ⟨by decide, by decide⟩) hsR (.exit 0) [(5, hDr)] (evCL hkNone csNone (pgS hole (factsS 3 (shortAt 3 hDn 2)) ok) (evDS (pgS hole (factsS 3 (shortAt 3 hDn 2)) ok) (spR 3) 2000 60) 2000 (loopB Tryz.prog 15 3) (rndR 3 ⟨by decide, by decide⟩)) = true := by kernel_rfl
theorem rgRun3 (ok) : fstO (fnRun (pgS hole (sysF 3) ok) (isLoop 3) (csOne (headR 3 ⟨by decide, by decide⟩) (leftR 3 ⟨by decide, by decide⟩) (.exit 0)) (evDS (pgS hole (sysF 3) ok) (spR 3) 2000 60) 2000 15 [sysW 3, begW 3] (hpS 3) 2) = some (hP 31) := by kernel_rfl
theorem rgHead3 : (leftR 3 ⟨by decide, by decide⟩).df = [] ∧ (headR 3 ⟨by decide, by decide⟩).df = [] ∧ (headR 3 ⟨by decide, by decide⟩).nid ≤ (leftR 3 ⟨by decide, by decide⟩).nid := ⟨by kernel_rfl, by kernel_rfl, Nat.le_add_right _ _⟩
theorem rgClean3 : cleanS (headR 3 ⟨by decide, by decide⟩) hsR := ⟨by kernel_rfl, by kernel_rfl, by decide⟩
theorem rgInit3 : agt (headR 3 ⟨by decide, by decide⟩).tm 5 = some (iP (-1)) := by kernel_rfl
theorem rgKept3 : ((leftR 3 ⟨by decide, by decide⟩).tm.all fun x => kept (headR 3 ⟨by decide, by decide⟩).kp x.1) = true := by kernel_rfl
theorem rgGo4 (ok) : goesOn (headR 4 ⟨by decide, by decide⟩) (leftR 4 ⟨by decide, by decide⟩) hsR [(5, hDn)] (evCL hkNone csNone (pgS hole (factsS 4 (goodF 4 hDn)) ok) (evDS (pgS hole (factsS 4 (goodF 4 hDn)) ok) (spR 4) 2000 60) 2000 (loopB Tryz.prog 15 3) (rndR 4 ⟨by decide, by decide⟩)) = true := by kernel_rfl
theorem rgFull4_0 (ok) : endsIt (headR 4 ⟨by decide, by decide⟩) (leftR 4 ⟨by decide, by decide⟩) hsR (.exit 0) [(5, hDr)] (evCL hkNone csNone (pgS hole (factsS 4 (fullAt hDn 0)) ok) (evDS (pgS hole (factsS 4 (fullAt hDn 0)) ok) (spR 4) 2000 60) 2000 (loopB Tryz.prog 15 3) (rndR 4 ⟨by decide, by decide⟩)) = true := by kernel_rfl
theorem rgShort4_0 (ok) : endsIt (headR 4 ⟨by decide, by decide⟩) (leftR 4 ⟨by decide, by decide⟩) hsR (.exit 0) [(5, hDr)] (evCL hkNone csNone (pgS hole (factsS 4 (shortAt 4 hDn 0)) ok) (evDS (pgS hole (factsS 4 (shortAt 4 hDn 0)) ok) (spR 4) 2000 60) 2000 (loopB Tryz.prog 15 3) (rndR 4 ⟨by decide, by decide⟩)) = true := by kernel_rfl
theorem rgFull4_1 (ok) : endsIt (headR 4 ⟨by decide, by decide⟩) (leftR 4 ⟨by decide, by decide⟩) hsR (.exit 0) [(5, hDr)] (evCL hkNone csNone (pgS hole (factsS 4 (fullAt hDn 1)) ok) (evDS (pgS hole (factsS 4 (fullAt hDn 1)) ok) (spR 4) 2000 60) 2000 (loopB Tryz.prog 15 3) (rndR 4 ⟨by decide, by decide⟩)) = true := by kernel_rfl
theorem rgShort4_1 (ok) : endsIt (headR 4 ⟨by decide, by decide⟩) (leftR 4 ⟨by decide, by decide⟩) hsR (.exit 0) [(5, hDr)] (evCL hkNone csNone (pgS hole (factsS 4 (shortAt 4 hDn 1)) ok) (evDS (pgS hole (factsS 4 (shortAt 4 hDn 1)) ok) (spR 4) 2000 60) 2000 (loopB Tryz.prog 15 3) (rndR 4 ⟨by decide, by decide⟩)) = true := by kernel_rfl
theorem rgFull4_2 (ok) : endsIt (headR 4 ⟨by decide, by decide⟩) (leftR 4 ⟨by decide, by decide⟩) hsR (.exit 0) [(5, hDr)] (evCL hkNone csNone (pgS hole (factsS 4 (fullAt hDn 2)) ok) (evDS (pgS hole (factsS 4 (fullAt hDn 2)) ok) (spR 4) 2000 60) 2000 (loopB Tryz.prog 15 3) (rndR 4 ⟨by decide, by decide⟩)) = true := by kernel_rfl
theorem rgShort4_2 (ok) : endsIt (headR 4 ⟨by decide, by decide⟩) (leftR 4 ⟨by decide, by decide⟩) hsR (.exit 0) [(5, hDr)] (evCL hkNone csNone (pgS hole (factsS 4 (shortAt 4 hDn 2)) ok) (evDS (pgS hole (factsS 4 (shortAt 4 hDn 2)) ok) (spR 4) 2000 60) 2000 (loopB Tryz.prog 15 3) (rndR 4 ⟨by decide, by decide⟩)) = true := by kernel_rfl
theorem rgFull4_3 (ok) : endsIt (headR 4 ⟨by decide, by decide⟩) (leftR 4 ⟨by decide, by decide⟩) hsR (.exit 0) [(5, hDr)] (evCL hkNone csNone (pgS hole (factsS 4 (fullAt hDn 3)) ok) (evDS (pgS hole (factsS 4 (fullAt hDn 3)) ok) (spR 4) 2000 60) 2000 (loopB Tryz.prog 15 3) (rndR 4 ⟨by decide, by decide⟩)) = true := by kernel_rfl
theorem rgShort4_3 (ok) : endsIt (headR 4 ⟨by decide, by decide⟩) (leftR 4 ⟨by decide, by decide⟩) hsR (.exit 0) [(5, hDr)] (evCL hkNone csNone (pgS hole (factsS 4 (shortAt 4 hDn 3)) ok) (evDS (pgS hole (factsS 4 (shortAt 4 hDn 3)) ok) (spR 4) 2000 60) 2000 (loopB Tryz.prog 15 3) (rndR 4 ⟨by decide, by decide⟩)) = true := by kernel_rfl
theorem rgRun4 (ok) : fstO (fnRun (pgS hole (sysF 4) ok) (isLoop 3) (csOne (headR 4 ⟨by decide, by decide⟩) (leftR 4 ⟨by decide, by decide⟩) (.exit 0)) (evDS (pgS hole (sysF 4) ok) (spR 4) 2000 60) 2000 15 [sysW 4, begW 4] (hpS 4) 2) = some (hP 31) := by kernel_rfl
theorem rgHead4 : (leftR 4 ⟨by decide, by decide⟩).df = [] ∧ (headR 4 ⟨by decide, by decide⟩).df = [] ∧ (headR 4 ⟨by decide, by decide⟩).nid ≤ (leftR 4 ⟨by decide, by decide⟩).nid := ⟨by kernel_rfl, by kernel_rfl, Nat.le_add_right _ _⟩
theorem rgClean4 : cleanS (headR 4 ⟨by decide, by decide⟩) hsR := ⟨by kernel_rfl, by kernel_rfl, by decide⟩
theorem rgInit4 : agt (headR 4 ⟨by decide, by decide⟩).tm 5 = some (iP (-1)) := by kernel_rfl
theorem rgKept4 : ((leftR 4 ⟨by decide, by decide⟩).tm.all fun x => kept (headR 4 ⟨by decide, by decide⟩).kp x.1) = true := by kernel_rfl
end
theorem rgOne : ((loopsOf (bodyC Tryz.prog 15)).filter (isLoop 3)).length = 1 := by kernel_rfl
end Sy
end Go.Proofs.YtdejmleboflopaaGreat
