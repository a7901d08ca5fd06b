/- A year, by patterns: runs. -/
import Derived.Test.YtdejmleboflopaaGreatYA
set_option linter.unusedVariables false
set_option linter.unusedSimpArgs false
namespace Go.Proofs.YtdejmleboflopaaGreat
open Go.RowKit
namespace Sy
open Go.RowKit

def pS (N : Nat) : Pt := .a (.win (rowS N)) (iP N) hNew
def pB (N : Nat) : Pt := .s (.win (rowB N)) (iP N)
def pF (N : Nat) : Pt := .s (.win (flRow hDr N)) (iP N)
def patFl (N : Nat) : List Pt := [pS N, .v hDr]
def patBh (N : Nat) : List Pt := [pS N, pB N, pF N]
def patYe (N : Nat) : List Pt := [pS N, pB N, .v hDr]
def patSh (N : Nat) : List Pt := [pS N, pB N]
def noFull (N : Nat) : List Fact := (List.range N).map fun i => fullF hDr i false
def bgSh (i : Nat) (c : Bool) : Fact := (1, hBg i 0, hSc i 3, c)
def noSh (N : Nat) : List Fact := (List.range N).map fun i => bgSh i false
def shAt (i : Nat) : List Fact := noSh i ++ [bgSh i true]
/-- lists to be copied -/
def hC (k : Nat) : Value := hP (400 + k)
def rowC (n : Nat) : List Value := (List.range n).map hC
def patCs (n : Nat) : List Pt := [.a (.win (rowC (4 * n))) (iP n) hNew]
def patCb (n : Nat) : List Pt := [.s (.win (rowC (2 * n))) (iP n)]
def patCd (n : Nat) : List Pt := [.s (.win (rowC n)) (iP n)]
section
variable (hole : Nat → Value)
theorem flR1 (ok) : fst2 4 (evDS (pgS hole ([]) ok) spNone 2000 60 (.fn 37) (ptVals 0 (patFl 1)) (memT (ptObjs (patFl 1))) 3) = some (.slice (some ⟨4, 0, none⟩) 1 1, some (.row (flRow hDr 1) 74 false)) := by kernel_rfl
theorem bhR1 (ok) : fst2 4 (evDS (pgS hole ([]) ok) (spP 1) 2000 60 (.fn 36) (ptVals 0 (patBh 1)) (memT (ptObjs (patBh 1))) 3) = some (.slice (some ⟨4, 0, none⟩) 1 1, some (.row (agRow 1 hDr) 74 false)) := by kernel_rfl
theorem yeR1 (ok) : fst2 11 (evDS (pgS hole (noFull 1) ok) (spR 1) 2000 60 (.fn 42) (ptVals 0 (patYe 1)) (memT (ptObjs (patYe 1))) 3) = some (.tuple #[.slice (some ⟨11, 0, none⟩) 1 OPEN, .bool true], some (.row (agRow 1 hDr) 74 true)) := by kernel_rfl
theorem fuR1 (ok) : fstO (evDS (pgS hole (noFull 1) ok) spNone 2000 60 (.fn 35) (ptVals 0 (patFl 1)) (memT (ptObjs (patFl 1))) 3) = some (iP 0) := by kernel_rfl
theorem shR1 (ok) : fstO (evDS (pgS hole (noSh 1) ok) spNone 2000 60 (.fn 43) (ptVals 0 (patSh 1)) (memT (ptObjs (patSh 1))) 3) = some (iP (-1)) := by kernel_rfl
theorem yeF1_0 (ok) : fstO (evDS (pgS hole (fullAt hDr 0) ok) (spR 1) 2000 60 (.fn 42) (ptVals 0 (patYe 1)) (memT (ptObjs (patYe 1))) 3) = some (.tuple #[.slice none 0 0, .bool false]) := by kernel_rfl
theorem fuF1_0 (ok) : fstO (evDS (pgS hole (fullAt hDr 0) ok) spNone 2000 60 (.fn 35) (ptVals 0 (patFl 1)) (memT (ptObjs (patFl 1))) 3) = some (iP 16) := by kernel_rfl
theorem shF1_0 (ok) : fstO (evDS (pgS hole (shAt 0) ok) spNone 2000 60 (.fn 43) (ptVals 0 (patSh 1)) (memT (ptObjs (patSh 1))) 3) = some (iP 0) := by kernel_rfl
theorem flR2 (ok) : fst2 4 (evDS (pgS hole ([]) ok) spNone 2000 60 (.fn 37) (ptVals 0 (patFl 2)) (memT (ptObjs (patFl 2))) 3) = some (.slice (some ⟨4, 0, none⟩) 2 2, some (.row (flRow hDr 2) 74 false)) := by kernel_rfl
theorem bhR2 (ok) : fst2 4 (evDS (pgS hole ([]) ok) (spP 2) 2000 60 (.fn 36) (ptVals 0 (patBh 2)) (memT (ptObjs (patBh 2))) 3) = some (.slice (some ⟨4, 0, none⟩) 2 2, some (.row (agRow 2 hDr) 74 false)) := by kernel_rfl
theorem yeR2 (ok) : fst2 16 (evDS (pgS hole (noFull 2) ok) (spR 2) 2000 60 (.fn 42) (ptVals 0 (patYe 2)) (memT (ptObjs (patYe 2))) 3) = some (.tuple #[.slice (some ⟨16, 0, none⟩) 2 OPEN, .bool true], some (.row (agRow 2 hDr) 74 true)) := by kernel_rfl
theorem fuR2 (ok) : fstO (evDS (pgS hole (noFull 2) ok) spNone 2000 60 (.fn 35) (ptVals 0 (patFl 2)) (memT (ptObjs (patFl 2))) 3) = some (iP 0) := by kernel_rfl
theorem shR2 (ok) : fstO (evDS (pgS hole (noSh 2) ok) spNone 2000 60 (.fn 43) (ptVals 0 (patSh 2)) (memT (ptObjs (patSh 2))) 3) = some (iP (-1)) := by kernel_rfl
theorem yeF2_0 (ok) : fstO (evDS (pgS hole (fullAt hDr 0) ok) (spR 2) 2000 60 (.fn 42) (ptVals 0 (patYe 2)) (memT (ptObjs (patYe 2))) 3) = some (.tuple #[.slice none 0 0, .bool false]) := by kernel_rfl
theorem fuF2_0 (ok) : fstO (evDS (pgS hole (fullAt hDr 0) ok) spNone 2000 60 (.fn 35) (ptVals 0 (patFl 2)) (memT (ptObjs (patFl 2))) 3) = some (iP 16) := by kernel_rfl
theorem shF2_0 (ok) : fstO (evDS (pgS hole (shAt 0) ok) spNone 2000 60 (.fn 43) (ptVals 0 (patSh 2)) (memT (ptObjs (patSh 2))) 3) = some (iP 0) := by kernel_rfl
theorem yeF2_1 (ok) : fstO (evDS (pgS hole (fullAt hDr 1) ok) (spR 2) 2000 60 (.fn 42) (ptVals 0 (patYe 2)) (memT (ptObjs (patYe 2))) 3) = some (.tuple #[.slice none 0 0, .bool false]) := by kernel_rfl
theorem fuF2_1 (ok) : fstO (evDS (pgS hole (fullAt hDr 1) ok) spNone 2000 60 (.fn 35) (ptVals 0 (patFl 2)) (memT (ptObjs (patFl 2))) 3) = some (iP 16) := by kernel_rfl
theorem shF2_1 (ok) : fstO (evDS (pgS hole (shAt 1) ok) spNone 2000 60 (.fn 43) (ptVals 0 (patSh 2)) (memT (ptObjs (patSh 2))) 3) = some (iP 1) := by kernel_rfl
theorem flR3 (ok) : fst2 4 (evDS (pgS hole ([]) ok) spNone 2000 60 (.fn 37) (ptVals 0 (patFl 3)) (memT (ptObjs (patFl 3))) 3) = some (.slice (some ⟨4, 0, none⟩) 3 3, some (.row (flRow hDr 3) 74 false)) := by kernel_rfl
theorem bhR3 (ok) : fst2 4 (evDS (pgS hole ([]) ok) (spP 3) 2000 60 (.fn 36) (ptVals 0 (patBh 3)) (memT (ptObjs (patBh 3))) 3) = some (.slice (some ⟨4, 0, none⟩) 3 3, some (.row (agRow 3 hDr) 74 false)) := by kernel_rfl
theorem yeR3 (ok) : fst2 21 (evDS (pgS hole (noFull 3) ok) (spR 3) 2000 60 (.fn 42) (ptVals 0 (patYe 3)) (memT (ptObjs (patYe 3))) 3) = some (.tuple #[.slice (some ⟨21, 0, none⟩) 3 OPEN, .bool true], some (.row (agRow 3 hDr) 74 true)) := by kernel_rfl
theorem fuR3 (ok) : fstO (evDS (pgS hole (noFull 3) ok) spNone 2000 60 (.fn 35) (ptVals 0 (patFl 3)) (memT (ptObjs (patFl 3))) 3) = some (iP 0) := by kernel_rfl
theorem shR3 (ok) : fstO (evDS (pgS hole (noSh 3) ok) spNone 2000 60 (.fn 43) (ptVals 0 (patSh 3)) (memT (ptObjs (patSh 3))) 3) = some (iP (-1)) := by kernel_rfl
theorem yeF3_0 (ok) : fstO (evDS (pgS hole (fullAt hDr 0) ok) (spR 3) 2000 60 (.fn 42) (ptVals 0 (patYe 3)) (memT (ptObjs (patYe 3))) 3) = some (.tuple #[.slice none 0 0, .bool false]) := by kernel_rfl
theorem fuF3_0 (ok) : fstO (evDS (pgS hole (fullAt hDr 0) ok) spNone 2000 60 (.fn 35) (ptVals 0 (patFl 3)) (memT (ptObjs (patFl 3))) 3) = some (iP 16) := by kernel_rfl
theorem shF3_0 (ok) : fstO (evDS (pgS hole (shAt 0) ok) spNone 2000 60 (.fn 43) (ptVals 0 (patSh 3)) (memT (ptObjs (patSh 3))) 3) = some (iP 0) := by kernel_rfl
theorem yeF3_1 (ok) : fstO (evDS (pgS hole (fullAt hDr 1) ok) (spR 3) 2000 60 (.fn 42) (ptVals 0 (patYe 3)) (memT (ptObjs (patYe 3))) 3) = some (.tuple #[.slice none 0 0, .bool false]) := by kernel_rfl
theorem fuF3_1 (ok) : fstO (evDS (pgS hole (fullAt hDr 1) ok) spNone 2000 60 (.fn 35) (ptVals 0 (patFl 3)) (memT (ptObjs (patFl 3))) 3) = some (iP 16) := by kernel_rfl
theorem shF3_1 (ok) : fstO (evDS (pgS hole (shAt 1) ok) spNone 2000 60 (.fn 43) (ptVals 0 (patSh 3)) (memT (ptObjs (patSh 3))) 3) = some (iP 1) := by kernel_rfl
theorem yeF3_2 (ok) : fstO (evDS (pgS hole (fullAt hDr 2) ok) (spR 3) 2000 60 (.fn 42) (ptVals 0 (patYe 3)) (memT (ptObjs (patYe 3))) 3) = some (.tuple #[.slice none 0 0, .bool false]) := by kernel_rfl
theorem fuF3_2 (ok) : fstO (evDS (pgS hole (fullAt hDr 2) ok) spNone 2000 60 (.fn 35) (ptVals 0 (patFl 3)) (memT (ptObjs (patFl 3))) 3) = some (iP 16) := by kernel_rfl
theorem shF3_2 (ok) : fstO (evDS (pgS hole (shAt 2) ok) spNone 2000 60 (.fn 43) (ptVals 0 (patSh 3)) (memT (ptObjs (patSh 3))) 3) = some (iP 2) := by kernel_rfl
theorem flR4 (ok) : fst2 4 (evDS (pgS hole ([]) ok) spNone 2000 60 (.fn 37) (ptVals 0 (patFl 4)) (memT (ptObjs (patFl 4))) 3) = some (.slice (some ⟨4, 0, none⟩) 4 4, some (.row (flRow hDr 4) 74 false)) := by kernel_rfl
theorem bhR4 (ok) : fst2 4 (evDS (pgS hole ([]) ok) (spP 4) 2000 60 (.fn 36) (ptVals 0 (patBh 4)) (memT (ptObjs (patBh 4))) 3) = some (.slice (some ⟨4, 0, none⟩) 4 4, some (.row (agRow 4 hDr) 74 false)) := by kernel_rfl
theorem yeR4 (ok) : fst2 26 (evDS (pgS hole (noFull 4) ok) (spR 4) 2000 60 (.fn 42) (ptVals 0 (patYe 4)) (memT (ptObjs (patYe 4))) 3) = some (.tuple #[.slice (some ⟨26, 0, none⟩) 4 OPEN, .bool true], some (.row (agRow 4 hDr) 74 true)) := by kernel_rfl
theorem fuR4 (ok) : fstO (evDS (pgS hole (noFull 4) ok) spNone 2000 60 (.fn 35) (ptVals 0 (patFl 4)) (memT (ptObjs (patFl 4))) 3) = some (iP 0) := by kernel_rfl
theorem shR4 (ok) : fstO (evDS (pgS hole (noSh 4) ok) spNone 2000 60 (.fn 43) (ptVals 0 (patSh 4)) (memT (ptObjs (patSh 4))) 3) = some (iP (-1)) := by kernel_rfl
theorem yeF4_0 (ok) : fstO (evDS (pgS hole (fullAt hDr 0) ok) (spR 4) 2000 60 (.fn 42) (ptVals 0 (patYe 4)) (memT (ptObjs (patYe 4))) 3) = some (.tuple #[.slice none 0 0, .bool false]) := by kernel_rfl
theorem fuF4_0 (ok) : fstO (evDS (pgS hole (fullAt hDr 0) ok) spNone 2000 60 (.fn 35) (ptVals 0 (patFl 4)) (memT (ptObjs (patFl 4))) 3) = some (iP 16) := by kernel_rfl
theorem shF4_0 (ok) : fstO (evDS (pgS hole (shAt 0) ok) spNone 2000 60 (.fn 43) (ptVals 0 (patSh 4)) (memT (ptObjs (patSh 4))) 3) = some (iP 0) := by kernel_rfl
theorem yeF4_1 (ok) : fstO (evDS (pgS hole (fullAt hDr 1) ok) (spR 4) 2000 60 (.fn 42) (ptVals 0 (patYe 4)) (memT (ptObjs (patYe 4))) 3) = some (.tuple #[.slice none 0 0, .bool false]) := by kernel_rfl
theorem fuF4_1 (ok) : fstO (evDS (pgS hole (fullAt hDr 1) ok) spNone 2000 60 (.fn 35) (ptVals 0 (patFl 4)) (memT (ptObjs (patFl 4))) 3) = some (iP 16) := by kernel_rfl
theorem shF4_1 (ok) : fstO (evDS (pgS hole (shAt 1) ok) spNone 2000 60 (.fn 43) (ptVals 0 (patSh 4)) (memT (ptObjs (patSh 4))) 3) = some (iP 1) := by kernel_rfl
theorem yeF4_2 (ok) : fstO (evDS (pgS hole (fullAt hDr 2) ok) (spR 4) 2000 60 (.fn 42) (ptVals 0 (patYe 4)) (memT (ptObjs (patYe 4))) 3) = some (.tuple #[.slice none 0 0, .bool false]) := by kernel_rfl
theorem fuF4_2 (ok) : fstO (evDS (pgS hole (fullAt hDr 2) ok) spNone 2000 60 (.fn 35) (ptVals 0 (patFl 4)) (memT (ptObjs (patFl 4))) 3) = some (iP 16) := by kernel_rfl
theorem shF4_2 (ok) : fstO (evDS (pgS hole (shAt 2) ok) spNone 2000 60 (.fn 43) (ptVals 0 (patSh 4)) (memT (ptObjs (patSh 4))) 3) = some (iP 2) := by kernel_rfl
theorem yeF4_3 (ok) : fstO (evDS (pgS hole (fullAt hDr 3) ok) (spR 4) 2000 60 (.fn 42) (ptVals 0 (patYe 4)) (memT (ptObjs (patYe 4))) 3) = some (.tuple #[.slice none 0 0, .bool false]) := by kernel_rfl
theorem fuF4_3 (ok) : fstO (evDS (pgS hole (fullAt hDr 3) ok) spNone 2000 60 (.fn 35) (ptVals 0 (patFl 4)) (memT (ptObjs (patFl 4))) 3) = some (iP 16) := by kernel_rfl
theorem shF4_3 (ok) : fstO (evDS (pgS hole (shAt 3) ok) spNone 2000 60 (.fn 43) (ptVals 0 (patSh 4)) (memT (ptObjs (patSh 4))) 3) = some (iP 3) := by kernel_rfl
theorem fuR0 (ok) : fstO (evDS (pgS hole ([]) ok) spNone 2000 60 (.fn 35) (ptVals 0 [.v (.agg #[.slice none 0 0, iP 0]), .v hDr]) (memT (ptObjs [.v (.agg #[.slice none 0 0, iP 0]), .v hDr])) 3) = some (iP 0) := by kernel_rfl
theorem csR1 (ok) : fst2 6 (evDS (pgS hole ([]) ok) spNone 2000 60 (.fn 8) (ptVals 0 (patCs 1)) (memT (ptObjs (patCs 1))) 3) = some (.agg #[.slice (some ⟨6, 0, none⟩) 1 OPEN, hNew], some (.row (rowC (4 * 1)) 112 true)) := by kernel_rfl
theorem cbR1 (ok) : fst2 4 (evDS (pgS hole ([]) ok) spNone 2000 60 (.fn 9) (ptVals 0 (patCb 1)) (memT (ptObjs (patCb 1))) 3) = some (.slice (some ⟨4, 0, none⟩) 1 OPEN, some (.row (rowC (2 * 1)) 74 true)) := by kernel_rfl
theorem csR2 (ok) : fst2 6 (evDS (pgS hole ([]) ok) spNone 2000 60 (.fn 8) (ptVals 0 (patCs 2)) (memT (ptObjs (patCs 2))) 3) = some (.agg #[.slice (some ⟨6, 0, none⟩) 2 OPEN, hNew], some (.row (rowC (4 * 2)) 112 true)) := by kernel_rfl
theorem cbR2 (ok) : fst2 4 (evDS (pgS hole ([]) ok) spNone 2000 60 (.fn 9) (ptVals 0 (patCb 2)) (memT (ptObjs (patCb 2))) 3) = some (.slice (some ⟨4, 0, none⟩) 2 OPEN, some (.row (rowC (2 * 2)) 74 true)) := by kernel_rfl
theorem csR3 (ok) : fst2 6 (evDS (pgS hole ([]) ok) spNone 2000 60 (.fn 8) (ptVals 0 (patCs 3)) (memT (ptObjs (patCs 3))) 3) = some (.agg #[.slice (some ⟨6, 0, none⟩) 3 OPEN, hNew], some (.row (rowC (4 * 3)) 112 true)) := by kernel_rfl
theorem cbR3 (ok) : fst2 4 (evDS (pgS hole ([]) ok) spNone 2000 60 (.fn 9) (ptVals 0 (patCb 3)) (memT (ptObjs (patCb 3))) 3) = some (.slice (some ⟨4, 0, none⟩) 3 OPEN, some (.row (rowC (2 * 3)) 74 true)) := by kernel_rfl
theorem csR4 (ok) : fst2 6 (evDS (pgS hole ([]) ok) spNone 2000 60 (.fn 8) (ptVals 0 (patCs 4)) (memT (ptObjs (patCs 4))) 3) = some (.agg #[.slice (some ⟨6, 0, none⟩) 4 OPEN, hNew], some (.row (rowC (4 * 4)) 112 true)) := by kernel_rfl
theorem cbR4 (ok) : fst2 4 (evDS (pgS hole ([]) ok) spNone 2000 60 (.fn 9) (ptVals 0 (patCb 4)) (memT (ptObjs (patCb 4))) 3) = some (.slice (some ⟨4, 0, none⟩) 4 OPEN, some (.row (rowC (2 * 4)) 74 true)) := by kernel_rfl
theorem csR5 (ok) : fst2 6 (evDS (pgS hole ([]) ok) spNone 2000 60 (.fn 8) (ptVals 0 (patCs 5)) (memT (ptObjs (patCs 5))) 3) = some (.agg #[.slice (some ⟨6, 0, none⟩) 5 OPEN, hNew], some (.row (rowC (4 * 5)) 112 true)) := by kernel_rfl
theorem cbR5 (ok) : fst2 4 (evDS (pgS hole ([]) ok) spNone 2000 60 (.fn 9) (ptVals 0 (patCb 5)) (memT (ptObjs (patCb 5))) 3) = some (.slice (some ⟨4, 0, none⟩) 5 OPEN, some (.row (rowC (2 * 5)) 74 true)) := by kernel_rfl
theorem csR6 (ok) : fst2 6 (evDS (pgS hole ([]) ok) spNone 2000 60 (.fn 8) (ptVals 0 (patCs 6)) (memT (ptObjs (patCs 6))) 3) = some (.agg #[.slice (some ⟨6, 0, none⟩) 6 OPEN, hNew], some (.row (rowC (4 * 6)) 112 true)) := by kernel_rfl
theorem cbR6 (ok) : fst2 4 (evDS (pgS hole ([]) ok) spNone 2000 60 (.fn 9) (ptVals 0 (patCb 6)) (memT (ptObjs (patCb 6))) 3) = some (.slice (some ⟨4, 0, none⟩) 6 OPEN, some (.row (rowC (2 * 6)) 74 true)) := by kernel_rfl
theorem cdR1 (ok) : fst2 4 (evDS (pgS hole ([]) ok) spNone 2000 60 (.fn 10) (ptVals 0 (patCd 1)) (memT (ptObjs (patCd 1))) 3) = some (.slice (some ⟨4, 0, none⟩) 1 OPEN, some (.row (rowC 1) 3 true)) := by kernel_rfl
theorem cdR2 (ok) : fst2 4 (evDS (pgS hole ([]) ok) spNone 2000 60 (.fn 10) (ptVals 0 (patCd 2)) (memT (ptObjs (patCd 2))) 3) = some (.slice (some ⟨4, 0, none⟩) 2 OPEN, some (.row (rowC 2) 3 true)) := by kernel_rfl
theorem cdR3 (ok) : fst2 4 (evDS (pgS hole ([]) ok) spNone 2000 60 (.fn 10) (ptVals 0 (patCd 3)) (memT (ptObjs (patCd 3))) 3) = some (.slice (some ⟨4, 0, none⟩) 3 OPEN, some (.row (rowC 3) 3 true)) := by kernel_rfl
theorem cdR4 (ok) : fst2 4 (evDS (pgS hole ([]) ok) spNone 2000 60 (.fn 10) (ptVals 0 (patCd 4)) (memT (ptObjs (patCd 4))) 3) = some (.slice (some ⟨4, 0, none⟩) 4 OPEN, some (.row (rowC 4) 3 true)) := by kernel_rfl
theorem cdR5 (ok) : fst2 4 (evDS (pgS hole ([]) ok) spNone 2000 60 (.fn 10) (ptVals 0 (patCd 5)) (memT (ptObjs (patCd 5))) 3) = some (.slice (some ⟨4, 0, none⟩) 5 OPEN, some (.row (rowC 5) 3 true)) := by kernel_rfl
theorem cdR6 (ok) : fst2 4 (evDS (pgS hole ([]) ok) spNone 2000 60 (.fn 10) (ptVals 0 (patCd 6)) (memT (ptObjs (patCd 6))) 3) = some (.slice (some ⟨4, 0, none⟩) 6 OPEN, some (.row (rowC 6) 3 true)) := by kernel_rfl
theorem cdR31 (ok) : fst2 4 (evDS (pgS hole ([]) ok) spNone 2000 60 (.fn 10) (ptVals 0 (patCd 31)) (memT (ptObjs (patCd 31))) 3) = some (.slice (some ⟨4, 0, none⟩) 31 OPEN, some (.row (rowC 31) 3 true)) := by kernel_rfl
theorem cdR32 (ok) : fst2 4 (evDS (pgS hole ([]) ok) spNone 2000 60 (.fn 10) (ptVals 0 (patCd 32)) (memT (ptObjs (patCd 32))) 3) = some (.slice (some ⟨4, 0, none⟩) 32 OPEN, some (.row (rowC 32) 3 true)) := by kernel_rfl
end
end Sy
end Go.Proofs.YtdejmleboflopaaGreat
