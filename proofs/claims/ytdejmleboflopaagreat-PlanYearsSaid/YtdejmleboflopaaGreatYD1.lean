/- What the law PlanYears asks: runs. -/
import Derived.Test.YtdejmleboflopaaGreatYD0
set_option linter.unusedVariables false
set_option linter.unusedSimpArgs false
namespace Go.Proofs.YtdejmleboflopaaGreat
open Go.RowKit
namespace Sy
open Go.RowKit

def fuNo (K : Nat) : List Fact := (List.range K).map fun y => (0, hFu y, iP 0, true)
def fuAt (j : Nat) : List Fact := fuNo j ++ [(0, hFu j, iP 0, false)]
def yOk : Fact := (0, y3 0, iP 0, true)
noncomputable def spYe (s : Pt) (K : Nat) : CallF := spY (eAg s :: eNu (dW K) :: (List.range K).map (eFu s))
noncomputable def spYb (s : Pt) : CallF := spY [eAg s, eNu dA]
def yeBadF (c : Bool) : List Fact := [(2, hLd, iP 30, c), (0, y3 (if c = true then 0 else 8), iP 0, false)]
/-- the system is wrong; right, and what is asked is not; all is right -/
def fW (x : Value) : List Fact := [(0, hE, iP 0, false), (0, fi2 hE x, iP 0, false)]
def fX (x : Value) : List Fact := [(0, hE, iP 0, true), (0, fi2 (iP 0) x, iP 0, false)]
def fG : List Fact := [(0, hE, iP 0, true), (0, fi2 (iP 0) hYe, iP 0, true)]
noncomputable def spAa (K : Nat) : CallF := spY (eSys :: eYe sA (dW K) :: eCl :: ((List.range K).map (eFl sA hLs) ++ (List.range K).map eBh))
def shF (y i : Nat) (c : Bool) : Fact := (1, hAg (y + 1) i 0, hSc i 3, c)
def noShY (N K : Nat) : List Fact := (List.range K).flatMap fun y => (List.range N).map fun i => shF y i false
def atShY (N y i : Nat) : List Fact := noShY N y ++ ((List.range i).map (fun j => shF y j false) ++ [shF y i true])
def eSysW (N : Nat) : Ent := ⟨62, [pS N], .v (.tuple #[hCk, hE])⟩
noncomputable def spFs (N K : Nat) : CallF := spY (eSysW N :: eYe (pS N) (dW K) :: ((List.range K).map (eFl (pS N) (iP N)) ++ (List.range K).map (eBw N)))
def shNoR (K : Nat) : List Fact := (List.range K).map fun y => (2, iP 0, hSh y, false)
def shAtR (y : Nat) : List Fact := shNoR y ++ [(2, iP 0, hSh y, true)]
def dNo : List Fact := [(1, iP 0, hLd, false)]
noncomputable def spRa (K : Nat) : CallF := spY (eCb bO :: (List.range K).map eYr)
noncomputable def spRn (y : Nat) : CallF := spY (eCb bO :: ((List.range y).map eYr ++ [eYn y]))
noncomputable def spRf (d : Pt) (K : Nat) : CallF := spY (eRg d K :: eCb bO :: ((List.range K).map eYr ++ (List.range K).map eSh))
section
variable (Y : Yr) (hole : Nat → Value)
theorem clR1 (ok) : fst2 4 (evDS (pgS hole [] ok) spNone 2000 60 (.fn 31) (ptVals 0 [pB 1]) (memT (ptObjs [pB 1])) 3) = some (.slice (some ⟨4, 0, none⟩) 1 OPEN, some (.row (rowB 1) 74 true)) := by kernel_rfl
theorem clR2 (ok) : fst2 4 (evDS (pgS hole [] ok) spNone 2000 60 (.fn 31) (ptVals 0 [pB 2]) (memT (ptObjs [pB 2])) 3) = some (.slice (some ⟨4, 0, none⟩) 2 OPEN, some (.row (rowB 2) 74 true)) := by kernel_rfl
theorem clR3 (ok) : fst2 4 (evDS (pgS hole [] ok) spNone 2000 60 (.fn 31) (ptVals 0 [pB 3]) (memT (ptObjs [pB 3])) 3) = some (.slice (some ⟨4, 0, none⟩) 3 OPEN, some (.row (rowB 3) 74 true)) := by kernel_rfl
theorem clR4 (ok) : fst2 4 (evDS (pgS hole [] ok) spNone 2000 60 (.fn 31) (ptVals 0 [pB 4]) (memT (ptObjs [pB 4])) 3) = some (.slice (some ⟨4, 0, none⟩) 4 OPEN, some (.row (rowB 4) 74 true)) := by kernel_rfl
theorem ybA_true (ok) : fstO (evDS (pgY Y (yeBadF true) ok) (spYb sA) 2000 60 (.fn 30) (ptVals 0 [sA, bA, dA]) (memT (ptObjs [sA, bA, dA])) 3) = some (y3 (if true = true then 0 else 8)) := by kernel_rfl
theorem ybA_false (ok) : fstO (evDS (pgY Y (yeBadF false) ok) (spYb sA) 2000 60 (.fn 30) (ptVals 0 [sA, bA, dA]) (memT (ptObjs [sA, bA, dA])) 3) = some (y3 (if false = true then 0 else 8)) := by kernel_rfl
theorem ygA_0 (ok) : fstO (evDS (pgY Y (yOk :: fuNo 0) ok) (spYe sA 0) 2000 60 (.fn 30) (ptVals 0 [sA, bA, dW 0]) (memT (ptObjs [sA, bA, dW 0])) 3) = some (iP 0) := by kernel_rfl
theorem ygA_1 (ok) : fstO (evDS (pgY Y (yOk :: fuNo 1) ok) (spYe sA 1) 2000 60 (.fn 30) (ptVals 0 [sA, bA, dW 1]) (memT (ptObjs [sA, bA, dW 1])) 3) = some (iP 0) := by kernel_rfl
theorem yfA_1_0 (ok) : fstO (evDS (pgY Y (yOk :: fuAt 0) ok) (spYe sA 1) 2000 60 (.fn 30) (ptVals 0 [sA, bA, dW 1]) (memT (ptObjs [sA, bA, dW 1])) 3) = some (hFu 0) := by kernel_rfl
theorem ygA_2 (ok) : fstO (evDS (pgY Y (yOk :: fuNo 2) ok) (spYe sA 2) 2000 60 (.fn 30) (ptVals 0 [sA, bA, dW 2]) (memT (ptObjs [sA, bA, dW 2])) 3) = some (iP 0) := by kernel_rfl
theorem yfA_2_0 (ok) : fstO (evDS (pgY Y (yOk :: fuAt 0) ok) (spYe sA 2) 2000 60 (.fn 30) (ptVals 0 [sA, bA, dW 2]) (memT (ptObjs [sA, bA, dW 2])) 3) = some (hFu 0) := by kernel_rfl
theorem yfA_2_1 (ok) : fstO (evDS (pgY Y (yOk :: fuAt 1) ok) (spYe sA 2) 2000 60 (.fn 30) (ptVals 0 [sA, bA, dW 2]) (memT (ptObjs [sA, bA, dW 2])) 3) = some (hFu 1) := by kernel_rfl
theorem ygA_3 (ok) : fstO (evDS (pgY Y (yOk :: fuNo 3) ok) (spYe sA 3) 2000 60 (.fn 30) (ptVals 0 [sA, bA, dW 3]) (memT (ptObjs [sA, bA, dW 3])) 3) = some (iP 0) := by kernel_rfl
theorem yfA_3_0 (ok) : fstO (evDS (pgY Y (yOk :: fuAt 0) ok) (spYe sA 3) 2000 60 (.fn 30) (ptVals 0 [sA, bA, dW 3]) (memT (ptObjs [sA, bA, dW 3])) 3) = some (hFu 0) := by kernel_rfl
theorem yfA_3_1 (ok) : fstO (evDS (pgY Y (yOk :: fuAt 1) ok) (spYe sA 3) 2000 60 (.fn 30) (ptVals 0 [sA, bA, dW 3]) (memT (ptObjs [sA, bA, dW 3])) 3) = some (hFu 1) := by kernel_rfl
theorem yfA_3_2 (ok) : fstO (evDS (pgY Y (yOk :: fuAt 2) ok) (spYe sA 3) 2000 60 (.fn 30) (ptVals 0 [sA, bA, dW 3]) (memT (ptObjs [sA, bA, dW 3])) 3) = some (hFu 2) := by kernel_rfl
theorem ygA_4 (ok) : fstO (evDS (pgY Y (yOk :: fuNo 4) ok) (spYe sA 4) 2000 60 (.fn 30) (ptVals 0 [sA, bA, dW 4]) (memT (ptObjs [sA, bA, dW 4])) 3) = some (iP 0) := by kernel_rfl
theorem yfA_4_0 (ok) : fstO (evDS (pgY Y (yOk :: fuAt 0) ok) (spYe sA 4) 2000 60 (.fn 30) (ptVals 0 [sA, bA, dW 4]) (memT (ptObjs [sA, bA, dW 4])) 3) = some (hFu 0) := by kernel_rfl
theorem yfA_4_1 (ok) : fstO (evDS (pgY Y (yOk :: fuAt 1) ok) (spYe sA 4) 2000 60 (.fn 30) (ptVals 0 [sA, bA, dW 4]) (memT (ptObjs [sA, bA, dW 4])) 3) = some (hFu 1) := by kernel_rfl
theorem yfA_4_2 (ok) : fstO (evDS (pgY Y (yOk :: fuAt 2) ok) (spYe sA 4) 2000 60 (.fn 30) (ptVals 0 [sA, bA, dW 4]) (memT (ptObjs [sA, bA, dW 4])) 3) = some (hFu 2) := by kernel_rfl
theorem yfA_4_3 (ok) : fstO (evDS (pgY Y (yOk :: fuAt 3) ok) (spYe sA 4) 2000 60 (.fn 30) (ptVals 0 [sA, bA, dW 4]) (memT (ptObjs [sA, bA, dW 4])) 3) = some (hFu 3) := by kernel_rfl
theorem ygA_5 (ok) : fstO (evDS (pgY Y (yOk :: fuNo 5) ok) (spYe sA 5) 2000 60 (.fn 30) (ptVals 0 [sA, bA, dW 5]) (memT (ptObjs [sA, bA, dW 5])) 3) = some (iP 0) := by kernel_rfl
theorem yfA_5_0 (ok) : fstO (evDS (pgY Y (yOk :: fuAt 0) ok) (spYe sA 5) 2000 60 (.fn 30) (ptVals 0 [sA, bA, dW 5]) (memT (ptObjs [sA, bA, dW 5])) 3) = some (hFu 0) := by kernel_rfl
theorem yfA_5_1 (ok) : fstO (evDS (pgY Y (yOk :: fuAt 1) ok) (spYe sA 5) 2000 60 (.fn 30) (ptVals 0 [sA, bA, dW 5]) (memT (ptObjs [sA, bA, dW 5])) 3) = some (hFu 1) := by kernel_rfl
theorem yfA_5_2 (ok) : fstO (evDS (pgY Y (yOk :: fuAt 2) ok) (spYe sA 5) 2000 60 (.fn 30) (ptVals 0 [sA, bA, dW 5]) (memT (ptObjs [sA, bA, dW 5])) 3) = some (hFu 2) := by kernel_rfl
theorem yfA_5_3 (ok) : fstO (evDS (pgY Y (yOk :: fuAt 3) ok) (spYe sA 5) 2000 60 (.fn 30) (ptVals 0 [sA, bA, dW 5]) (memT (ptObjs [sA, bA, dW 5])) 3) = some (hFu 3) := by kernel_rfl
theorem yfA_5_4 (ok) : fstO (evDS (pgY Y (yOk :: fuAt 4) ok) (spYe sA 5) 2000 60 (.fn 30) (ptVals 0 [sA, bA, dW 5]) (memT (ptObjs [sA, bA, dW 5])) 3) = some (hFu 4) := by kernel_rfl
theorem ygA_6 (ok) : fstO (evDS (pgY Y (yOk :: fuNo 6) ok) (spYe sA 6) 2000 60 (.fn 30) (ptVals 0 [sA, bA, dW 6]) (memT (ptObjs [sA, bA, dW 6])) 3) = some (iP 0) := by kernel_rfl
theorem yfA_6_0 (ok) : fstO (evDS (pgY Y (yOk :: fuAt 0) ok) (spYe sA 6) 2000 60 (.fn 30) (ptVals 0 [sA, bA, dW 6]) (memT (ptObjs [sA, bA, dW 6])) 3) = some (hFu 0) := by kernel_rfl
theorem yfA_6_1 (ok) : fstO (evDS (pgY Y (yOk :: fuAt 1) ok) (spYe sA 6) 2000 60 (.fn 30) (ptVals 0 [sA, bA, dW 6]) (memT (ptObjs [sA, bA, dW 6])) 3) = some (hFu 1) := by kernel_rfl
theorem yfA_6_2 (ok) : fstO (evDS (pgY Y (yOk :: fuAt 2) ok) (spYe sA 6) 2000 60 (.fn 30) (ptVals 0 [sA, bA, dW 6]) (memT (ptObjs [sA, bA, dW 6])) 3) = some (hFu 2) := by kernel_rfl
theorem yfA_6_3 (ok) : fstO (evDS (pgY Y (yOk :: fuAt 3) ok) (spYe sA 6) 2000 60 (.fn 30) (ptVals 0 [sA, bA, dW 6]) (memT (ptObjs [sA, bA, dW 6])) 3) = some (hFu 3) := by kernel_rfl
theorem yfA_6_4 (ok) : fstO (evDS (pgY Y (yOk :: fuAt 4) ok) (spYe sA 6) 2000 60 (.fn 30) (ptVals 0 [sA, bA, dW 6]) (memT (ptObjs [sA, bA, dW 6])) 3) = some (hFu 4) := by kernel_rfl
theorem yfA_6_5 (ok) : fstO (evDS (pgY Y (yOk :: fuAt 5) ok) (spYe sA 6) 2000 60 (.fn 30) (ptVals 0 [sA, bA, dW 6]) (memT (ptObjs [sA, bA, dW 6])) 3) = some (hFu 5) := by kernel_rfl
theorem ybW1_true (ok) : fstO (evDS (pgY Y (yeBadF true) ok) (spYb (pS 1)) 2000 60 (.fn 30) (ptVals 0 [(pS 1), bA, dA]) (memT (ptObjs [(pS 1), bA, dA])) 3) = some (y3 (if true = true then 0 else 8)) := by kernel_rfl
theorem ybW1_false (ok) : fstO (evDS (pgY Y (yeBadF false) ok) (spYb (pS 1)) 2000 60 (.fn 30) (ptVals 0 [(pS 1), bA, dA]) (memT (ptObjs [(pS 1), bA, dA])) 3) = some (y3 (if false = true then 0 else 8)) := by kernel_rfl
theorem ygW1_0 (ok) : fstO (evDS (pgY Y (yOk :: fuNo 0) ok) (spYe (pS 1) 0) 2000 60 (.fn 30) (ptVals 0 [(pS 1), bA, dW 0]) (memT (ptObjs [(pS 1), bA, dW 0])) 3) = some (iP 0) := by kernel_rfl
theorem ygW1_1 (ok) : fstO (evDS (pgY Y (yOk :: fuNo 1) ok) (spYe (pS 1) 1) 2000 60 (.fn 30) (ptVals 0 [(pS 1), bA, dW 1]) (memT (ptObjs [(pS 1), bA, dW 1])) 3) = some (iP 0) := by kernel_rfl
theorem yfW1_1_0 (ok) : fstO (evDS (pgY Y (yOk :: fuAt 0) ok) (spYe (pS 1) 1) 2000 60 (.fn 30) (ptVals 0 [(pS 1), bA, dW 1]) (memT (ptObjs [(pS 1), bA, dW 1])) 3) = some (hFu 0) := by kernel_rfl
theorem ygW1_2 (ok) : fstO (evDS (pgY Y (yOk :: fuNo 2) ok) (spYe (pS 1) 2) 2000 60 (.fn 30) (ptVals 0 [(pS 1), bA, dW 2]) (memT (ptObjs [(pS 1), bA, dW 2])) 3) = some (iP 0) := by kernel_rfl
theorem yfW1_2_0 (ok) : fstO (evDS (pgY Y (yOk :: fuAt 0) ok) (spYe (pS 1) 2) 2000 60 (.fn 30) (ptVals 0 [(pS 1), bA, dW 2]) (memT (ptObjs [(pS 1), bA, dW 2])) 3) = some (hFu 0) := by kernel_rfl
theorem yfW1_2_1 (ok) : fstO (evDS (pgY Y (yOk :: fuAt 1) ok) (spYe (pS 1) 2) 2000 60 (.fn 30) (ptVals 0 [(pS 1), bA, dW 2]) (memT (ptObjs [(pS 1), bA, dW 2])) 3) = some (hFu 1) := by kernel_rfl
theorem ygW1_3 (ok) : fstO (evDS (pgY Y (yOk :: fuNo 3) ok) (spYe (pS 1) 3) 2000 60 (.fn 30) (ptVals 0 [(pS 1), bA, dW 3]) (memT (ptObjs [(pS 1), bA, dW 3])) 3) = some (iP 0) := by kernel_rfl
theorem yfW1_3_0 (ok) : fstO (evDS (pgY Y (yOk :: fuAt 0) ok) (spYe (pS 1) 3) 2000 60 (.fn 30) (ptVals 0 [(pS 1), bA, dW 3]) (memT (ptObjs [(pS 1), bA, dW 3])) 3) = some (hFu 0) := by kernel_rfl
theorem yfW1_3_1 (ok) : fstO (evDS (pgY Y (yOk :: fuAt 1) ok) (spYe (pS 1) 3) 2000 60 (.fn 30) (ptVals 0 [(pS 1), bA, dW 3]) (memT (ptObjs [(pS 1), bA, dW 3])) 3) = some (hFu 1) := by kernel_rfl
theorem yfW1_3_2 (ok) : fstO (evDS (pgY Y (yOk :: fuAt 2) ok) (spYe (pS 1) 3) 2000 60 (.fn 30) (ptVals 0 [(pS 1), bA, dW 3]) (memT (ptObjs [(pS 1), bA, dW 3])) 3) = some (hFu 2) := by kernel_rfl
theorem ygW1_4 (ok) : fstO (evDS (pgY Y (yOk :: fuNo 4) ok) (spYe (pS 1) 4) 2000 60 (.fn 30) (ptVals 0 [(pS 1), bA, dW 4]) (memT (ptObjs [(pS 1), bA, dW 4])) 3) = some (iP 0) := by kernel_rfl
theorem yfW1_4_0 (ok) : fstO (evDS (pgY Y (yOk :: fuAt 0) ok) (spYe (pS 1) 4) 2000 60 (.fn 30) (ptVals 0 [(pS 1), bA, dW 4]) (memT (ptObjs [(pS 1), bA, dW 4])) 3) = some (hFu 0) := by kernel_rfl
theorem yfW1_4_1 (ok) : fstO (evDS (pgY Y (yOk :: fuAt 1) ok) (spYe (pS 1) 4) 2000 60 (.fn 30) (ptVals 0 [(pS 1), bA, dW 4]) (memT (ptObjs [(pS 1), bA, dW 4])) 3) = some (hFu 1) := by kernel_rfl
theorem yfW1_4_2 (ok) : fstO (evDS (pgY Y (yOk :: fuAt 2) ok) (spYe (pS 1) 4) 2000 60 (.fn 30) (ptVals 0 [(pS 1), bA, dW 4]) (memT (ptObjs [(pS 1), bA, dW 4])) 3) = some (hFu 2) := by kernel_rfl
theorem yfW1_4_3 (ok) : fstO (evDS (pgY Y (yOk :: fuAt 3) ok) (spYe (pS 1) 4) 2000 60 (.fn 30) (ptVals 0 [(pS 1), bA, dW 4]) (memT (ptObjs [(pS 1), bA, dW 4])) 3) = some (hFu 3) := by kernel_rfl
theorem ygW1_5 (ok) : fstO (evDS (pgY Y (yOk :: fuNo 5) ok) (spYe (pS 1) 5) 2000 60 (.fn 30) (ptVals 0 [(pS 1), bA, dW 5]) (memT (ptObjs [(pS 1), bA, dW 5])) 3) = some (iP 0) := by kernel_rfl
theorem yfW1_5_0 (ok) : fstO (evDS (pgY Y (yOk :: fuAt 0) ok) (spYe (pS 1) 5) 2000 60 (.fn 30) (ptVals 0 [(pS 1), bA, dW 5]) (memT (ptObjs [(pS 1), bA, dW 5])) 3) = some (hFu 0) := by kernel_rfl
theorem yfW1_5_1 (ok) : fstO (evDS (pgY Y (yOk :: fuAt 1) ok) (spYe (pS 1) 5) 2000 60 (.fn 30) (ptVals 0 [(pS 1), bA, dW 5]) (memT (ptObjs [(pS 1), bA, dW 5])) 3) = some (hFu 1) := by kernel_rfl
theorem yfW1_5_2 (ok) : fstO (evDS (pgY Y (yOk :: fuAt 2) ok) (spYe (pS 1) 5) 2000 60 (.fn 30) (ptVals 0 [(pS 1), bA, dW 5]) (memT (ptObjs [(pS 1), bA, dW 5])) 3) = some (hFu 2) := by kernel_rfl
theorem yfW1_5_3 (ok) : fstO (evDS (pgY Y (yOk :: fuAt 3) ok) (spYe (pS 1) 5) 2000 60 (.fn 30) (ptVals 0 [(pS 1), bA, dW 5]) (memT (ptObjs [(pS 1), bA, dW 5])) 3) = some (hFu 3) := by kernel_rfl
theorem yfW1_5_4 (ok) : fstO (evDS (pgY Y (yOk :: fuAt 4) ok) (spYe (pS 1) 5) 2000 60 (.fn 30) (ptVals 0 [(pS 1), bA, dW 5]) (memT (ptObjs [(pS 1), bA, dW 5])) 3) = some (hFu 4) := by kernel_rfl
theorem ygW1_6 (ok) : fstO (evDS (pgY Y (yOk :: fuNo 6) ok) (spYe (pS 1) 6) 2000 60 (.fn 30) (ptVals 0 [(pS 1), bA, dW 6]) (memT (ptObjs [(pS 1), bA, dW 6])) 3) = some (iP 0) := by kernel_rfl
theorem yfW1_6_0 (ok) : fstO (evDS (pgY Y (yOk :: fuAt 0) ok) (spYe (pS 1) 6) 2000 60 (.fn 30) (ptVals 0 [(pS 1), bA, dW 6]) (memT (ptObjs [(pS 1), bA, dW 6])) 3) = some (hFu 0) := by kernel_rfl
theorem yfW1_6_1 (ok) : fstO (evDS (pgY Y (yOk :: fuAt 1) ok) (spYe (pS 1) 6) 2000 60 (.fn 30) (ptVals 0 [(pS 1), bA, dW 6]) (memT (ptObjs [(pS 1), bA, dW 6])) 3) = some (hFu 1) := by kernel_rfl
theorem yfW1_6_2 (ok) : fstO (evDS (pgY Y (yOk :: fuAt 2) ok) (spYe (pS 1) 6) 2000 60 (.fn 30) (ptVals 0 [(pS 1), bA, dW 6]) (memT (ptObjs [(pS 1), bA, dW 6])) 3) = some (hFu 2) := by kernel_rfl
theorem yfW1_6_3 (ok) : fstO (evDS (pgY Y (yOk :: fuAt 3) ok) (spYe (pS 1) 6) 2000 60 (.fn 30) (ptVals 0 [(pS 1), bA, dW 6]) (memT (ptObjs [(pS 1), bA, dW 6])) 3) = some (hFu 3) := by kernel_rfl
theorem yfW1_6_4 (ok) : fstO (evDS (pgY Y (yOk :: fuAt 4) ok) (spYe (pS 1) 6) 2000 60 (.fn 30) (ptVals 0 [(pS 1), bA, dW 6]) (memT (ptObjs [(pS 1), bA, dW 6])) 3) = some (hFu 4) := by kernel_rfl
theorem yfW1_6_5 (ok) : fstO (evDS (pgY Y (yOk :: fuAt 5) ok) (spYe (pS 1) 6) 2000 60 (.fn 30) (ptVals 0 [(pS 1), bA, dW 6]) (memT (ptObjs [(pS 1), bA, dW 6])) 3) = some (hFu 5) := by kernel_rfl
theorem ybW2_true (ok) : fstO (evDS (pgY Y (yeBadF true) ok) (spYb (pS 2)) 2000 60 (.fn 30) (ptVals 0 [(pS 2), bA, dA]) (memT (ptObjs [(pS 2), bA, dA])) 3) = some (y3 (if true = true then 0 else 8)) := by kernel_rfl
theorem ybW2_false (ok) : fstO (evDS (pgY Y (yeBadF false) ok) (spYb (pS 2)) 2000 60 (.fn 30) (ptVals 0 [(pS 2), bA, dA]) (memT (ptObjs [(pS 2), bA, dA])) 3) = some (y3 (if false = true then 0 else 8)) := by kernel_rfl
theorem ygW2_0 (ok) : fstO (evDS (pgY Y (yOk :: fuNo 0) ok) (spYe (pS 2) 0) 2000 60 (.fn 30) (ptVals 0 [(pS 2), bA, dW 0]) (memT (ptObjs [(pS 2), bA, dW 0])) 3) = some (iP 0) := by kernel_rfl
theorem ygW2_1 (ok) : fstO (evDS (pgY Y (yOk :: fuNo 1) ok) (spYe (pS 2) 1) 2000 60 (.fn 30) (ptVals 0 [(pS 2), bA, dW 1]) (memT (ptObjs [(pS 2), bA, dW 1])) 3) = some (iP 0) := by kernel_rfl
theorem yfW2_1_0 (ok) : fstO (evDS (pgY Y (yOk :: fuAt 0) ok) (spYe (pS 2) 1) 2000 60 (.fn 30) (ptVals 0 [(pS 2), bA, dW 1]) (memT (ptObjs [(pS 2), bA, dW 1])) 3) = some (hFu 0) := by kernel_rfl
theorem ygW2_2 (ok) : fstO (evDS (pgY Y (yOk :: fuNo 2) ok) (spYe (pS 2) 2) 2000 60 (.fn 30) (ptVals 0 [(pS 2), bA, dW 2]) (memT (ptObjs [(pS 2), bA, dW 2])) 3) = some (iP 0) := by kernel_rfl
theorem yfW2_2_0 (ok) : fstO (evDS (pgY Y (yOk :: fuAt 0) ok) (spYe (pS 2) 2) 2000 60 (.fn 30) (ptVals 0 [(pS 2), bA, dW 2]) (memT (ptObjs [(pS 2), bA, dW 2])) 3) = some (hFu 0) := by kernel_rfl
theorem yfW2_2_1 (ok) : fstO (evDS (pgY Y (yOk :: fuAt 1) ok) (spYe (pS 2) 2) 2000 60 (.fn 30) (ptVals 0 [(pS 2), bA, dW 2]) (memT (ptObjs [(pS 2), bA, dW 2])) 3) = some (hFu 1) := by kernel_rfl
theorem ygW2_3 (ok) : fstO (evDS (pgY Y (yOk :: fuNo 3) ok) (spYe (pS 2) 3) 2000 60 (.fn 30) (ptVals 0 [(pS 2), bA, dW 3]) (memT (ptObjs [(pS 2), bA, dW 3])) 3) = some (iP 0) := by kernel_rfl
theorem yfW2_3_0 (ok) : fstO (evDS (pgY Y (yOk :: fuAt 0) ok) (spYe (pS 2) 3) 2000 60 (.fn 30) (ptVals 0 [(pS 2), bA, dW 3]) (memT (ptObjs [(pS 2), bA, dW 3])) 3) = some (hFu 0) := by kernel_rfl
theorem yfW2_3_1 (ok) : fstO (evDS (pgY Y (yOk :: fuAt 1) ok) (spYe (pS 2) 3) 2000 60 (.fn 30) (ptVals 0 [(pS 2), bA, dW 3]) (memT (ptObjs [(pS 2), bA, dW 3])) 3) = some (hFu 1) := by kernel_rfl
theorem yfW2_3_2 (ok) : fstO (evDS (pgY Y (yOk :: fuAt 2) ok) (spYe (pS 2) 3) 2000 60 (.fn 30) (ptVals 0 [(pS 2), bA, dW 3]) (memT (ptObjs [(pS 2), bA, dW 3])) 3) = some (hFu 2) := by kernel_rfl
theorem ygW2_4 (ok) : fstO (evDS (pgY Y (yOk :: fuNo 4) ok) (spYe (pS 2) 4) 2000 60 (.fn 30) (ptVals 0 [(pS 2), bA, dW 4]) (memT (ptObjs [(pS 2), bA, dW 4])) 3) = some (iP 0) := by kernel_rfl
theorem yfW2_4_0 (ok) : fstO (evDS (pgY Y (yOk :: fuAt 0) ok) (spYe (pS 2) 4) 2000 60 (.fn 30) (ptVals 0 [(pS 2), bA, dW 4]) (memT (ptObjs [(pS 2), bA, dW 4])) 3) = some (hFu 0) := by kernel_rfl
theorem yfW2_4_1 (ok) : fstO (evDS (pgY Y (yOk :: fuAt 1) ok) (spYe (pS 2) 4) 2000 60 (.fn 30) (ptVals 0 [(pS 2), bA, dW 4]) (memT (ptObjs [(pS 2), bA, dW 4])) 3) = some (hFu 1) := by kernel_rfl
theorem yfW2_4_2 (ok) : fstO (evDS (pgY Y (yOk :: fuAt 2) ok) (spYe (pS 2) 4) 2000 60 (.fn 30) (ptVals 0 [(pS 2), bA, dW 4]) (memT (ptObjs [(pS 2), bA, dW 4])) 3) = some (hFu 2) := by kernel_rfl
theorem yfW2_4_3 (ok) : fstO (evDS (pgY Y (yOk :: fuAt 3) ok) (spYe (pS 2) 4) 2000 60 (.fn 30) (ptVals 0 [(pS 2), bA, dW 4]) (memT (ptObjs [(pS 2), bA, dW 4])) 3) = some (hFu 3) := by kernel_rfl
theorem ygW2_5 (ok) : fstO (evDS (pgY Y (yOk :: fuNo 5) ok) (spYe (pS 2) 5) 2000 60 (.fn 30) (ptVals 0 [(pS 2), bA, dW 5]) (memT (ptObjs [(pS 2), bA, dW 5])) 3) = some (iP 0) := by kernel_rfl
theorem yfW2_5_0 (ok) : fstO (evDS (pgY Y (yOk :: fuAt 0) ok) (spYe (pS 2) 5) 2000 60 (.fn 30) (ptVals 0 [(pS 2), bA, dW 5]) (memT (ptObjs [(pS 2), bA, dW 5])) 3) = some (hFu 0) := by kernel_rfl
theorem yfW2_5_1 (ok) : fstO (evDS (pgY Y (yOk :: fuAt 1) ok) (spYe (pS 2) 5) 2000 60 (.fn 30) (ptVals 0 [(pS 2), bA, dW 5]) (memT (ptObjs [(pS 2), bA, dW 5])) 3) = some (hFu 1) := by kernel_rfl
theorem yfW2_5_2 (ok) : fstO (evDS (pgY Y (yOk :: fuAt 2) ok) (spYe (pS 2) 5) 2000 60 (.fn 30) (ptVals 0 [(pS 2), bA, dW 5]) (memT (ptObjs [(pS 2), bA, dW 5])) 3) = some (hFu 2) := by kernel_rfl
theorem yfW2_5_3 (ok) : fstO (evDS (pgY Y (yOk :: fuAt 3) ok) (spYe (pS 2) 5) 2000 60 (.fn 30) (ptVals 0 [(pS 2), bA, dW 5]) (memT (ptObjs [(pS 2), bA, dW 5])) 3) = some (hFu 3) := by kernel_rfl
theorem yfW2_5_4 (ok) : fstO (evDS (pgY Y (yOk :: fuAt 4) ok) (spYe (pS 2) 5) 2000 60 (.fn 30) (ptVals 0 [(pS 2), bA, dW 5]) (memT (ptObjs [(pS 2), bA, dW 5])) 3) = some (hFu 4) := by kernel_rfl
theorem ygW2_6 (ok) : fstO (evDS (pgY Y (yOk :: fuNo 6) ok) (spYe (pS 2) 6) 2000 60 (.fn 30) (ptVals 0 [(pS 2), bA, dW 6]) (memT (ptObjs [(pS 2), bA, dW 6])) 3) = some (iP 0) := by kernel_rfl
theorem yfW2_6_0 (ok) : fstO (evDS (pgY Y (yOk :: fuAt 0) ok) (spYe (pS 2) 6) 2000 60 (.fn 30) (ptVals 0 [(pS 2), bA, dW 6]) (memT (ptObjs [(pS 2), bA, dW 6])) 3) = some (hFu 0) := by kernel_rfl
theorem yfW2_6_1 (ok) : fstO (evDS (pgY Y (yOk :: fuAt 1) ok) (spYe (pS 2) 6) 2000 60 (.fn 30) (ptVals 0 [(pS 2), bA, dW 6]) (memT (ptObjs [(pS 2), bA, dW 6])) 3) = some (hFu 1) := by kernel_rfl
theorem yfW2_6_2 (ok) : fstO (evDS (pgY Y (yOk :: fuAt 2) ok) (spYe (pS 2) 6) 2000 60 (.fn 30) (ptVals 0 [(pS 2), bA, dW 6]) (memT (ptObjs [(pS 2), bA, dW 6])) 3) = some (hFu 2) := by kernel_rfl
theorem yfW2_6_3 (ok) : fstO (evDS (pgY Y (yOk :: fuAt 3) ok) (spYe (pS 2) 6) 2000 60 (.fn 30) (ptVals 0 [(pS 2), bA, dW 6]) (memT (ptObjs [(pS 2), bA, dW 6])) 3) = some (hFu 3) := by kernel_rfl
theorem yfW2_6_4 (ok) : fstO (evDS (pgY Y (yOk :: fuAt 4) ok) (spYe (pS 2) 6) 2000 60 (.fn 30) (ptVals 0 [(pS 2), bA, dW 6]) (memT (ptObjs [(pS 2), bA, dW 6])) 3) = some (hFu 4) := by kernel_rfl
theorem yfW2_6_5 (ok) : fstO (evDS (pgY Y (yOk :: fuAt 5) ok) (spYe (pS 2) 6) 2000 60 (.fn 30) (ptVals 0 [(pS 2), bA, dW 6]) (memT (ptObjs [(pS 2), bA, dW 6])) 3) = some (hFu 5) := by kernel_rfl
theorem ybW3_true (ok) : fstO (evDS (pgY Y (yeBadF true) ok) (spYb (pS 3)) 2000 60 (.fn 30) (ptVals 0 [(pS 3), bA, dA]) (memT (ptObjs [(pS 3), bA, dA])) 3) = some (y3 (if true = true then 0 else 8)) := by kernel_rfl
theorem ybW3_false (ok) : fstO (evDS (pgY Y (yeBadF false) ok) (spYb (pS 3)) 2000 60 (.fn 30) (ptVals 0 [(pS 3), bA, dA]) (memT (ptObjs [(pS 3), bA, dA])) 3) = some (y3 (if false = true then 0 else 8)) := by kernel_rfl
theorem ygW3_0 (ok) : fstO (evDS (pgY Y (yOk :: fuNo 0) ok) (spYe (pS 3) 0) 2000 60 (.fn 30) (ptVals 0 [(pS 3), bA, dW 0]) (memT (ptObjs [(pS 3), bA, dW 0])) 3) = some (iP 0) := by kernel_rfl
theorem ygW3_1 (ok) : fstO (evDS (pgY Y (yOk :: fuNo 1) ok) (spYe (pS 3) 1) 2000 60 (.fn 30) (ptVals 0 [(pS 3), bA, dW 1]) (memT (ptObjs [(pS 3), bA, dW 1])) 3) = some (iP 0) := by kernel_rfl
theorem yfW3_1_0 (ok) : fstO (evDS (pgY Y (yOk :: fuAt 0) ok) (spYe (pS 3) 1) 2000 60 (.fn 30) (ptVals 0 [(pS 3), bA, dW 1]) (memT (ptObjs [(pS 3), bA, dW 1])) 3) = some (hFu 0) := by kernel_rfl
theorem ygW3_2 (ok) : fstO (evDS (pgY Y (yOk :: fuNo 2) ok) (spYe (pS 3) 2) 2000 60 (.fn 30) (ptVals 0 [(pS 3), bA, dW 2]) (memT (ptObjs [(pS 3), bA, dW 2])) 3) = some (iP 0) := by kernel_rfl
theorem yfW3_2_0 (ok) : fstO (evDS (pgY Y (yOk :: fuAt 0) ok) (spYe (pS 3) 2) 2000 60 (.fn 30) (ptVals 0 [(pS 3), bA, dW 2]) (memT (ptObjs [(pS 3), bA, dW 2])) 3) = some (hFu 0) := by kernel_rfl
theorem yfW3_2_1 (ok) : fstO (evDS (pgY Y (yOk :: fuAt 1) ok) (spYe (pS 3) 2) 2000 60 (.fn 30) (ptVals 0 [(pS 3), bA, dW 2]) (memT (ptObjs [(pS 3), bA, dW 2])) 3) = some (hFu 1) := by kernel_rfl
theorem ygW3_3 (ok) : fstO (evDS (pgY Y (yOk :: fuNo 3) ok) (spYe (pS 3) 3) 2000 60 (.fn 30) (ptVals 0 [(pS 3), bA, dW 3]) (memT (ptObjs [(pS 3), bA, dW 3])) 3) = some (iP 0) := by kernel_rfl
theorem yfW3_3_0 (ok) : fstO (evDS (pgY Y (yOk :: fuAt 0) ok) (spYe (pS 3) 3) 2000 60 (.fn 30) (ptVals 0 [(pS 3), bA, dW 3]) (memT (ptObjs [(pS 3), bA, dW 3])) 3) = some (hFu 0) := by kernel_rfl
theorem yfW3_3_1 (ok) : fstO (evDS (pgY Y (yOk :: fuAt 1) ok) (spYe (pS 3) 3) 2000 60 (.fn 30) (ptVals 0 [(pS 3), bA, dW 3]) (memT (ptObjs [(pS 3), bA, dW 3])) 3) = some (hFu 1) := by kernel_rfl
theorem yfW3_3_2 (ok) : fstO (evDS (pgY Y (yOk :: fuAt 2) ok) (spYe (pS 3) 3) 2000 60 (.fn 30) (ptVals 0 [(pS 3), bA, dW 3]) (memT (ptObjs [(pS 3), bA, dW 3])) 3) = some (hFu 2) := by kernel_rfl
theorem ygW3_4 (ok) : fstO (evDS (pgY Y (yOk :: fuNo 4) ok) (spYe (pS 3) 4) 2000 60 (.fn 30) (ptVals 0 [(pS 3), bA, dW 4]) (memT (ptObjs [(pS 3), bA, dW 4])) 3) = some (iP 0) := by kernel_rfl
theorem yfW3_4_0 (ok) : fstO (evDS (pgY Y (yOk :: fuAt 0) ok) (spYe (pS 3) 4) 2000 60 (.fn 30) (ptVals 0 [(pS 3), bA, dW 4]) (memT (ptObjs [(pS 3), bA, dW 4])) 3) = some (hFu 0) := by kernel_rfl
theorem yfW3_4_1 (ok) : fstO (evDS (pgY Y (yOk :: fuAt 1) ok) (spYe (pS 3) 4) 2000 60 (.fn 30) (ptVals 0 [(pS 3), bA, dW 4]) (memT (ptObjs [(pS 3), bA, dW 4])) 3) = some (hFu 1) := by kernel_rfl
theorem yfW3_4_2 (ok) : fstO (evDS (pgY Y (yOk :: fuAt 2) ok) (spYe (pS 3) 4) 2000 60 (.fn 30) (ptVals 0 [(pS 3), bA, dW 4]) (memT (ptObjs [(pS 3), bA, dW 4])) 3) = some (hFu 2) := by kernel_rfl
theorem yfW3_4_3 (ok) : fstO (evDS (pgY Y (yOk :: fuAt 3) ok) (spYe (pS 3) 4) 2000 60 (.fn 30) (ptVals 0 [(pS 3), bA, dW 4]) (memT (ptObjs [(pS 3), bA, dW 4])) 3) = some (hFu 3) := by kernel_rfl
theorem ygW3_5 (ok) : fstO (evDS (pgY Y (yOk :: fuNo 5) ok) (spYe (pS 3) 5) 2000 60 (.fn 30) (ptVals 0 [(pS 3), bA, dW 5]) (memT (ptObjs [(pS 3), bA, dW 5])) 3) = some (iP 0) := by kernel_rfl
theorem yfW3_5_0 (ok) : fstO (evDS (pgY Y (yOk :: fuAt 0) ok) (spYe (pS 3) 5) 2000 60 (.fn 30) (ptVals 0 [(pS 3), bA, dW 5]) (memT (ptObjs [(pS 3), bA, dW 5])) 3) = some (hFu 0) := by kernel_rfl
theorem yfW3_5_1 (ok) : fstO (evDS (pgY Y (yOk :: fuAt 1) ok) (spYe (pS 3) 5) 2000 60 (.fn 30) (ptVals 0 [(pS 3), bA, dW 5]) (memT (ptObjs [(pS 3), bA, dW 5])) 3) = some (hFu 1) := by kernel_rfl
theorem yfW3_5_2 (ok) : fstO (evDS (pgY Y (yOk :: fuAt 2) ok) (spYe (pS 3) 5) 2000 60 (.fn 30) (ptVals 0 [(pS 3), bA, dW 5]) (memT (ptObjs [(pS 3), bA, dW 5])) 3) = some (hFu 2) := by kernel_rfl
theorem yfW3_5_3 (ok) : fstO (evDS (pgY Y (yOk :: fuAt 3) ok) (spYe (pS 3) 5) 2000 60 (.fn 30) (ptVals 0 [(pS 3), bA, dW 5]) (memT (ptObjs [(pS 3), bA, dW 5])) 3) = some (hFu 3) := by kernel_rfl
theorem yfW3_5_4 (ok) : fstO (evDS (pgY Y (yOk :: fuAt 4) ok) (spYe (pS 3) 5) 2000 60 (.fn 30) (ptVals 0 [(pS 3), bA, dW 5]) (memT (ptObjs [(pS 3), bA, dW 5])) 3) = some (hFu 4) := by kernel_rfl
theorem ygW3_6 (ok) : fstO (evDS (pgY Y (yOk :: fuNo 6) ok) (spYe (pS 3) 6) 2000 60 (.fn 30) (ptVals 0 [(pS 3), bA, dW 6]) (memT (ptObjs [(pS 3), bA, dW 6])) 3) = some (iP 0) := by kernel_rfl
theorem yfW3_6_0 (ok) : fstO (evDS (pgY Y (yOk :: fuAt 0) ok) (spYe (pS 3) 6) 2000 60 (.fn 30) (ptVals 0 [(pS 3), bA, dW 6]) (memT (ptObjs [(pS 3), bA, dW 6])) 3) = some (hFu 0) := by kernel_rfl
theorem yfW3_6_1 (ok) : fstO (evDS (pgY Y (yOk :: fuAt 1) ok) (spYe (pS 3) 6) 2000 60 (.fn 30) (ptVals 0 [(pS 3), bA, dW 6]) (memT (ptObjs [(pS 3), bA, dW 6])) 3) = some (hFu 1) := by kernel_rfl
theorem yfW3_6_2 (ok) : fstO (evDS (pgY Y (yOk :: fuAt 2) ok) (spYe (pS 3) 6) 2000 60 (.fn 30) (ptVals 0 [(pS 3), bA, dW 6]) (memT (ptObjs [(pS 3), bA, dW 6])) 3) = some (hFu 2) := by kernel_rfl
theorem yfW3_6_3 (ok) : fstO (evDS (pgY Y (yOk :: fuAt 3) ok) (spYe (pS 3) 6) 2000 60 (.fn 30) (ptVals 0 [(pS 3), bA, dW 6]) (memT (ptObjs [(pS 3), bA, dW 6])) 3) = some (hFu 3) := by kernel_rfl
theorem yfW3_6_4 (ok) : fstO (evDS (pgY Y (yOk :: fuAt 4) ok) (spYe (pS 3) 6) 2000 60 (.fn 30) (ptVals 0 [(pS 3), bA, dW 6]) (memT (ptObjs [(pS 3), bA, dW 6])) 3) = some (hFu 4) := by kernel_rfl
theorem yfW3_6_5 (ok) : fstO (evDS (pgY Y (yOk :: fuAt 5) ok) (spYe (pS 3) 6) 2000 60 (.fn 30) (ptVals 0 [(pS 3), bA, dW 6]) (memT (ptObjs [(pS 3), bA, dW 6])) 3) = some (hFu 5) := by kernel_rfl
theorem ybW4_true (ok) : fstO (evDS (pgY Y (yeBadF true) ok) (spYb (pS 4)) 2000 60 (.fn 30) (ptVals 0 [(pS 4), bA, dA]) (memT (ptObjs [(pS 4), bA, dA])) 3) = some (y3 (if true = true then 0 else 8)) := by kernel_rfl
theorem ybW4_false (ok) : fstO (evDS (pgY Y (yeBadF false) ok) (spYb (pS 4)) 2000 60 (.fn 30) (ptVals 0 [(pS 4), bA, dA]) (memT (ptObjs [(pS 4), bA, dA])) 3) = some (y3 (if false = true then 0 else 8)) := by kernel_rfl
theorem ygW4_0 (ok) : fstO (evDS (pgY Y (yOk :: fuNo 0) ok) (spYe (pS 4) 0) 2000 60 (.fn 30) (ptVals 0 [(pS 4), bA, dW 0]) (memT (ptObjs [(pS 4), bA, dW 0])) 3) = some (iP 0) := by kernel_rfl
theorem ygW4_1 (ok) : fstO (evDS (pgY Y (yOk :: fuNo 1) ok) (spYe (pS 4) 1) 2000 60 (.fn 30) (ptVals 0 [(pS 4), bA, dW 1]) (memT (ptObjs [(pS 4), bA, dW 1])) 3) = some (iP 0) := by kernel_rfl
theorem yfW4_1_0 (ok) : fstO (evDS (pgY Y (yOk :: fuAt 0) ok) (spYe (pS 4) 1) 2000 60 (.fn 30) (ptVals 0 [(pS 4), bA, dW 1]) (memT (ptObjs [(pS 4), bA, dW 1])) 3) = some (hFu 0) := by kernel_rfl
theorem ygW4_2 (ok) : fstO (evDS (pgY Y (yOk :: fuNo 2) ok) (spYe (pS 4) 2) 2000 60 (.fn 30) (ptVals 0 [(pS 4), bA, dW 2]) (memT (ptObjs [(pS 4), bA, dW 2])) 3) = some (iP 0) := by kernel_rfl
theorem yfW4_2_0 (ok) : fstO (evDS (pgY Y (yOk :: fuAt 0) ok) (spYe (pS 4) 2) 2000 60 (.fn 30) (ptVals 0 [(pS 4), bA, dW 2]) (memT (ptObjs [(pS 4), bA, dW 2])) 3) = some (hFu 0) := by kernel_rfl
theorem yfW4_2_1 (ok) : fstO (evDS (pgY Y (yOk :: fuAt 1) ok) (spYe (pS 4) 2) 2000 60 (.fn 30) (ptVals 0 [(pS 4), bA, dW 2]) (memT (ptObjs [(pS 4), bA, dW 2])) 3) = some (hFu 1) := by kernel_rfl
theorem ygW4_3 (ok) : fstO (evDS (pgY Y (yOk :: fuNo 3) ok) (spYe (pS 4) 3) 2000 60 (.fn 30) (ptVals 0 [(pS 4), bA, dW 3]) (memT (ptObjs [(pS 4), bA, dW 3])) 3) = some (iP 0) := by kernel_rfl
theorem yfW4_3_0 (ok) : fstO (evDS (pgY Y (yOk :: fuAt 0) ok) (spYe (pS 4) 3) 2000 60 (.fn 30) (ptVals 0 [(pS 4), bA, dW 3]) (memT (ptObjs [(pS 4), bA, dW 3])) 3) = some (hFu 0) := by kernel_rfl
theorem yfW4_3_1 (ok) : fstO (evDS (pgY Y (yOk :: fuAt 1) ok) (spYe (pS 4) 3) 2000 60 (.fn 30) (ptVals 0 [(pS 4), bA, dW 3]) (memT (ptObjs [(pS 4), bA, dW 3])) 3) = some (hFu 1) := by kernel_rfl
theorem yfW4_3_2 (ok) : fstO (evDS (pgY Y (yOk :: fuAt 2) ok) (spYe (pS 4) 3) 2000 60 (.fn 30) (ptVals 0 [(pS 4), bA, dW 3]) (memT (ptObjs [(pS 4), bA, dW 3])) 3) = some (hFu 2) := by kernel_rfl
theorem ygW4_4 (ok) : fstO (evDS (pgY Y (yOk :: fuNo 4) ok) (spYe (pS 4) 4) 2000 60 (.fn 30) (ptVals 0 [(pS 4), bA, dW 4]) (memT (ptObjs [(pS 4), bA, dW 4])) 3) = some (iP 0) := by kernel_rfl
theorem yfW4_4_0 (ok) : fstO (evDS (pgY Y (yOk :: fuAt 0) ok) (spYe (pS 4) 4) 2000 60 (.fn 30) (ptVals 0 [(pS 4), bA, dW 4]) (memT (ptObjs [(pS 4), bA, dW 4])) 3) = some (hFu 0) := by kernel_rfl
theorem yfW4_4_1 (ok) : fstO (evDS (pgY Y (yOk :: fuAt 1) ok) (spYe (pS 4) 4) 2000 60 (.fn 30) (ptVals 0 [(pS 4), bA, dW 4]) (memT (ptObjs [(pS 4), bA, dW 4])) 3) = some (hFu 1) := by kernel_rfl
theorem yfW4_4_2 (ok) : fstO (evDS (pgY Y (yOk :: fuAt 2) ok) (spYe (pS 4) 4) 2000 60 (.fn 30) (ptVals 0 [(pS 4), bA, dW 4]) (memT (ptObjs [(pS 4), bA, dW 4])) 3) = some (hFu 2) := by kernel_rfl
theorem yfW4_4_3 (ok) : fstO (evDS (pgY Y (yOk :: fuAt 3) ok) (spYe (pS 4) 4) 2000 60 (.fn 30) (ptVals 0 [(pS 4), bA, dW 4]) (memT (ptObjs [(pS 4), bA, dW 4])) 3) = some (hFu 3) := by kernel_rfl
theorem ygW4_5 (ok) : fstO (evDS (pgY Y (yOk :: fuNo 5) ok) (spYe (pS 4) 5) 2000 60 (.fn 30) (ptVals 0 [(pS 4), bA, dW 5]) (memT (ptObjs [(pS 4), bA, dW 5])) 3) = some (iP 0) := by kernel_rfl
theorem yfW4_5_0 (ok) : fstO (evDS (pgY Y (yOk :: fuAt 0) ok) (spYe (pS 4) 5) 2000 60 (.fn 30) (ptVals 0 [(pS 4), bA, dW 5]) (memT (ptObjs [(pS 4), bA, dW 5])) 3) = some (hFu 0) := by kernel_rfl
theorem yfW4_5_1 (ok) : fstO (evDS (pgY Y (yOk :: fuAt 1) ok) (spYe (pS 4) 5) 2000 60 (.fn 30) (ptVals 0 [(pS 4), bA, dW 5]) (memT (ptObjs [(pS 4), bA, dW 5])) 3) = some (hFu 1) := by kernel_rfl
theorem yfW4_5_2 (ok) : fstO (evDS (pgY Y (yOk :: fuAt 2) ok) (spYe (pS 4) 5) 2000 60 (.fn 30) (ptVals 0 [(pS 4), bA, dW 5]) (memT (ptObjs [(pS 4), bA, dW 5])) 3) = some (hFu 2) := by kernel_rfl
theorem yfW4_5_3 (ok) : fstO (evDS (pgY Y (yOk :: fuAt 3) ok) (spYe (pS 4) 5) 2000 60 (.fn 30) (ptVals 0 [(pS 4), bA, dW 5]) (memT (ptObjs [(pS 4), bA, dW 5])) 3) = some (hFu 3) := by kernel_rfl
theorem yfW4_5_4 (ok) : fstO (evDS (pgY Y (yOk :: fuAt 4) ok) (spYe (pS 4) 5) 2000 60 (.fn 30) (ptVals 0 [(pS 4), bA, dW 5]) (memT (ptObjs [(pS 4), bA, dW 5])) 3) = some (hFu 4) := by kernel_rfl
theorem ygW4_6 (ok) : fstO (evDS (pgY Y (yOk :: fuNo 6) ok) (spYe (pS 4) 6) 2000 60 (.fn 30) (ptVals 0 [(pS 4), bA, dW 6]) (memT (ptObjs [(pS 4), bA, dW 6])) 3) = some (iP 0) := by kernel_rfl
theorem yfW4_6_0 (ok) : fstO (evDS (pgY Y (yOk :: fuAt 0) ok) (spYe (pS 4) 6) 2000 60 (.fn 30) (ptVals 0 [(pS 4), bA, dW 6]) (memT (ptObjs [(pS 4), bA, dW 6])) 3) = some (hFu 0) := by kernel_rfl
theorem yfW4_6_1 (ok) : fstO (evDS (pgY Y (yOk :: fuAt 1) ok) (spYe (pS 4) 6) 2000 60 (.fn 30) (ptVals 0 [(pS 4), bA, dW 6]) (memT (ptObjs [(pS 4), bA, dW 6])) 3) = some (hFu 1) := by kernel_rfl
theorem yfW4_6_2 (ok) : fstO (evDS (pgY Y (yOk :: fuAt 2) ok) (spYe (pS 4) 6) 2000 60 (.fn 30) (ptVals 0 [(pS 4), bA, dW 6]) (memT (ptObjs [(pS 4), bA, dW 6])) 3) = some (hFu 2) := by kernel_rfl
theorem yfW4_6_3 (ok) : fstO (evDS (pgY Y (yOk :: fuAt 3) ok) (spYe (pS 4) 6) 2000 60 (.fn 30) (ptVals 0 [(pS 4), bA, dW 6]) (memT (ptObjs [(pS 4), bA, dW 6])) 3) = some (hFu 3) := by kernel_rfl
theorem yfW4_6_4 (ok) : fstO (evDS (pgY Y (yOk :: fuAt 4) ok) (spYe (pS 4) 6) 2000 60 (.fn 30) (ptVals 0 [(pS 4), bA, dW 6]) (memT (ptObjs [(pS 4), bA, dW 6])) 3) = some (hFu 4) := by kernel_rfl
theorem yfW4_6_5 (ok) : fstO (evDS (pgY Y (yOk :: fuAt 5) ok) (spYe (pS 4) 6) 2000 60 (.fn 30) (ptVals 0 [(pS 4), bA, dW 6]) (memT (ptObjs [(pS 4), bA, dW 6])) 3) = some (hFu 5) := by kernel_rfl
theorem ybE_true (ok) : fstO (evDS (pgY Y (yeBadF true) ok) (spYb sE) 2000 60 (.fn 30) (ptVals 0 [sE, bA, dA]) (memT (ptObjs [sE, bA, dA])) 3) = some (y3 (if true = true then 0 else 8)) := by kernel_rfl
theorem ybE_false (ok) : fstO (evDS (pgY Y (yeBadF false) ok) (spYb sE) 2000 60 (.fn 30) (ptVals 0 [sE, bA, dA]) (memT (ptObjs [sE, bA, dA])) 3) = some (y3 (if false = true then 0 else 8)) := by kernel_rfl
theorem ygE_0 (ok) : fstO (evDS (pgY Y (yOk :: fuNo 0) ok) (spYe sE 0) 2000 60 (.fn 30) (ptVals 0 [sE, bA, dW 0]) (memT (ptObjs [sE, bA, dW 0])) 3) = some (iP 0) := by kernel_rfl
theorem ygE_1 (ok) : fstO (evDS (pgY Y (yOk :: fuNo 1) ok) (spYe sE 1) 2000 60 (.fn 30) (ptVals 0 [sE, bA, dW 1]) (memT (ptObjs [sE, bA, dW 1])) 3) = some (iP 0) := by kernel_rfl
theorem ygE_2 (ok) : fstO (evDS (pgY Y (yOk :: fuNo 2) ok) (spYe sE 2) 2000 60 (.fn 30) (ptVals 0 [sE, bA, dW 2]) (memT (ptObjs [sE, bA, dW 2])) 3) = some (iP 0) := by kernel_rfl
theorem ygE_3 (ok) : fstO (evDS (pgY Y (yOk :: fuNo 3) ok) (spYe sE 3) 2000 60 (.fn 30) (ptVals 0 [sE, bA, dW 3]) (memT (ptObjs [sE, bA, dW 3])) 3) = some (iP 0) := by kernel_rfl
theorem ygE_4 (ok) : fstO (evDS (pgY Y (yOk :: fuNo 4) ok) (spYe sE 4) 2000 60 (.fn 30) (ptVals 0 [sE, bA, dW 4]) (memT (ptObjs [sE, bA, dW 4])) 3) = some (iP 0) := by kernel_rfl
theorem ygE_5 (ok) : fstO (evDS (pgY Y (yOk :: fuNo 5) ok) (spYe sE 5) 2000 60 (.fn 30) (ptVals 0 [sE, bA, dW 5]) (memT (ptObjs [sE, bA, dW 5])) 3) = some (iP 0) := by kernel_rfl
theorem ygE_6 (ok) : fstO (evDS (pgY Y (yOk :: fuNo 6) ok) (spYe sE 6) 2000 60 (.fn 30) (ptVals 0 [sE, bA, dW 6]) (memT (ptObjs [sE, bA, dW 6])) 3) = some (iP 0) := by kernel_rfl
theorem agE0 (ok) : fstO (evDS (pgY Y ([(0, hLb, iP 0, true), (1, iP 0, hLb, false)]) ok) (spY []) 2000 60 (.fn 34) (ptVals 0 [sE, bA]) (memT (ptObjs [sE, bA])) 3) = some (iP 0) := by kernel_rfl
theorem agE1 (ok) : fstO (evDS (pgY Y ([(0, hLb, iP 0, false)]) ok) (spY []) 2000 60 (.fn 34) (ptVals 0 [sE, bA]) (memT (ptObjs [sE, bA])) 3) = some (iP 10) := by kernel_rfl
theorem aaW (ok) : fstO (evDS (pgY Y (fW hYe) ok) (spY [eSys, eYe sE dA]) 2000 60 (.fn 7) (ptVals 0 [sA, bA, dA]) (memT (ptObjs [sA, bA, dA])) 3) = some (.tuple #[.slice none 0 0, fi2 hE hYe]) := by kernel_rfl
theorem aaX (ok) : fstO (evDS (pgY Y (fX hYe) ok) (spY [eSys, eYe sA dA]) 2000 60 (.fn 7) (ptVals 0 [sA, bA, dA]) (memT (ptObjs [sA, bA, dA])) 3) = some (.tuple #[.slice none 0 0, fi2 (iP 0) hYe]) := by kernel_rfl
theorem fsW (ok) : fstO (evDS (pgY Y (fW hYe) ok) (spY [eSys, eYe sE dA]) 2000 60 (.fn 11) (ptVals 0 [sA, bA, dA]) (memT (ptObjs [sA, bA, dA])) 3) = some (.tuple #[.agg #[iP 0, iP 0], fi2 hE hYe]) := by kernel_rfl
theorem fsX (ok) : fstO (evDS (pgY Y (fX hYe) ok) (spY [eSys, eYe sA dA]) 2000 60 (.fn 11) (ptVals 0 [sA, bA, dA]) (memT (ptObjs [sA, bA, dA])) 3) = some (.tuple #[.agg #[iP 0, iP 0], fi2 (iP 0) hYe]) := by kernel_rfl
theorem gnW (ok) : fstO (evDS (pgY Y (fW hA) ok) (spY [eSys, eAg sE]) 2000 60 (.fn 12) (ptVals 0 [sA, bA]) (memT (ptObjs [sA, bA])) 3) = some (.tuple #[iP 0, fi2 hE hA]) := by kernel_rfl
theorem gnX (ok) : fstO (evDS (pgY Y (fX hA) ok) (spY [eSys, eAg sA]) 2000 60 (.fn 12) (ptVals 0 [sA, bA]) (memT (ptObjs [sA, bA])) 3) = some (.tuple #[iP 0, fi2 (iP 0) hA]) := by kernel_rfl
theorem aaG_0 (ok) : fst2 8 (evDS (pgY Y (fG) ok) (spAa 0) 2000 60 (.fn 7) (ptVals 0 [sA, bA, dW 0]) (memT (ptObjs [sA, bA, dW 0])) 3) = some (.tuple #[osl hLb 8, iP 0], some (.opq 54 [])) := by kernel_rfl
theorem raG_0 (ok) : fst2 4 (evDS (pgY Y ([]) ok) (spRa 0) 2000 60 (.fn 17) (ptVals 0 [sO, bO, dW 0]) (memT (ptObjs [sO, bO, dW 0])) 3) = some (.tuple #[osl hLb 4, iP 0], some (.opq 54 [])) := by kernel_rfl
theorem rfE_0 (ok) : fstO (evDS (pgY Y ([(0, hCe, iP 0, false)]) ok) (spY [eRa (dW 0) hCe]) 2000 60 (.fn 18) (ptVals 0 [sO, bO, dW 0]) (memT (ptObjs [sO, bO, dW 0])) 3) = some (.tuple #[.agg #[iP 0, iP 0], hCe]) := by kernel_rfl
theorem rfG_0 (ok) : fstO (evDS (pgY Y (shNoR 0) ok) (spRf (dW 0) 0) 2000 60 (.fn 18) (ptVals 0 [sO, bO, dW 0]) (memT (ptObjs [sO, bO, dW 0])) 3) = some (.tuple #[.agg #[iP 0, iP 0], iP 12]) := by kernel_rfl
theorem aaG_1 (ok) : fst2 16 (evDS (pgY Y (fG) ok) (spAa 1) 2000 60 (.fn 7) (ptVals 0 [sA, bA, dW 1]) (memT (ptObjs [sA, bA, dW 1])) 3) = some (.tuple #[osl hLs 16, iP 0], some (.opq 71 [])) := by kernel_rfl
theorem raG_1 (ok) : fst2 5 (evDS (pgY Y ([]) ok) (spRa 1) 2000 60 (.fn 17) (ptVals 0 [sO, bO, dW 1]) (memT (ptObjs [sO, bO, dW 1])) 3) = some (.tuple #[osl hLs 5, iP 0], some (.opq 71 [])) := by kernel_rfl
theorem raF_1_0 (ok) : fstO (evDS (pgY Y ([]) ok) (spRn 0) 2000 60 (.fn 17) (ptVals 0 [sO, bO, dW 1]) (memT (ptObjs [sO, bO, dW 1])) 3) = some (nilE (iP 16)) := by kernel_rfl
theorem rfE_1 (ok) : fstO (evDS (pgY Y ([(0, hCe, iP 0, false)]) ok) (spY [eRa (dW 1) hCe]) 2000 60 (.fn 18) (ptVals 0 [sO, bO, dW 1]) (memT (ptObjs [sO, bO, dW 1])) 3) = some (.tuple #[.agg #[iP 0, iP 0], hCe]) := by kernel_rfl
theorem rfG_1 (ok) : fstO (evDS (pgY Y (shNoR 1) ok) (spRf (dW 1) 1) 2000 60 (.fn 18) (ptVals 0 [sO, bO, dW 1]) (memT (ptObjs [sO, bO, dW 1])) 3) = some (.tuple #[.agg #[iP 0, iP 0], iP 12]) := by kernel_rfl
theorem rfS_1_0 (ok) : fstO (evDS (pgY Y (shAtR 0) ok) (spRf (dW 1) 1) 2000 60 (.fn 18) (ptVals 0 [sO, bO, dW 1]) (memT (ptObjs [sO, bO, dW 1])) 3) = some (.tuple #[.agg #[iP 0, hSh 0], iP 0]) := by kernel_rfl
theorem aaG_2 (ok) : fst2 18 (evDS (pgY Y (fG) ok) (spAa 2) 2000 60 (.fn 7) (ptVals 0 [sA, bA, dW 2]) (memT (ptObjs [sA, bA, dW 2])) 3) = some (.tuple #[osl hLs 18, iP 0], some (.opq 72 [])) := by kernel_rfl
theorem raG_2 (ok) : fst2 6 (evDS (pgY Y ([]) ok) (spRa 2) 2000 60 (.fn 17) (ptVals 0 [sO, bO, dW 2]) (memT (ptObjs [sO, bO, dW 2])) 3) = some (.tuple #[osl hLs 6, iP 0], some (.opq 72 [])) := by kernel_rfl
theorem raF_2_0 (ok) : fstO (evDS (pgY Y ([]) ok) (spRn 0) 2000 60 (.fn 17) (ptVals 0 [sO, bO, dW 2]) (memT (ptObjs [sO, bO, dW 2])) 3) = some (nilE (iP 16)) := by kernel_rfl
theorem raF_2_1 (ok) : fstO (evDS (pgY Y ([]) ok) (spRn 1) 2000 60 (.fn 17) (ptVals 0 [sO, bO, dW 2]) (memT (ptObjs [sO, bO, dW 2])) 3) = some (nilE (iP 16)) := by kernel_rfl
theorem rfE_2 (ok) : fstO (evDS (pgY Y ([(0, hCe, iP 0, false)]) ok) (spY [eRa (dW 2) hCe]) 2000 60 (.fn 18) (ptVals 0 [sO, bO, dW 2]) (memT (ptObjs [sO, bO, dW 2])) 3) = some (.tuple #[.agg #[iP 0, iP 0], hCe]) := by kernel_rfl
theorem rfG_2 (ok) : fstO (evDS (pgY Y (shNoR 2) ok) (spRf (dW 2) 2) 2000 60 (.fn 18) (ptVals 0 [sO, bO, dW 2]) (memT (ptObjs [sO, bO, dW 2])) 3) = some (.tuple #[.agg #[iP 0, iP 0], iP 12]) := by kernel_rfl
theorem rfS_2_0 (ok) : fstO (evDS (pgY Y (shAtR 0) ok) (spRf (dW 2) 2) 2000 60 (.fn 18) (ptVals 0 [sO, bO, dW 2]) (memT (ptObjs [sO, bO, dW 2])) 3) = some (.tuple #[.agg #[iP 0, hSh 0], iP 0]) := by kernel_rfl
theorem rfS_2_1 (ok) : fstO (evDS (pgY Y (shAtR 1) ok) (spRf (dW 2) 2) 2000 60 (.fn 18) (ptVals 0 [sO, bO, dW 2]) (memT (ptObjs [sO, bO, dW 2])) 3) = some (.tuple #[.agg #[iP 1, hSh 1], iP 0]) := by kernel_rfl
theorem aaG_3 (ok) : fst2 20 (evDS (pgY Y (fG) ok) (spAa 3) 2000 60 (.fn 7) (ptVals 0 [sA, bA, dW 3]) (memT (ptObjs [sA, bA, dW 3])) 3) = some (.tuple #[osl hLs 20, iP 0], some (.opq 73 [])) := by kernel_rfl
theorem raG_3 (ok) : fst2 7 (evDS (pgY Y ([]) ok) (spRa 3) 2000 60 (.fn 17) (ptVals 0 [sO, bO, dW 3]) (memT (ptObjs [sO, bO, dW 3])) 3) = some (.tuple #[osl hLs 7, iP 0], some (.opq 73 [])) := by kernel_rfl
theorem raF_3_0 (ok) : fstO (evDS (pgY Y ([]) ok) (spRn 0) 2000 60 (.fn 17) (ptVals 0 [sO, bO, dW 3]) (memT (ptObjs [sO, bO, dW 3])) 3) = some (nilE (iP 16)) := by kernel_rfl
theorem raF_3_1 (ok) : fstO (evDS (pgY Y ([]) ok) (spRn 1) 2000 60 (.fn 17) (ptVals 0 [sO, bO, dW 3]) (memT (ptObjs [sO, bO, dW 3])) 3) = some (nilE (iP 16)) := by kernel_rfl
theorem raF_3_2 (ok) : fstO (evDS (pgY Y ([]) ok) (spRn 2) 2000 60 (.fn 17) (ptVals 0 [sO, bO, dW 3]) (memT (ptObjs [sO, bO, dW 3])) 3) = some (nilE (iP 16)) := by kernel_rfl
theorem rfE_3 (ok) : fstO (evDS (pgY Y ([(0, hCe, iP 0, false)]) ok) (spY [eRa (dW 3) hCe]) 2000 60 (.fn 18) (ptVals 0 [sO, bO, dW 3]) (memT (ptObjs [sO, bO, dW 3])) 3) = some (.tuple #[.agg #[iP 0, iP 0], hCe]) := by kernel_rfl
theorem rfG_3 (ok) : fstO (evDS (pgY Y (shNoR 3) ok) (spRf (dW 3) 3) 2000 60 (.fn 18) (ptVals 0 [sO, bO, dW 3]) (memT (ptObjs [sO, bO, dW 3])) 3) = some (.tuple #[.agg #[iP 0, iP 0], iP 12]) := by kernel_rfl
theorem rfS_3_0 (ok) : fstO (evDS (pgY Y (shAtR 0) ok) (spRf (dW 3) 3) 2000 60 (.fn 18) (ptVals 0 [sO, bO, dW 3]) (memT (ptObjs [sO, bO, dW 3])) 3) = some (.tuple #[.agg #[iP 0, hSh 0], iP 0]) := by kernel_rfl
theorem rfS_3_1 (ok) : fstO (evDS (pgY Y (shAtR 1) ok) (spRf (dW 3) 3) 2000 60 (.fn 18) (ptVals 0 [sO, bO, dW 3]) (memT (ptObjs [sO, bO, dW 3])) 3) = some (.tuple #[.agg #[iP 1, hSh 1], iP 0]) := by kernel_rfl
theorem rfS_3_2 (ok) : fstO (evDS (pgY Y (shAtR 2) ok) (spRf (dW 3) 3) 2000 60 (.fn 18) (ptVals 0 [sO, bO, dW 3]) (memT (ptObjs [sO, bO, dW 3])) 3) = some (.tuple #[.agg #[iP 2, hSh 2], iP 0]) := by kernel_rfl
theorem aaG_4 (ok) : fst2 22 (evDS (pgY Y (fG) ok) (spAa 4) 2000 60 (.fn 7) (ptVals 0 [sA, bA, dW 4]) (memT (ptObjs [sA, bA, dW 4])) 3) = some (.tuple #[osl hLs 22, iP 0], some (.opq 74 [])) := by kernel_rfl
theorem raG_4 (ok) : fst2 8 (evDS (pgY Y ([]) ok) (spRa 4) 2000 60 (.fn 17) (ptVals 0 [sO, bO, dW 4]) (memT (ptObjs [sO, bO, dW 4])) 3) = some (.tuple #[osl hLs 8, iP 0], some (.opq 74 [])) := by kernel_rfl
theorem raF_4_0 (ok) : fstO (evDS (pgY Y ([]) ok) (spRn 0) 2000 60 (.fn 17) (ptVals 0 [sO, bO, dW 4]) (memT (ptObjs [sO, bO, dW 4])) 3) = some (nilE (iP 16)) := by kernel_rfl
theorem raF_4_1 (ok) : fstO (evDS (pgY Y ([]) ok) (spRn 1) 2000 60 (.fn 17) (ptVals 0 [sO, bO, dW 4]) (memT (ptObjs [sO, bO, dW 4])) 3) = some (nilE (iP 16)) := by kernel_rfl
theorem raF_4_2 (ok) : fstO (evDS (pgY Y ([]) ok) (spRn 2) 2000 60 (.fn 17) (ptVals 0 [sO, bO, dW 4]) (memT (ptObjs [sO, bO, dW 4])) 3) = some (nilE (iP 16)) := by kernel_rfl
theorem raF_4_3 (ok) : fstO (evDS (pgY Y ([]) ok) (spRn 3) 2000 60 (.fn 17) (ptVals 0 [sO, bO, dW 4]) (memT (ptObjs [sO, bO, dW 4])) 3) = some (nilE (iP 16)) := by kernel_rfl
theorem rfE_4 (ok) : fstO (evDS (pgY Y ([(0, hCe, iP 0, false)]) ok) (spY [eRa (dW 4) hCe]) 2000 60 (.fn 18) (ptVals 0 [sO, bO, dW 4]) (memT (ptObjs [sO, bO, dW 4])) 3) = some (.tuple #[.agg #[iP 0, iP 0], hCe]) := by kernel_rfl
theorem rfG_4 (ok) : fstO (evDS (pgY Y (shNoR 4) ok) (spRf (dW 4) 4) 2000 60 (.fn 18) (ptVals 0 [sO, bO, dW 4]) (memT (ptObjs [sO, bO, dW 4])) 3) = some (.tuple #[.agg #[iP 0, iP 0], iP 12]) := by kernel_rfl
theorem rfS_4_0 (ok) : fstO (evDS (pgY Y (shAtR 0) ok) (spRf (dW 4) 4) 2000 60 (.fn 18) (ptVals 0 [sO, bO, dW 4]) (memT (ptObjs [sO, bO, dW 4])) 3) = some (.tuple #[.agg #[iP 0, hSh 0], iP 0]) := by kernel_rfl
theorem rfS_4_1 (ok) : fstO (evDS (pgY Y (shAtR 1) ok) (spRf (dW 4) 4) 2000 60 (.fn 18) (ptVals 0 [sO, bO, dW 4]) (memT (ptObjs [sO, bO, dW 4])) 3) = some (.tuple #[.agg #[iP 1, hSh 1], iP 0]) := by kernel_rfl
theorem rfS_4_2 (ok) : fstO (evDS (pgY Y (shAtR 2) ok) (spRf (dW 4) 4) 2000 60 (.fn 18) (ptVals 0 [sO, bO, dW 4]) (memT (ptObjs [sO, bO, dW 4])) 3) = some (.tuple #[.agg #[iP 2, hSh 2], iP 0]) := by kernel_rfl
theorem rfS_4_3 (ok) : fstO (evDS (pgY Y (shAtR 3) ok) (spRf (dW 4) 4) 2000 60 (.fn 18) (ptVals 0 [sO, bO, dW 4]) (memT (ptObjs [sO, bO, dW 4])) 3) = some (.tuple #[.agg #[iP 3, hSh 3], iP 0]) := by kernel_rfl
theorem aaG_5 (ok) : fst2 24 (evDS (pgY Y (fG) ok) (spAa 5) 2000 60 (.fn 7) (ptVals 0 [sA, bA, dW 5]) (memT (ptObjs [sA, bA, dW 5])) 3) = some (.tuple #[osl hLs 24, iP 0], some (.opq 75 [])) := by kernel_rfl
theorem raG_5 (ok) : fst2 9 (evDS (pgY Y ([]) ok) (spRa 5) 2000 60 (.fn 17) (ptVals 0 [sO, bO, dW 5]) (memT (ptObjs [sO, bO, dW 5])) 3) = some (.tuple #[osl hLs 9, iP 0], some (.opq 75 [])) := by kernel_rfl
theorem raF_5_0 (ok) : fstO (evDS (pgY Y ([]) ok) (spRn 0) 2000 60 (.fn 17) (ptVals 0 [sO, bO, dW 5]) (memT (ptObjs [sO, bO, dW 5])) 3) = some (nilE (iP 16)) := by kernel_rfl
theorem raF_5_1 (ok) : fstO (evDS (pgY Y ([]) ok) (spRn 1) 2000 60 (.fn 17) (ptVals 0 [sO, bO, dW 5]) (memT (ptObjs [sO, bO, dW 5])) 3) = some (nilE (iP 16)) := by kernel_rfl
theorem raF_5_2 (ok) : fstO (evDS (pgY Y ([]) ok) (spRn 2) 2000 60 (.fn 17) (ptVals 0 [sO, bO, dW 5]) (memT (ptObjs [sO, bO, dW 5])) 3) = some (nilE (iP 16)) := by kernel_rfl
theorem raF_5_3 (ok) : fstO (evDS (pgY Y ([]) ok) (spRn 3) 2000 60 (.fn 17) (ptVals 0 [sO, bO, dW 5]) (memT (ptObjs [sO, bO, dW 5])) 3) = some (nilE (iP 16)) := by kernel_rfl
theorem raF_5_4 (ok) : fstO (evDS (pgY Y ([]) ok) (spRn 4) 2000 60 (.fn 17) (ptVals 0 [sO, bO, dW 5]) (memT (ptObjs [sO, bO, dW 5])) 3) = some (nilE (iP 16)) := by kernel_rfl
theorem rfE_5 (ok) : fstO (evDS (pgY Y ([(0, hCe, iP 0, false)]) ok) (spY [eRa (dW 5) hCe]) 2000 60 (.fn 18) (ptVals 0 [sO, bO, dW 5]) (memT (ptObjs [sO, bO, dW 5])) 3) = some (.tuple #[.agg #[iP 0, iP 0], hCe]) := by kernel_rfl
theorem rfG_5 (ok) : fstO (evDS (pgY Y (shNoR 5) ok) (spRf (dW 5) 5) 2000 60 (.fn 18) (ptVals 0 [sO, bO, dW 5]) (memT (ptObjs [sO, bO, dW 5])) 3) = some (.tuple #[.agg #[iP 0, iP 0], iP 12]) := by kernel_rfl
theorem rfS_5_0 (ok) : fstO (evDS (pgY Y (shAtR 0) ok) (spRf (dW 5) 5) 2000 60 (.fn 18) (ptVals 0 [sO, bO, dW 5]) (memT (ptObjs [sO, bO, dW 5])) 3) = some (.tuple #[.agg #[iP 0, hSh 0], iP 0]) := by kernel_rfl
theorem rfS_5_1 (ok) : fstO (evDS (pgY Y (shAtR 1) ok) (spRf (dW 5) 5) 2000 60 (.fn 18) (ptVals 0 [sO, bO, dW 5]) (memT (ptObjs [sO, bO, dW 5])) 3) = some (.tuple #[.agg #[iP 1, hSh 1], iP 0]) := by kernel_rfl
theorem rfS_5_2 (ok) : fstO (evDS (pgY Y (shAtR 2) ok) (spRf (dW 5) 5) 2000 60 (.fn 18) (ptVals 0 [sO, bO, dW 5]) (memT (ptObjs [sO, bO, dW 5])) 3) = some (.tuple #[.agg #[iP 2, hSh 2], iP 0]) := by kernel_rfl
theorem rfS_5_3 (ok) : fstO (evDS (pgY Y (shAtR 3) ok) (spRf (dW 5) 5) 2000 60 (.fn 18) (ptVals 0 [sO, bO, dW 5]) (memT (ptObjs [sO, bO, dW 5])) 3) = some (.tuple #[.agg #[iP 3, hSh 3], iP 0]) := by kernel_rfl
theorem rfS_5_4 (ok) : fstO (evDS (pgY Y (shAtR 4) ok) (spRf (dW 5) 5) 2000 60 (.fn 18) (ptVals 0 [sO, bO, dW 5]) (memT (ptObjs [sO, bO, dW 5])) 3) = some (.tuple #[.agg #[iP 4, hSh 4], iP 0]) := by kernel_rfl
theorem aaG_6 (ok) : fst2 26 (evDS (pgY Y (fG) ok) (spAa 6) 2000 60 (.fn 7) (ptVals 0 [sA, bA, dW 6]) (memT (ptObjs [sA, bA, dW 6])) 3) = some (.tuple #[osl hLs 26, iP 0], some (.opq 76 [])) := by kernel_rfl
theorem raG_6 (ok) : fst2 10 (evDS (pgY Y ([]) ok) (spRa 6) 2000 60 (.fn 17) (ptVals 0 [sO, bO, dW 6]) (memT (ptObjs [sO, bO, dW 6])) 3) = some (.tuple #[osl hLs 10, iP 0], some (.opq 76 [])) := by kernel_rfl
theorem raF_6_0 (ok) : fstO (evDS (pgY Y ([]) ok) (spRn 0) 2000 60 (.fn 17) (ptVals 0 [sO, bO, dW 6]) (memT (ptObjs [sO, bO, dW 6])) 3) = some (nilE (iP 16)) := by kernel_rfl
theorem raF_6_1 (ok) : fstO (evDS (pgY Y ([]) ok) (spRn 1) 2000 60 (.fn 17) (ptVals 0 [sO, bO, dW 6]) (memT (ptObjs [sO, bO, dW 6])) 3) = some (nilE (iP 16)) := by kernel_rfl
theorem raF_6_2 (ok) : fstO (evDS (pgY Y ([]) ok) (spRn 2) 2000 60 (.fn 17) (ptVals 0 [sO, bO, dW 6]) (memT (ptObjs [sO, bO, dW 6])) 3) = some (nilE (iP 16)) := by kernel_rfl
theorem raF_6_3 (ok) : fstO (evDS (pgY Y ([]) ok) (spRn 3) 2000 60 (.fn 17) (ptVals 0 [sO, bO, dW 6]) (memT (ptObjs [sO, bO, dW 6])) 3) = some (nilE (iP 16)) := by kernel_rfl
theorem raF_6_4 (ok) : fstO (evDS (pgY Y ([]) ok) (spRn 4) 2000 60 (.fn 17) (ptVals 0 [sO, bO, dW 6]) (memT (ptObjs [sO, bO, dW 6])) 3) = some (nilE (iP 16)) := by kernel_rfl
theorem raF_6_5 (ok) : fstO (evDS (pgY Y ([]) ok) (spRn 5) 2000 60 (.fn 17) (ptVals 0 [sO, bO, dW 6]) (memT (ptObjs [sO, bO, dW 6])) 3) = some (nilE (iP 16)) := by kernel_rfl
theorem rfE_6 (ok) : fstO (evDS (pgY Y ([(0, hCe, iP 0, false)]) ok) (spY [eRa (dW 6) hCe]) 2000 60 (.fn 18) (ptVals 0 [sO, bO, dW 6]) (memT (ptObjs [sO, bO, dW 6])) 3) = some (.tuple #[.agg #[iP 0, iP 0], hCe]) := by kernel_rfl
theorem rfG_6 (ok) : fstO (evDS (pgY Y (shNoR 6) ok) (spRf (dW 6) 6) 2000 60 (.fn 18) (ptVals 0 [sO, bO, dW 6]) (memT (ptObjs [sO, bO, dW 6])) 3) = some (.tuple #[.agg #[iP 0, iP 0], iP 12]) := by kernel_rfl
theorem rfS_6_0 (ok) : fstO (evDS (pgY Y (shAtR 0) ok) (spRf (dW 6) 6) 2000 60 (.fn 18) (ptVals 0 [sO, bO, dW 6]) (memT (ptObjs [sO, bO, dW 6])) 3) = some (.tuple #[.agg #[iP 0, hSh 0], iP 0]) := by kernel_rfl
theorem rfS_6_1 (ok) : fstO (evDS (pgY Y (shAtR 1) ok) (spRf (dW 6) 6) 2000 60 (.fn 18) (ptVals 0 [sO, bO, dW 6]) (memT (ptObjs [sO, bO, dW 6])) 3) = some (.tuple #[.agg #[iP 1, hSh 1], iP 0]) := by kernel_rfl
theorem rfS_6_2 (ok) : fstO (evDS (pgY Y (shAtR 2) ok) (spRf (dW 6) 6) 2000 60 (.fn 18) (ptVals 0 [sO, bO, dW 6]) (memT (ptObjs [sO, bO, dW 6])) 3) = some (.tuple #[.agg #[iP 2, hSh 2], iP 0]) := by kernel_rfl
theorem rfS_6_3 (ok) : fstO (evDS (pgY Y (shAtR 3) ok) (spRf (dW 6) 6) 2000 60 (.fn 18) (ptVals 0 [sO, bO, dW 6]) (memT (ptObjs [sO, bO, dW 6])) 3) = some (.tuple #[.agg #[iP 3, hSh 3], iP 0]) := by kernel_rfl
theorem rfS_6_4 (ok) : fstO (evDS (pgY Y (shAtR 4) ok) (spRf (dW 6) 6) 2000 60 (.fn 18) (ptVals 0 [sO, bO, dW 6]) (memT (ptObjs [sO, bO, dW 6])) 3) = some (.tuple #[.agg #[iP 4, hSh 4], iP 0]) := by kernel_rfl
theorem rfS_6_5 (ok) : fstO (evDS (pgY Y (shAtR 5) ok) (spRf (dW 6) 6) 2000 60 (.fn 18) (ptVals 0 [sO, bO, dW 6]) (memT (ptObjs [sO, bO, dW 6])) 3) = some (.tuple #[.agg #[iP 5, hSh 5], iP 0]) := by kernel_rfl
theorem raN (ok) : fst2 4 (evDS (pgY Y (dNo) ok) (spRa 0) 2000 60 (.fn 17) (ptVals 0 [sO, bO, dN]) (memT (ptObjs [sO, bO, dN])) 3) = some (.tuple #[osl hLb 4, iP 0], some (.opq 54 [])) := by kernel_rfl
theorem rfN (ok) : fstO (evDS (pgY Y (dNo) ok) (spRf dN 0) 2000 60 (.fn 18) (ptVals 0 [sO, bO, dN]) (memT (ptObjs [sO, bO, dN])) 3) = some (.tuple #[.agg #[iP 0, iP 0], iP 12]) := by kernel_rfl
end
end Sy
end Go.Proofs.YtdejmleboflopaaGreat
