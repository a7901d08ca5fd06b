/- PlanNow, reckoned with symbols. -/
import Derived.Test.YtdejmleboflopaaGreatPF
set_option linter.unusedVariables false
set_option linter.unusedSimpArgs false
namespace Go.Proofs.YtdejmleboflopaaGreat
open Go.RowKit
namespace Sy
open Go.RowKit

def negF (g : Fact) : Fact := (g.1, g.2.1, g.2.2.1, !g.2.2.2)
/-- lists as holes -/
def holeQ (v u : Value) (nw : Int) (sc bg ot : Nat → Int) (n : Nat) : Value := if n = 40 then v else if n = 42 then u else holeS nw sc bg ot n
def hLs : Value := hP 41
def hLb : Value := hP 43
def begH : Value := .iface 94 (.tuple #[iP 42, hLb])
def argsE1 : List Value := [.agg #[.iface 94 (.tuple #[iP 40, hLs]), hNew], begH]
def argsE2 (N : Nat) : List Value := [sysW N, begH]
def argsE3 (N : Nat) : List Value := [sysW N, begW N]
def hpE (N : Nat) : T AObj := .node .leaf (some (.win (rowS N))) .leaf
def gE1 : List Fact := [(2, hLs, iP 6, true), (1, iP 6, hLb, false), (0, hLs, iP 0, false), (1, iP 4, hLs, false)]
def scG (i : Nat) : List Fact := [(2, iP 1, hSc i 0, true), (2, hSc i 0, iP 20000, true), (2, iP 0, hSc i 1, true), (2, hSc i 1, hSc i 0, true), (2, iP 0, hSc i 2, true), (2, hSc i 2, hSc i 0, true), (1, hSc i 2, hSc i 1, false), (2, iP 0, hSc i 3, true), (2, hSc i 3, iP 100000, true)]
def bgG (i : Nat) : List Fact := [(2, iP 0, hBg i 0, true), (2, hBg i 0, iP 100000, true), (2, iP 0, hBg i 1, true), (2, hBg i 1, iP 100000, true), (1, hBg i 1, hBg i 0, false)]
def sysG (N : Nat) : List Fact := [(2, iP 0, hNew, true), (2, hNew, iP 100000, true)] ++ (List.range N).flatMap scG
def gE2 (N : Nat) : List Fact := sysG N ++ [(0, hLb, iP N, true)]
def gE3 (N : Nat) : List Fact := (List.range N).flatMap bgG
def f0 : Fact := (0, iP 0, iP 0, true)
def eE (F G : List Fact) (k : Nat) : List Fact := F ++ (G.take k ++ [negF (G.getD k f0)])
noncomputable def spE : CallF := spTrue 5
def nT : Value := b1 2 (hP 31) (iP 1)
def shA : Value := .tuple #[.agg #[iP 0, hP 33], iP 0]
noncomputable def spM (N : Nat) (g : Value) (sp : CallF) : CallF := spOr spE (spOr (spGN 12 N g) sp)
noncomputable def spF (N : Nat) (x r : Value) : CallF := spFS 11 N x r
def posF (c : Bool) : List Fact := [(2, iP 0, nT, true), (2, nT, iP 20000, true), (0, nT, iP 20000, c)]
noncomputable def spMz (N : Nat) (r : Value) : CallF := spM N (.tuple #[iP 0, iP 12]) (spF N (iP 0) r)
noncomputable def spMp (N : Nat) (r : Value) : CallF := spM N (.tuple #[nT, iP 0]) (spOr (spF N nT (ansF 0 12)) (spF N (b1 1 nT (iP 1)) r))
noncomputable def spMt (N : Nat) : CallF := spM N (.tuple #[nT, iP 0]) (spF N nT (ansF 0 12))
section
variable (hole : Nat → Value)
theorem nE1_0 (ok) : fstO (evDS (pgS hole (eE [] gE1 0) ok) (spE) 2000 60 (.fn 4) (argsE1) (.leaf) 0) = some (.bool true) := by kernel_rfl
theorem nE1_1 (ok) : fstO (evDS (pgS hole (eE [] gE1 1) ok) (spE) 2000 60 (.fn 4) (argsE1) (.leaf) 0) = some (.bool true) := by kernel_rfl
theorem nE1_2 (ok) : fstO (evDS (pgS hole (eE [] gE1 2) ok) (spE) 2000 60 (.fn 4) (argsE1) (.leaf) 0) = some (.bool true) := by kernel_rfl
theorem nE1_3 (ok) : fstO (evDS (pgS hole (eE [] gE1 3) ok) (spE) 2000 60 (.fn 4) (argsE1) (.leaf) 0) = some (.bool true) := by kernel_rfl
theorem nE2_1_0 (ok) : fstO (evDS (pgS hole (eE [(1, iP 6, hLb, false)] (gE2 1) 0) ok) (spE) 2000 60 (.fn 4) (argsE2 1) (hpE 1) 1) = some (.bool true) := by kernel_rfl
theorem nE2_1_1 (ok) : fstO (evDS (pgS hole (eE [(1, iP 6, hLb, false)] (gE2 1) 1) ok) (spE) 2000 60 (.fn 4) (argsE2 1) (hpE 1) 1) = some (.bool true) := by kernel_rfl
theorem nE2_1_2 (ok) : fstO (evDS (pgS hole (eE [(1, iP 6, hLb, false)] (gE2 1) 2) ok) (spE) 2000 60 (.fn 4) (argsE2 1) (hpE 1) 1) = some (.bool true) := by kernel_rfl
theorem nE2_1_3 (ok) : fstO (evDS (pgS hole (eE [(1, iP 6, hLb, false)] (gE2 1) 3) ok) (spE) 2000 60 (.fn 4) (argsE2 1) (hpE 1) 1) = some (.bool true) := by kernel_rfl
theorem nE2_1_4 (ok) : fstO (evDS (pgS hole (eE [(1, iP 6, hLb, false)] (gE2 1) 4) ok) (spE) 2000 60 (.fn 4) (argsE2 1) (hpE 1) 1) = some (.bool true) := by kernel_rfl
theorem nE2_1_5 (ok) : fstO (evDS (pgS hole (eE [(1, iP 6, hLb, false)] (gE2 1) 5) ok) (spE) 2000 60 (.fn 4) (argsE2 1) (hpE 1) 1) = some (.bool true) := by kernel_rfl
theorem nE2_1_6 (ok) : fstO (evDS (pgS hole (eE [(1, iP 6, hLb, false)] (gE2 1) 6) ok) (spE) 2000 60 (.fn 4) (argsE2 1) (hpE 1) 1) = some (.bool true) := by kernel_rfl
theorem nE2_1_7 (ok) : fstO (evDS (pgS hole (eE [(1, iP 6, hLb, false)] (gE2 1) 7) ok) (spE) 2000 60 (.fn 4) (argsE2 1) (hpE 1) 1) = some (.bool true) := by kernel_rfl
theorem nE2_1_8 (ok) : fstO (evDS (pgS hole (eE [(1, iP 6, hLb, false)] (gE2 1) 8) ok) (spE) 2000 60 (.fn 4) (argsE2 1) (hpE 1) 1) = some (.bool true) := by kernel_rfl
theorem nE2_1_9 (ok) : fstO (evDS (pgS hole (eE [(1, iP 6, hLb, false)] (gE2 1) 9) ok) (spE) 2000 60 (.fn 4) (argsE2 1) (hpE 1) 1) = some (.bool true) := by kernel_rfl
theorem nE2_1_10 (ok) : fstO (evDS (pgS hole (eE [(1, iP 6, hLb, false)] (gE2 1) 10) ok) (spE) 2000 60 (.fn 4) (argsE2 1) (hpE 1) 1) = some (.bool true) := by kernel_rfl
theorem nE2_1_11 (ok) : fstO (evDS (pgS hole (eE [(1, iP 6, hLb, false)] (gE2 1) 11) ok) (spE) 2000 60 (.fn 4) (argsE2 1) (hpE 1) 1) = some (.bool true) := by kernel_rfl
theorem nE3_1_0 (ok) : fstO (evDS (pgS hole (eE (sysG 1) (gE3 1) 0) ok) (spE) 2000 60 (.fn 4) (argsE3 1) (hpS 1) 2) = some (.bool true) := by kernel_rfl
theorem nE3_1_1 (ok) : fstO (evDS (pgS hole (eE (sysG 1) (gE3 1) 1) ok) (spE) 2000 60 (.fn 4) (argsE3 1) (hpS 1) 2) = some (.bool true) := by kernel_rfl
theorem nE3_1_2 (ok) : fstO (evDS (pgS hole (eE (sysG 1) (gE3 1) 2) ok) (spE) 2000 60 (.fn 4) (argsE3 1) (hpS 1) 2) = some (.bool true) := by kernel_rfl
theorem nE3_1_3 (ok) : fstO (evDS (pgS hole (eE (sysG 1) (gE3 1) 3) ok) (spE) 2000 60 (.fn 4) (argsE3 1) (hpS 1) 2) = some (.bool true) := by kernel_rfl
theorem nE3_1_4 (ok) : fstO (evDS (pgS hole (eE (sysG 1) (gE3 1) 4) ok) (spE) 2000 60 (.fn 4) (argsE3 1) (hpS 1) 2) = some (.bool true) := by kernel_rfl
theorem nZf_1 (ok) : fstO (evDS (pgS hole (sysF 1) ok) (spMz 1 (ansF 0 16)) 2000 60 (.fn 4) (argsE3 1) (hpS 1) 2) = some (.bool true) := by kernel_rfl
theorem nPf_1 (ok) : fstO (evDS (pgS hole (factsS 1 (posF false)) ok) (spMp 1 (ansF 0 16)) 2000 60 (.fn 4) (argsE3 1) (hpS 1) 2) = some (.bool true) := by kernel_rfl
theorem nZs_1 (ok) : fstO (evDS (pgS hole (sysF 1) ok) (spMz 1 (shA)) 2000 60 (.fn 4) (argsE3 1) (hpS 1) 2) = some (.bool true) := by kernel_rfl
theorem nPs_1 (ok) : fstO (evDS (pgS hole (factsS 1 (posF false)) ok) (spMp 1 (shA)) 2000 60 (.fn 4) (argsE3 1) (hpS 1) 2) = some (.bool true) := by kernel_rfl
theorem nT_1 (ok) : fstO (evDS (pgS hole (factsS 1 (posF true)) ok) (spMt 1) 2000 60 (.fn 4) (argsE3 1) (hpS 1) 2) = some (.bool true) := by kernel_rfl
theorem nE2_2_0 (ok) : fstO (evDS (pgS hole (eE [(1, iP 6, hLb, false)] (gE2 2) 0) ok) (spE) 2000 60 (.fn 4) (argsE2 2) (hpE 2) 1) = some (.bool true) := by kernel_rfl
theorem nE2_2_1 (ok) : fstO (evDS (pgS hole (eE [(1, iP 6, hLb, false)] (gE2 2) 1) ok) (spE) 2000 60 (.fn 4) (argsE2 2) (hpE 2) 1) = some (.bool true) := by kernel_rfl
theorem nE2_2_2 (ok) : fstO (evDS (pgS hole (eE [(1, iP 6, hLb, false)] (gE2 2) 2) ok) (spE) 2000 60 (.fn 4) (argsE2 2) (hpE 2) 1) = some (.bool true) := by kernel_rfl
theorem nE2_2_3 (ok) : fstO (evDS (pgS hole (eE [(1, iP 6, hLb, false)] (gE2 2) 3) ok) (spE) 2000 60 (.fn 4) (argsE2 2) (hpE 2) 1) = some (.bool true) := by kernel_rfl
theorem nE2_2_4 (ok) : fstO (evDS (pgS hole (eE [(1, iP 6, hLb, false)] (gE2 2) 4) ok) (spE) 2000 60 (.fn 4) (argsE2 2) (hpE 2) 1) = some (.bool true) := by kernel_rfl
theorem nE2_2_5 (ok) : fstO (evDS (pgS hole (eE [(1, iP 6, hLb, false)] (gE2 2) 5) ok) (spE) 2000 60 (.fn 4) (argsE2 2) (hpE 2) 1) = some (.bool true) := by kernel_rfl
theorem nE2_2_6 (ok) : fstO (evDS (pgS hole (eE [(1, iP 6, hLb, false)] (gE2 2) 6) ok) (spE) 2000 60 (.fn 4) (argsE2 2) (hpE 2) 1) = some (.bool true) := by kernel_rfl
theorem nE2_2_7 (ok) : fstO (evDS (pgS hole (eE [(1, iP 6, hLb, false)] (gE2 2) 7) ok) (spE) 2000 60 (.fn 4) (argsE2 2) (hpE 2) 1) = some (.bool true) := by kernel_rfl
theorem nE2_2_8 (ok) : fstO (evDS (pgS hole (eE [(1, iP 6, hLb, false)] (gE2 2) 8) ok) (spE) 2000 60 (.fn 4) (argsE2 2) (hpE 2) 1) = some (.bool true) := by kernel_rfl
theorem nE2_2_9 (ok) : fstO (evDS (pgS hole (eE [(1, iP 6, hLb, false)] (gE2 2) 9) ok) (spE) 2000 60 (.fn 4) (argsE2 2) (hpE 2) 1) = some (.bool true) := by kernel_rfl
theorem nE2_2_10 (ok) : fstO (evDS (pgS hole (eE [(1, iP 6, hLb, false)] (gE2 2) 10) ok) (spE) 2000 60 (.fn 4) (argsE2 2) (hpE 2) 1) = some (.bool true) := by kernel_rfl
theorem nE2_2_11 (ok) : fstO (evDS (pgS hole (eE [(1, iP 6, hLb, false)] (gE2 2) 11) ok) (spE) 2000 60 (.fn 4) (argsE2 2) (hpE 2) 1) = some (.bool true) := by kernel_rfl
theorem nE2_2_12 (ok) : fstO (evDS (pgS hole (eE [(1, iP 6, hLb, false)] (gE2 2) 12) ok) (spE) 2000 60 (.fn 4) (argsE2 2) (hpE 2) 1) = some (.bool true) := by kernel_rfl
theorem nE2_2_13 (ok) : fstO (evDS (pgS hole (eE [(1, iP 6, hLb, false)] (gE2 2) 13) ok) (spE) 2000 60 (.fn 4) (argsE2 2) (hpE 2) 1) = some (.bool true) := by kernel_rfl
theorem nE2_2_14 (ok) : fstO (evDS (pgS hole (eE [(1, iP 6, hLb, false)] (gE2 2) 14) ok) (spE) 2000 60 (.fn 4) (argsE2 2) (hpE 2) 1) = some (.bool true) := by kernel_rfl
theorem nE2_2_15 (ok) : fstO (evDS (pgS hole (eE [(1, iP 6, hLb, false)] (gE2 2) 15) ok) (spE) 2000 60 (.fn 4) (argsE2 2) (hpE 2) 1) = some (.bool true) := by kernel_rfl
theorem nE2_2_16 (ok) : fstO (evDS (pgS hole (eE [(1, iP 6, hLb, false)] (gE2 2) 16) ok) (spE) 2000 60 (.fn 4) (argsE2 2) (hpE 2) 1) = some (.bool true) := by kernel_rfl
theorem nE2_2_17 (ok) : fstO (evDS (pgS hole (eE [(1, iP 6, hLb, false)] (gE2 2) 17) ok) (spE) 2000 60 (.fn 4) (argsE2 2) (hpE 2) 1) = some (.bool true) := by kernel_rfl
theorem nE2_2_18 (ok) : fstO (evDS (pgS hole (eE [(1, iP 6, hLb, false)] (gE2 2) 18) ok) (spE) 2000 60 (.fn 4) (argsE2 2) (hpE 2) 1) = some (.bool true) := by kernel_rfl
theorem nE2_2_19 (ok) : fstO (evDS (pgS hole (eE [(1, iP 6, hLb, false)] (gE2 2) 19) ok) (spE) 2000 60 (.fn 4) (argsE2 2) (hpE 2) 1) = some (.bool true) := by kernel_rfl
theorem nE2_2_20 (ok) : fstO (evDS (pgS hole (eE [(1, iP 6, hLb, false)] (gE2 2) 20) ok) (spE) 2000 60 (.fn 4) (argsE2 2) (hpE 2) 1) = some (.bool true) := by kernel_rfl
theorem nE3_2_0 (ok) : fstO (evDS (pgS hole (eE (sysG 2) (gE3 2) 0) ok) (spE) 2000 60 (.fn 4) (argsE3 2) (hpS 2) 2) = some (.bool true) := by kernel_rfl
theorem nE3_2_1 (ok) : fstO (evDS (pgS hole (eE (sysG 2) (gE3 2) 1) ok) (spE) 2000 60 (.fn 4) (argsE3 2) (hpS 2) 2) = some (.bool true) := by kernel_rfl
theorem nE3_2_2 (ok) : fstO (evDS (pgS hole (eE (sysG 2) (gE3 2) 2) ok) (spE) 2000 60 (.fn 4) (argsE3 2) (hpS 2) 2) = some (.bool true) := by kernel_rfl
theorem nE3_2_3 (ok) : fstO (evDS (pgS hole (eE (sysG 2) (gE3 2) 3) ok) (spE) 2000 60 (.fn 4) (argsE3 2) (hpS 2) 2) = some (.bool true) := by kernel_rfl
theorem nE3_2_4 (ok) : fstO (evDS (pgS hole (eE (sysG 2) (gE3 2) 4) ok) (spE) 2000 60 (.fn 4) (argsE3 2) (hpS 2) 2) = some (.bool true) := by kernel_rfl
theorem nE3_2_5 (ok) : fstO (evDS (pgS hole (eE (sysG 2) (gE3 2) 5) ok) (spE) 2000 60 (.fn 4) (argsE3 2) (hpS 2) 2) = some (.bool true) := by kernel_rfl
theorem nE3_2_6 (ok) : fstO (evDS (pgS hole (eE (sysG 2) (gE3 2) 6) ok) (spE) 2000 60 (.fn 4) (argsE3 2) (hpS 2) 2) = some (.bool true) := by kernel_rfl
theorem nE3_2_7 (ok) : fstO (evDS (pgS hole (eE (sysG 2) (gE3 2) 7) ok) (spE) 2000 60 (.fn 4) (argsE3 2) (hpS 2) 2) = some (.bool true) := by kernel_rfl
theorem nE3_2_8 (ok) : fstO (evDS (pgS hole (eE (sysG 2) (gE3 2) 8) ok) (spE) 2000 60 (.fn 4) (argsE3 2) (hpS 2) 2) = some (.bool true) := by kernel_rfl
theorem nE3_2_9 (ok) : fstO (evDS (pgS hole (eE (sysG 2) (gE3 2) 9) ok) (spE) 2000 60 (.fn 4) (argsE3 2) (hpS 2) 2) = some (.bool true) := by kernel_rfl
theorem nZf_2 (ok) : fstO (evDS (pgS hole (sysF 2) ok) (spMz 2 (ansF 0 16)) 2000 60 (.fn 4) (argsE3 2) (hpS 2) 2) = some (.bool true) := by kernel_rfl
theorem nPf_2 (ok) : fstO (evDS (pgS hole (factsS 2 (posF false)) ok) (spMp 2 (ansF 0 16)) 2000 60 (.fn 4) (argsE3 2) (hpS 2) 2) = some (.bool true) := by kernel_rfl
theorem nZs_2 (ok) : fstO (evDS (pgS hole (sysF 2) ok) (spMz 2 (shA)) 2000 60 (.fn 4) (argsE3 2) (hpS 2) 2) = some (.bool true) := by kernel_rfl
theorem nPs_2 (ok) : fstO (evDS (pgS hole (factsS 2 (posF false)) ok) (spMp 2 (shA)) 2000 60 (.fn 4) (argsE3 2) (hpS 2) 2) = some (.bool true) := by kernel_rfl
theorem nT_2 (ok) : fstO (evDS (pgS hole (factsS 2 (posF true)) ok) (spMt 2) 2000 60 (.fn 4) (argsE3 2) (hpS 2) 2) = some (.bool true) := by kernel_rfl
theorem nE2_3_0 (ok) : fstO (evDS (pgS hole (eE [(1, iP 6, hLb, false)] (gE2 3) 0) ok) (spE) 2000 60 (.fn 4) (argsE2 3) (hpE 3) 1) = some (.bool true) := by kernel_rfl
theorem nE2_3_1 (ok) : fstO (evDS (pgS hole (eE [(1, iP 6, hLb, false)] (gE2 3) 1) ok) (spE) 2000 60 (.fn 4) (argsE2 3) (hpE 3) 1) = some (.bool true) := by kernel_rfl
theorem nE2_3_2 (ok) : fstO (evDS (pgS hole (eE [(1, iP 6, hLb, false)] (gE2 3) 2) ok) (spE) 2000 60 (.fn 4) (argsE2 3) (hpE 3) 1) = some (.bool true) := by kernel_rfl
theorem nE2_3_3 (ok) : fstO (evDS (pgS hole (eE [(1, iP 6, hLb, false)] (gE2 3) 3) ok) (spE) 2000 60 (.fn 4) (argsE2 3) (hpE 3) 1) = some (.bool true) := by kernel_rfl
theorem nE2_3_4 (ok) : fstO (evDS (pgS hole (eE [(1, iP 6, hLb, false)] (gE2 3) 4) ok) (spE) 2000 60 (.fn 4) (argsE2 3) (hpE 3) 1) = some (.bool true) := by kernel_rfl
theorem nE2_3_5 (ok) : fstO (evDS (pgS hole (eE [(1, iP 6, hLb, false)] (gE2 3) 5) ok) (spE) 2000 60 (.fn 4) (argsE2 3) (hpE 3) 1) = some (.bool true) := by kernel_rfl
theorem nE2_3_6 (ok) : fstO (evDS (pgS hole (eE [(1, iP 6, hLb, false)] (gE2 3) 6) ok) (spE) 2000 60 (.fn 4) (argsE2 3) (hpE 3) 1) = some (.bool true) := by kernel_rfl
theorem nE2_3_7 (ok) : fstO (evDS (pgS hole (eE [(1, iP 6, hLb, false)] (gE2 3) 7) ok) (spE) 2000 60 (.fn 4) (argsE2 3) (hpE 3) 1) = some (.bool true) := by kernel_rfl
theorem nE2_3_8 (ok) : fstO (evDS (pgS hole (eE [(1, iP 6, hLb, false)] (gE2 3) 8) ok) (spE) 2000 60 (.fn 4) (argsE2 3) (hpE 3) 1) = some (.bool true) := by kernel_rfl
theorem nE2_3_9 (ok) : fstO (evDS (pgS hole (eE [(1, iP 6, hLb, false)] (gE2 3) 9) ok) (spE) 2000 60 (.fn 4) (argsE2 3) (hpE 3) 1) = some (.bool true) := by kernel_rfl
theorem nE2_3_10 (ok) : fstO (evDS (pgS hole (eE [(1, iP 6, hLb, false)] (gE2 3) 10) ok) (spE) 2000 60 (.fn 4) (argsE2 3) (hpE 3) 1) = some (.bool true) := by kernel_rfl
theorem nE2_3_11 (ok) : fstO (evDS (pgS hole (eE [(1, iP 6, hLb, false)] (gE2 3) 11) ok) (spE) 2000 60 (.fn 4) (argsE2 3) (hpE 3) 1) = some (.bool true) := by kernel_rfl
theorem nE2_3_12 (ok) : fstO (evDS (pgS hole (eE [(1, iP 6, hLb, false)] (gE2 3) 12) ok) (spE) 2000 60 (.fn 4) (argsE2 3) (hpE 3) 1) = some (.bool true) := by kernel_rfl
theorem nE2_3_13 (ok) : fstO (evDS (pgS hole (eE [(1, iP 6, hLb, false)] (gE2 3) 13) ok) (spE) 2000 60 (.fn 4) (argsE2 3) (hpE 3) 1) = some (.bool true) := by kernel_rfl
theorem nE2_3_14 (ok) : fstO (evDS (pgS hole (eE [(1, iP 6, hLb, false)] (gE2 3) 14) ok) (spE) 2000 60 (.fn 4) (argsE2 3) (hpE 3) 1) = some (.bool true) := by kernel_rfl
theorem nE2_3_15 (ok) : fstO (evDS (pgS hole (eE [(1, iP 6, hLb, false)] (gE2 3) 15) ok) (spE) 2000 60 (.fn 4) (argsE2 3) (hpE 3) 1) = some (.bool true) := by kernel_rfl
theorem nE2_3_16 (ok) : fstO (evDS (pgS hole (eE [(1, iP 6, hLb, false)] (gE2 3) 16) ok) (spE) 2000 60 (.fn 4) (argsE2 3) (hpE 3) 1) = some (.bool true) := by kernel_rfl
theorem nE2_3_17 (ok) : fstO (evDS (pgS hole (eE [(1, iP 6, hLb, false)] (gE2 3) 17) ok) (spE) 2000 60 (.fn 4) (argsE2 3) (hpE 3) 1) = some (.bool true) := by kernel_rfl
theorem nE2_3_18 (ok) : fstO (evDS (pgS hole (eE [(1, iP 6, hLb, false)] (gE2 3) 18) ok) (spE) 2000 60 (.fn 4) (argsE2 3) (hpE 3) 1) = some (.bool true) := by kernel_rfl
theorem nE2_3_19 (ok) : fstO (evDS (pgS hole (eE [(1, iP 6, hLb, false)] (gE2 3) 19) ok) (spE) 2000 60 (.fn 4) (argsE2 3) (hpE 3) 1) = some (.bool true) := by kernel_rfl
theorem nE2_3_20 (ok) : fstO (evDS (pgS hole (eE [(1, iP 6, hLb, false)] (gE2 3) 20) ok) (spE) 2000 60 (.fn 4) (argsE2 3) (hpE 3) 1) = some (.bool true) := by kernel_rfl
theorem nE2_3_21 (ok) : fstO (evDS (pgS hole (eE [(1, iP 6, hLb, false)] (gE2 3) 21) ok) (spE) 2000 60 (.fn 4) (argsE2 3) (hpE 3) 1) = some (.bool true) := by kernel_rfl
theorem nE2_3_22 (ok) : fstO (evDS (pgS hole (eE [(1, iP 6, hLb, false)] (gE2 3) 22) ok) (spE) 2000 60 (.fn 4) (argsE2 3) (hpE 3) 1) = some (.bool true) := by kernel_rfl
theorem nE2_3_23 (ok) : fstO (evDS (pgS hole (eE [(1, iP 6, hLb, false)] (gE2 3) 23) ok) (spE) 2000 60 (.fn 4) (argsE2 3) (hpE 3) 1) = some (.bool true) := by kernel_rfl
theorem nE2_3_24 (ok) : fstO (evDS (pgS hole (eE [(1, iP 6, hLb, false)] (gE2 3) 24) ok) (spE) 2000 60 (.fn 4) (argsE2 3) (hpE 3) 1) = some (.bool true) := by kernel_rfl
theorem nE2_3_25 (ok) : fstO (evDS (pgS hole (eE [(1, iP 6, hLb, false)] (gE2 3) 25) ok) (spE) 2000 60 (.fn 4) (argsE2 3) (hpE 3) 1) = some (.bool true) := by kernel_rfl
theorem nE2_3_26 (ok) : fstO (evDS (pgS hole (eE [(1, iP 6, hLb, false)] (gE2 3) 26) ok) (spE) 2000 60 (.fn 4) (argsE2 3) (hpE 3) 1) = some (.bool true) := by kernel_rfl
theorem nE2_3_27 (ok) : fstO (evDS (pgS hole (eE [(1, iP 6, hLb, false)] (gE2 3) 27) ok) (spE) 2000 60 (.fn 4) (argsE2 3) (hpE 3) 1) = some (.bool true) := by kernel_rfl
theorem nE2_3_28 (ok) : fstO (evDS (pgS hole (eE [(1, iP 6, hLb, false)] (gE2 3) 28) ok) (spE) 2000 60 (.fn 4) (argsE2 3) (hpE 3) 1) = some (.bool true) := by kernel_rfl
theorem nE2_3_29 (ok) : fstO (evDS (pgS hole (eE [(1, iP 6, hLb, false)] (gE2 3) 29) ok) (spE) 2000 60 (.fn 4) (argsE2 3) (hpE 3) 1) = some (.bool true) := by kernel_rfl
theorem nE3_3_0 (ok) : fstO (evDS (pgS hole (eE (sysG 3) (gE3 3) 0) ok) (spE) 2000 60 (.fn 4) (argsE3 3) (hpS 3) 2) = some (.bool true) := by kernel_rfl
theorem nE3_3_1 (ok) : fstO (evDS (pgS hole (eE (sysG 3) (gE3 3) 1) ok) (spE) 2000 60 (.fn 4) (argsE3 3) (hpS 3) 2) = some (.bool true) := by kernel_rfl
theorem nE3_3_2 (ok) : fstO (evDS (pgS hole (eE (sysG 3) (gE3 3) 2) ok) (spE) 2000 60 (.fn 4) (argsE3 3) (hpS 3) 2) = some (.bool true) := by kernel_rfl
theorem nE3_3_3 (ok) : fstO (evDS (pgS hole (eE (sysG 3) (gE3 3) 3) ok) (spE) 2000 60 (.fn 4) (argsE3 3) (hpS 3) 2) = some (.bool true) := by kernel_rfl
theorem nE3_3_4 (ok) : fstO (evDS (pgS hole (eE (sysG 3) (gE3 3) 4) ok) (spE) 2000 60 (.fn 4) (argsE3 3) (hpS 3) 2) = some (.bool true) := by kernel_rfl
theorem nE3_3_5 (ok) : fstO (evDS (pgS hole (eE (sysG 3) (gE3 3) 5) ok) (spE) 2000 60 (.fn 4) (argsE3 3) (hpS 3) 2) = some (.bool true) := by kernel_rfl
theorem nE3_3_6 (ok) : fstO (evDS (pgS hole (eE (sysG 3) (gE3 3) 6) ok) (spE) 2000 60 (.fn 4) (argsE3 3) (hpS 3) 2) = some (.bool true) := by kernel_rfl
theorem nE3_3_7 (ok) : fstO (evDS (pgS hole (eE (sysG 3) (gE3 3) 7) ok) (spE) 2000 60 (.fn 4) (argsE3 3) (hpS 3) 2) = some (.bool true) := by kernel_rfl
theorem nE3_3_8 (ok) : fstO (evDS (pgS hole (eE (sysG 3) (gE3 3) 8) ok) (spE) 2000 60 (.fn 4) (argsE3 3) (hpS 3) 2) = some (.bool true) := by kernel_rfl
theorem nE3_3_9 (ok) : fstO (evDS (pgS hole (eE (sysG 3) (gE3 3) 9) ok) (spE) 2000 60 (.fn 4) (argsE3 3) (hpS 3) 2) = some (.bool true) := by kernel_rfl
theorem nE3_3_10 (ok) : fstO (evDS (pgS hole (eE (sysG 3) (gE3 3) 10) ok) (spE) 2000 60 (.fn 4) (argsE3 3) (hpS 3) 2) = some (.bool true) := by kernel_rfl
theorem nE3_3_11 (ok) : fstO (evDS (pgS hole (eE (sysG 3) (gE3 3) 11) ok) (spE) 2000 60 (.fn 4) (argsE3 3) (hpS 3) 2) = some (.bool true) := by kernel_rfl
theorem nE3_3_12 (ok) : fstO (evDS (pgS hole (eE (sysG 3) (gE3 3) 12) ok) (spE) 2000 60 (.fn 4) (argsE3 3) (hpS 3) 2) = some (.bool true) := by kernel_rfl
theorem nE3_3_13 (ok) : fstO (evDS (pgS hole (eE (sysG 3) (gE3 3) 13) ok) (spE) 2000 60 (.fn 4) (argsE3 3) (hpS 3) 2) = some (.bool true) := by kernel_rfl
theorem nE3_3_14 (ok) : fstO (evDS (pgS hole (eE (sysG 3) (gE3 3) 14) ok) (spE) 2000 60 (.fn 4) (argsE3 3) (hpS 3) 2) = some (.bool true) := by kernel_rfl
theorem nZf_3 (ok) : fstO (evDS (pgS hole (sysF 3) ok) (spMz 3 (ansF 0 16)) 2000 60 (.fn 4) (argsE3 3) (hpS 3) 2) = some (.bool true) := by kernel_rfl
theorem nPf_3 (ok) : fstO (evDS (pgS hole (factsS 3 (posF false)) ok) (spMp 3 (ansF 0 16)) 2000 60 (.fn 4) (argsE3 3) (hpS 3) 2) = some (.bool true) := by kernel_rfl
theorem nZs_3 (ok) : fstO (evDS (pgS hole (sysF 3) ok) (spMz 3 (shA)) 2000 60 (.fn 4) (argsE3 3) (hpS 3) 2) = some (.bool true) := by kernel_rfl
theorem nPs_3 (ok) : fstO (evDS (pgS hole (factsS 3 (posF false)) ok) (spMp 3 (shA)) 2000 60 (.fn 4) (argsE3 3) (hpS 3) 2) = some (.bool true) := by kernel_rfl
theorem nT_3 (ok) : fstO (evDS (pgS hole (factsS 3 (posF true)) ok) (spMt 3) 2000 60 (.fn 4) (argsE3 3) (hpS 3) 2) = some (.bool true) := by kernel_rfl
theorem nE2_4_0 (ok) : fstO (evDS (pgS hole (eE [(1, iP 6, hLb, false)] (gE2 4) 0) ok) (spE) 2000 60 (.fn 4) (argsE2 4) (hpE 4) 1) = some (.bool true) := by kernel_rfl
theorem nE2_4_1 (ok) : fstO (evDS (pgS hole (eE [(1, iP 6, hLb, false)] (gE2 4) 1) ok) (spE) 2000 60 (.fn 4) (argsE2 4) (hpE 4) 1) = some (.bool true) := by kernel_rfl
theorem nE2_4_2 (ok) : fstO (evDS (pgS hole (eE [(1, iP 6, hLb, false)] (gE2 4) 2) ok) (spE) 2000 60 (.fn 4) (argsE2 4) (hpE 4) 1) = some (.bool true) := by kernel_rfl
theorem nE2_4_3 (ok) : fstO (evDS (pgS hole (eE [(1, iP 6, hLb, false)] (gE2 4) 3) ok) (spE) 2000 60 (.fn 4) (argsE2 4) (hpE 4) 1) = some (.bool true) := by kernel_rfl
theorem nE2_4_4 (ok) : fstO (evDS (pgS hole (eE [(1, iP 6, hLb, false)] (gE2 4) 4) ok) (spE) 2000 60 (.fn 4) (argsE2 4) (hpE 4) 1) = some (.bool true) := by kernel_rfl
theorem nE2_4_5 (ok) : fstO (evDS (pgS hole (eE [(1, iP 6, hLb, false)] (gE2 4) 5) ok) (spE) 2000 60 (.fn 4) (argsE2 4) (hpE 4) 1) = some (.bool true) := by kernel_rfl
theorem nE2_4_6 (ok) : fstO (evDS (pgS hole (eE [(1, iP 6, hLb, false)] (gE2 4) 6) ok) (spE) 2000 60 (.fn 4) (argsE2 4) (hpE 4) 1) = some (.bool true) := by kernel_rfl
theorem nE2_4_7 (ok) : fstO (evDS (pgS hole (eE [(1, iP 6, hLb, false)] (gE2 4) 7) ok) (spE) 2000 60 (.fn 4) (argsE2 4) (hpE 4) 1) = some (.bool true) := by kernel_rfl
theorem nE2_4_8 (ok) : fstO (evDS (pgS hole (eE [(1, iP 6, hLb, false)] (gE2 4) 8) ok) (spE) 2000 60 (.fn 4) (argsE2 4) (hpE 4) 1) = some (.bool true) := by kernel_rfl
theorem nE2_4_9 (ok) : fstO (evDS (pgS hole (eE [(1, iP 6, hLb, false)] (gE2 4) 9) ok) (spE) 2000 60 (.fn 4) (argsE2 4) (hpE 4) 1) = some (.bool true) := by kernel_rfl
theorem nE2_4_10 (ok) : fstO (evDS (pgS hole (eE [(1, iP 6, hLb, false)] (gE2 4) 10) ok) (spE) 2000 60 (.fn 4) (argsE2 4) (hpE 4) 1) = some (.bool true) := by kernel_rfl
theorem nE2_4_11 (ok) : fstO (evDS (pgS hole (eE [(1, iP 6, hLb, false)] (gE2 4) 11) ok) (spE) 2000 60 (.fn 4) (argsE2 4) (hpE 4) 1) = some (.bool true) := by kernel_rfl
theorem nE2_4_12 (ok) : fstO (evDS (pgS hole (eE [(1, iP 6, hLb, false)] (gE2 4) 12) ok) (spE) 2000 60 (.fn 4) (argsE2 4) (hpE 4) 1) = some (.bool true) := by kernel_rfl
theorem nE2_4_13 (ok) : fstO (evDS (pgS hole (eE [(1, iP 6, hLb, false)] (gE2 4) 13) ok) (spE) 2000 60 (.fn 4) (argsE2 4) (hpE 4) 1) = some (.bool true) := by kernel_rfl
theorem nE2_4_14 (ok) : fstO (evDS (pgS hole (eE [(1, iP 6, hLb, false)] (gE2 4) 14) ok) (spE) 2000 60 (.fn 4) (argsE2 4) (hpE 4) 1) = some (.bool true) := by kernel_rfl
theorem nE2_4_15 (ok) : fstO (evDS (pgS hole (eE [(1, iP 6, hLb, false)] (gE2 4) 15) ok) (spE) 2000 60 (.fn 4) (argsE2 4) (hpE 4) 1) = some (.bool true) := by kernel_rfl
theorem nE2_4_16 (ok) : fstO (evDS (pgS hole (eE [(1, iP 6, hLb, false)] (gE2 4) 16) ok) (spE) 2000 60 (.fn 4) (argsE2 4) (hpE 4) 1) = some (.bool true) := by kernel_rfl
theorem nE2_4_17 (ok) : fstO (evDS (pgS hole (eE [(1, iP 6, hLb, false)] (gE2 4) 17) ok) (spE) 2000 60 (.fn 4) (argsE2 4) (hpE 4) 1) = some (.bool true) := by kernel_rfl
theorem nE2_4_18 (ok) : fstO (evDS (pgS hole (eE [(1, iP 6, hLb, false)] (gE2 4) 18) ok) (spE) 2000 60 (.fn 4) (argsE2 4) (hpE 4) 1) = some (.bool true) := by kernel_rfl
theorem nE2_4_19 (ok) : fstO (evDS (pgS hole (eE [(1, iP 6, hLb, false)] (gE2 4) 19) ok) (spE) 2000 60 (.fn 4) (argsE2 4) (hpE 4) 1) = some (.bool true) := by kernel_rfl
theorem nE2_4_20 (ok) : fstO (evDS (pgS hole (eE [(1, iP 6, hLb, false)] (gE2 4) 20) ok) (spE) 2000 60 (.fn 4) (argsE2 4) (hpE 4) 1) = some (.bool true) := by kernel_rfl
theorem nE2_4_21 (ok) : fstO (evDS (pgS hole (eE [(1, iP 6, hLb, false)] (gE2 4) 21) ok) (spE) 2000 60 (.fn 4) (argsE2 4) (hpE 4) 1) = some (.bool true) := by kernel_rfl
theorem nE2_4_22 (ok) : fstO (evDS (pgS hole (eE [(1, iP 6, hLb, false)] (gE2 4) 22) ok) (spE) 2000 60 (.fn 4) (argsE2 4) (hpE 4) 1) = some (.bool true) := by kernel_rfl
theorem nE2_4_23 (ok) : fstO (evDS (pgS hole (eE [(1, iP 6, hLb, false)] (gE2 4) 23) ok) (spE) 2000 60 (.fn 4) (argsE2 4) (hpE 4) 1) = some (.bool true) := by kernel_rfl
theorem nE2_4_24 (ok) : fstO (evDS (pgS hole (eE [(1, iP 6, hLb, false)] (gE2 4) 24) ok) (spE) 2000 60 (.fn 4) (argsE2 4) (hpE 4) 1) = some (.bool true) := by kernel_rfl
theorem nE2_4_25 (ok) : fstO (evDS (pgS hole (eE [(1, iP 6, hLb, false)] (gE2 4) 25) ok) (spE) 2000 60 (.fn 4) (argsE2 4) (hpE 4) 1) = some (.bool true) := by kernel_rfl
theorem nE2_4_26 (ok) : fstO (evDS (pgS hole (eE [(1, iP 6, hLb, false)] (gE2 4) 26) ok) (spE) 2000 60 (.fn 4) (argsE2 4) (hpE 4) 1) = some (.bool true) := by kernel_rfl
theorem nE2_4_27 (ok) : fstO (evDS (pgS hole (eE [(1, iP 6, hLb, false)] (gE2 4) 27) ok) (spE) 2000 60 (.fn 4) (argsE2 4) (hpE 4) 1) = some (.bool true) := by kernel_rfl
theorem nE2_4_28 (ok) : fstO (evDS (pgS hole (eE [(1, iP 6, hLb, false)] (gE2 4) 28) ok) (spE) 2000 60 (.fn 4) (argsE2 4) (hpE 4) 1) = some (.bool true) := by kernel_rfl
theorem nE2_4_29 (ok) : fstO (evDS (pgS hole (eE [(1, iP 6, hLb, false)] (gE2 4) 29) ok) (spE) 2000 60 (.fn 4) (argsE2 4) (hpE 4) 1) = some (.bool true) := by kernel_rfl
theorem nE2_4_30 (ok) : fstO (evDS (pgS hole (eE [(1, iP 6, hLb, false)] (gE2 4) 30) ok) (spE) 2000 60 (.fn 4) (argsE2 4) (hpE 4) 1) = some (.bool true) := by kernel_rfl
theorem nE2_4_31 (ok) : fstO (evDS (pgS hole (eE [(1, iP 6, hLb, false)] (gE2 4) 31) ok) (spE) 2000 60 (.fn 4) (argsE2 4) (hpE 4) 1) = some (.bool true) := by kernel_rfl
theorem nE2_4_32 (ok) : fstO (evDS (pgS hole (eE [(1, iP 6, hLb, false)] (gE2 4) 32) ok) (spE) 2000 60 (.fn 4) (argsE2 4) (hpE 4) 1) = some (.bool true) := by kernel_rfl
theorem nE2_4_33 (ok) : fstO (evDS (pgS hole (eE [(1, iP 6, hLb, false)] (gE2 4) 33) ok) (spE) 2000 60 (.fn 4) (argsE2 4) (hpE 4) 1) = some (.bool true) := by kernel_rfl
theorem nE2_4_34 (ok) : fstO (evDS (pgS hole (eE [(1, iP 6, hLb, false)] (gE2 4) 34) ok) (spE) 2000 60 (.fn 4) (argsE2 4) (hpE 4) 1) = some (.bool true) := by kernel_rfl
theorem nE2_4_35 (ok) : fstO (evDS (pgS hole (eE [(1, iP 6, hLb, false)] (gE2 4) 35) ok) (spE) 2000 60 (.fn 4) (argsE2 4) (hpE 4) 1) = some (.bool true) := by kernel_rfl
theorem nE2_4_36 (ok) : fstO (evDS (pgS hole (eE [(1, iP 6, hLb, false)] (gE2 4) 36) ok) (spE) 2000 60 (.fn 4) (argsE2 4) (hpE 4) 1) = some (.bool true) := by kernel_rfl
theorem nE2_4_37 (ok) : fstO (evDS (pgS hole (eE [(1, iP 6, hLb, false)] (gE2 4) 37) ok) (spE) 2000 60 (.fn 4) (argsE2 4) (hpE 4) 1) = some (.bool true) := by kernel_rfl
theorem nE2_4_38 (ok) : fstO (evDS (pgS hole (eE [(1, iP 6, hLb, false)] (gE2 4) 38) ok) (spE) 2000 60 (.fn 4) (argsE2 4) (hpE 4) 1) = some (.bool true) := by kernel_rfl
theorem nE3_4_0 (ok) : fstO (evDS (pgS hole (eE (sysG 4) (gE3 4) 0) ok) (spE) 2000 60 (.fn 4) (argsE3 4) (hpS 4) 2) = some (.bool true) := by kernel_rfl
theorem nE3_4_1 (ok) : fstO (evDS (pgS hole (eE (sysG 4) (gE3 4) 1) ok) (spE) 2000 60 (.fn 4) (argsE3 4) (hpS 4) 2) = some (.bool true) := by kernel_rfl
theorem nE3_4_2 (ok) : fstO (evDS (pgS hole (eE (sysG 4) (gE3 4) 2) ok) (spE) 2000 60 (.fn 4) (argsE3 4) (hpS 4) 2) = some (.bool true) := by kernel_rfl
theorem nE3_4_3 (ok) : fstO (evDS (pgS hole (eE (sysG 4) (gE3 4) 3) ok) (spE) 2000 60 (.fn 4) (argsE3 4) (hpS 4) 2) = some (.bool true) := by kernel_rfl
theorem nE3_4_4 (ok) : fstO (evDS (pgS hole (eE (sysG 4) (gE3 4) 4) ok) (spE) 2000 60 (.fn 4) (argsE3 4) (hpS 4) 2) = some (.bool true) := by kernel_rfl
theorem nE3_4_5 (ok) : fstO (evDS (pgS hole (eE (sysG 4) (gE3 4) 5) ok) (spE) 2000 60 (.fn 4) (argsE3 4) (hpS 4) 2) = some (.bool true) := by kernel_rfl
theorem nE3_4_6 (ok) : fstO (evDS (pgS hole (eE (sysG 4) (gE3 4) 6) ok) (spE) 2000 60 (.fn 4) (argsE3 4) (hpS 4) 2) = some (.bool true) := by kernel_rfl
theorem nE3_4_7 (ok) : fstO (evDS (pgS hole (eE (sysG 4) (gE3 4) 7) ok) (spE) 2000 60 (.fn 4) (argsE3 4) (hpS 4) 2) = some (.bool true) := by kernel_rfl
theorem nE3_4_8 (ok) : fstO (evDS (pgS hole (eE (sysG 4) (gE3 4) 8) ok) (spE) 2000 60 (.fn 4) (argsE3 4) (hpS 4) 2) = some (.bool true) := by kernel_rfl
theorem nE3_4_9 (ok) : fstO (evDS (pgS hole (eE (sysG 4) (gE3 4) 9) ok) (spE) 2000 60 (.fn 4) (argsE3 4) (hpS 4) 2) = some (.bool true) := by kernel_rfl
theorem nE3_4_10 (ok) : fstO (evDS (pgS hole (eE (sysG 4) (gE3 4) 10) ok) (spE) 2000 60 (.fn 4) (argsE3 4) (hpS 4) 2) = some (.bool true) := by kernel_rfl
theorem nE3_4_11 (ok) : fstO (evDS (pgS hole (eE (sysG 4) (gE3 4) 11) ok) (spE) 2000 60 (.fn 4) (argsE3 4) (hpS 4) 2) = some (.bool true) := by kernel_rfl
theorem nE3_4_12 (ok) : fstO (evDS (pgS hole (eE (sysG 4) (gE3 4) 12) ok) (spE) 2000 60 (.fn 4) (argsE3 4) (hpS 4) 2) = some (.bool true) := by kernel_rfl
theorem nE3_4_13 (ok) : fstO (evDS (pgS hole (eE (sysG 4) (gE3 4) 13) ok) (spE) 2000 60 (.fn 4) (argsE3 4) (hpS 4) 2) = some (.bool true) := by kernel_rfl
theorem nE3_4_14 (ok) : fstO (evDS (pgS hole (eE (sysG 4) (gE3 4) 14) ok) (spE) 2000 60 (.fn 4) (argsE3 4) (hpS 4) 2) = some (.bool true) := by kernel_rfl
theorem nE3_4_15 (ok) : fstO (evDS (pgS hole (eE (sysG 4) (gE3 4) 15) ok) (spE) 2000 60 (.fn 4) (argsE3 4) (hpS 4) 2) = some (.bool true) := by kernel_rfl
theorem nE3_4_16 (ok) : fstO (evDS (pgS hole (eE (sysG 4) (gE3 4) 16) ok) (spE) 2000 60 (.fn 4) (argsE3 4) (hpS 4) 2) = some (.bool true) := by kernel_rfl
theorem nE3_4_17 (ok) : fstO (evDS (pgS hole (eE (sysG 4) (gE3 4) 17) ok) (spE) 2000 60 (.fn 4) (argsE3 4) (hpS 4) 2) = some (.bool true) := by kernel_rfl
theorem nE3_4_18 (ok) : fstO (evDS (pgS hole (eE (sysG 4) (gE3 4) 18) ok) (spE) 2000 60 (.fn 4) (argsE3 4) (hpS 4) 2) = some (.bool true) := by kernel_rfl
theorem nE3_4_19 (ok) : fstO (evDS (pgS hole (eE (sysG 4) (gE3 4) 19) ok) (spE) 2000 60 (.fn 4) (argsE3 4) (hpS 4) 2) = some (.bool true) := by kernel_rfl
theorem nZf_4 (ok) : fstO (evDS (pgS hole (sysF 4) ok) (spMz 4 (ansF 0 16)) 2000 60 (.fn 4) (argsE3 4) (hpS 4) 2) = some (.bool true) := by kernel_rfl
theorem nPf_4 (ok) : fstO (evDS (pgS hole (factsS 4 (posF false)) ok) (spMp 4 (ansF 0 16)) 2000 60 (.fn 4) (argsE3 4) (hpS 4) 2) = some (.bool true) := by kernel_rfl
theorem nZs_4 (ok) : fstO (evDS (pgS hole (sysF 4) ok) (spMz 4 (shA)) 2000 60 (.fn 4) (argsE3 4) (hpS 4) 2) = some (.bool true) := by kernel_rfl
theorem nPs_4 (ok) : fstO (evDS (pgS hole (factsS 4 (posF false)) ok) (spMp 4 (shA)) 2000 60 (.fn 4) (argsE3 4) (hpS 4) 2) = some (.bool true) := by kernel_rfl
theorem nT_4 (ok) : fstO (evDS (pgS hole (factsS 4 (posF true)) ok) (spMt 4) 2000 60 (.fn 4) (argsE3 4) (hpS 4) 2) = some (.bool true) := by kernel_rfl
end
end Sy
end Go.Proofs.YtdejmleboflopaaGreat
