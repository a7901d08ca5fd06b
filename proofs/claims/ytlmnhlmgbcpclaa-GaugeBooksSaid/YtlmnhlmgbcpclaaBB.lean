/- The reference's CheckBook over a book's lists: runs. -/
import Derived.Test.YtlmnhlmgbcpclaaBA
set_option linter.unusedVariables false
set_option linter.unusedSimpArgs false
namespace Go.Proofs.Ytlmnhlmgbcpclaa
open Go.RowKit
namespace Sy
open Go.RowKit

def fCB : Nat := 12
def eRg : Ent := ⟨49, [.v (.agg #[hLo, hHi]), .v (li 100000)], .v (ho 10)⟩
def eRd (i : Value) : Ent := ⟨50, [.v (.agg #[rS i, rD i, rL i, rH i])], .v (rE i)⟩
def eMv (i : Value) : Ent := ⟨51, [.v (.agg #[mD i, mA i, mB i, mV i])], .v (mE i)⟩
def hI : Value := ho 50
def hJ : Value := ho 51
/-- an element that is right and follows: the first one, or one behind another -/
def okAt (n er da : Value) (i : Value) : List Fact := [(2, li 0, i, true), (1, i, n, true), (0, er, li 0, true)]
def okFst (n : Value) (er da : Value → Value) (i : Value) : List Fact := okAt n (er i) (da i) i ++ [(1, li 0, i, false)]
def okNxt (n : Value) (er da : Value → Value) (i : Value) : List Fact := okAt n (er i) (da i) i ++ [(1, li 0, i, true), (2, li 0, bn 2 i (li 1), true), (1, bn 2 i (li 1), n, true), (1, da i, da (bn 2 i (li 1)), false)]
/-- what is wrong of an element: its own error; its day -/
def badOwn (n : Value) (er : Value → Value) (i : Value) : List Fact := [(2, li 0, i, true), (1, i, n, true), (0, er i, li 0, false)]
def badDay (n : Value) (er da : Value → Value) (i : Value) : List Fact := okAt n (er i) (da i) i ++ [(1, li 0, i, true), (2, li 0, bn 2 i (li 1), true), (1, bn 2 i (li 1), n, true), (1, da i, da (bn 2 i (li 1)), true)]
def wy (slot : Nat) (fs : List Fact) (i : Value) : Wy := ⟨fs, [], [(slot, bn 1 i (li 1))]⟩
def loopR (fin : Value) : LSpec := .mk fCB 8 [(5, 50)] [li 0] [wy 5 (okFst nR rE rD hI) hI, wy 5 (okNxt nR rE rD hI) hI] [fin] []
def loopM (fin : Value) : LSpec := .mk fCB 16 [(7, 51)] [li 0] [wy 7 (okFst nM mE mD hJ) hJ, wy 7 (okNxt nM mE mD hJ) hJ] [fin] []
def hK : Value := ho 20
noncomputable def runCB (l : List Fact) (tb : List LSpec) (es : List Ent) : Option Value := fstO ((evE (spEnts es) 2000 60 (pdB l []) tb).1 (.fn fCB) (ptVals 0 [.v bkV]) (memT (ptObjs [.v bkV])) 3)
def allR : List Ent := [eRg, eRd hI, eRd hK, eMv hJ, eMv hK]
def goodHd : List Fact := [(0, ho 10, li 0, true), (1, li 40, nR, false), (1, li 60, nM, false)]
end Sy
end Go.Proofs.Ytlmnhlmgbcpclaa
