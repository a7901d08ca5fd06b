/- NetOf of both; the law GaugeBooks: runs. -/
import Derived.Test.YtlmnhlmgbcpclaaBD
set_option linter.unusedVariables false
set_option linter.unusedSimpArgs false
namespace Go.Proofs.Ytlmnhlmgbcpclaa
open Go.RowKit
namespace Sy
open Go.RowKit

/-- the copied book -/
def gB : Pt := .g [(none, hLo), (none, hHi), (some (.opq 61 []), nR), (some (.opq 62 []), nM)]
def h2 : Value := ho 2
def h3 : Value := ho 3
def dsV : Value := .agg #[h2, h3]
def mkV : Value := .agg #[ho 11, ho 12]
def hE : Value := ho 13
def eCBc : Ent := ⟨9, [gB], .v (.tuple #[mkV, hE])⟩
def eNm : Ent := ⟨46, [.v sC], .v (ho 14)⟩
def eD0 : Ent := ⟨47, [.v h2], .v (ho 15)⟩
def eD1 : Ent := ⟨47, [.v h3], .v (ho 16)⟩
def eNet : Ent := ⟨48, [gB, .v sC, .v h2, .v h3], .v (ho 17)⟩
noncomputable def pdG (l : List Fact) : Pd := { prog := Try.prog, facts := l, fams := bookFams, sl := true, cps := [(1, 61), (2, 62)], eqs := [(32, 2)] }
noncomputable def runG (f : Nat) (l : List Fact) (es : List Ent) (ps : List Pt) : Option Value := fstO ((evE (spEnts es) 2000 60 (pdG l) []).1 (.fn f) (ptVals 0 ps) (memT (ptObjs ps)) 3)
def netEs : List Ent := [eCBc, eNm, eD0, eD1, eNet]
def fNO : Nat := 11
def psNO : List Pt := [gB, .v sC, .v dsV]
def z (v : Value) : Fact := (0, v, li 0, true)
def nz (v : Value) : Fact := (0, v, li 0, false)
def ord (b : Bool) : Fact := (2, h2, h3, b)
/-- the reference's -/
def eIN (b : Bool) : Ent := ⟨21, [.v sC], .v (.bool b)⟩
def eR0 : Ent := ⟨18, [.v h2], .v (ho 15)⟩
def eR1 : Ent := ⟨18, [.v h3], .v (ho 16)⟩
def eRNt : Ent := ⟨52, [.v bkV, .v sC, .v h2, .v h3], .v (ho 17)⟩
def refEs (b : Bool) : List Ent := [eIN b, eR0, eR1, eRNt]
def fRN : Nat := 13
def psRN : List Pt := [.v bkV, .v sC, .v dsV]
/-- the law -/
def fGB : Nat := 3
def eFew (b : Bool) : Ent := ⟨8, [.v bkV], .v (.bool b)⟩
def eNO (r : Value) : Ent := ⟨fNO, psNO, .v r⟩
def eRC : Ent := ⟨fCB, [.v bkV], .v (.tuple #[mkV, hE])⟩
def eRN (r : Value) : Ent := ⟨fRN, psRN, .v r⟩
def lnC (b : Bool) : Fact := (1, li 20, slenS 9 [], b)
def same (v : Value) : Fact := (0, v, v, true)
noncomputable def runL (l : List Fact) (es : List Ent) : Option Value := fstO ((evE (spOr (spTrue 7) (spEnts es)) 2000 60 (pdG l) []).1 (.fn fGB) (ptVals 0 psRN) (memT (ptObjs psRN)) 3)
def tp (a b : Value) : Value := .tuple #[a, b]
end Sy
end Go.Proofs.Ytlmnhlmgbcpclaa
