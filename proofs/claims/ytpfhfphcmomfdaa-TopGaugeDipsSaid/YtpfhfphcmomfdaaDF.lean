/- FromDip of a right cask and right numbers: runs over the caller's window. -/
import Derived.Test.YtpfhfphcmomfdaaAG
import Derived.Test.YtpfhfphcmomfdaaVX
set_option linter.unusedVariables false
set_option linter.unusedSimpArgs false
namespace Go.Proofs.Ytpfhfphcmomfdaa
open Go.RowKit
namespace Sy
open Go.RowKit

def hF (N j : Nat) : Value := hN (N * 3 + j + 3)
def hNm : Value := .iface 90 (.int .i64 (.ofNat 0))
def wiK (N : Nat) : Value := .agg #[hNm, hBung, .iface 93 (.tuple #[.int .i64 0, .int .i64 0, .int .i64 (.ofNat N)])]
def lvF (d : Value) : Value := .iface 2 (.tuple #[d, hBung])
def lvFA (N : Nat) : Value := lvF (.iface 5 (.tuple #[.int .i64 0, .iface 2 (.tuple #[hF N 1, hF N 2])]))
def lvFB (N : Nat) : Value := lvF (.iface 4 (.tuple #[topV, .iface 1 (.tuple #[hF N 1, hF N 2])]))
def nuF (a hi : Value) : Value := .iface 103 (.tuple #[a, .int .i64 0, hi])
def fdFN (N : Nat) : Value := .iface 104 (.tuple #[.int .i64 0, nuF (hF N 0) (.int .i64 100000), nuF (hF N 1) topV, nuF (hF N 2) topV])
def factF (N : Nat) (c : Bool) : List Fact := [(0, errV N, .int .i64 0, true), (0, fdFN N, .int .i64 0, true), (1, .int .i64 100000, fHi (lvFB N) N, c)]
noncomputable def spFdP (N : Nat) : CallF := spOr (spNum numsT) (spOr (spList 20 104) (spOr (spVes N) (spOr (spUp 38 (lvFA N)) (spUp 38 (lvFB N)))))
section
variable (s : ByteArray) (bung dip : Int) (xs : List Int) (O : Obj → Prop)
theorem fpRun2 (ok) : fstO (evDS (pgE s bung dip xs O (factF 2 false) ok) (spFdP 2) 2000 60 (.fn 11) [wiK 2, .agg #[hF 2 0, hF 2 1, hF 2 2]] (hpW 2) 1) = some (.tuple #[.agg #[hNm, hF 2 0, fLo (lvFA 2) 2, fHi (lvFB 2) 2], .int .i64 0]) := by kernel_rfl
theorem fpBig2 (ok) : fstO (evDS (pgE s bung dip xs O (factF 2 true) ok) (spFdP 2) 2000 60 (.fn 11) [wiK 2, .agg #[hF 2 0, hF 2 1, hF 2 2]] (hpW 2) 1) = some (.tuple #[.agg #[.string ⟨#[]⟩, .int .i64 0, .int .i64 0, .int .i64 0], .int .i64 8]) := by kernel_rfl
theorem fpRun3 (ok) : fstO (evDS (pgE s bung dip xs O (factF 3 false) ok) (spFdP 3) 2000 60 (.fn 11) [wiK 3, .agg #[hF 3 0, hF 3 1, hF 3 2]] (hpW 3) 1) = some (.tuple #[.agg #[hNm, hF 3 0, fLo (lvFA 3) 3, fHi (lvFB 3) 3], .int .i64 0]) := by kernel_rfl
theorem fpBig3 (ok) : fstO (evDS (pgE s bung dip xs O (factF 3 true) ok) (spFdP 3) 2000 60 (.fn 11) [wiK 3, .agg #[hF 3 0, hF 3 1, hF 3 2]] (hpW 3) 1) = some (.tuple #[.agg #[.string ⟨#[]⟩, .int .i64 0, .int .i64 0, .int .i64 0], .int .i64 8]) := by kernel_rfl
theorem fpRun4 (ok) : fstO (evDS (pgE s bung dip xs O (factF 4 false) ok) (spFdP 4) 2000 60 (.fn 11) [wiK 4, .agg #[hF 4 0, hF 4 1, hF 4 2]] (hpW 4) 1) = some (.tuple #[.agg #[hNm, hF 4 0, fLo (lvFA 4) 4, fHi (lvFB 4) 4], .int .i64 0]) := by kernel_rfl
theorem fpBig4 (ok) : fstO (evDS (pgE s bung dip xs O (factF 4 true) ok) (spFdP 4) 2000 60 (.fn 11) [wiK 4, .agg #[hF 4 0, hF 4 1, hF 4 2]] (hpW 4) 1) = some (.tuple #[.agg #[.string ⟨#[]⟩, .int .i64 0, .int .i64 0, .int .i64 0], .int .i64 8]) := by kernel_rfl
end
end Sy
end Go.Proofs.Ytpfhfphcmomfdaa
