/- Years: the patterns and the calls of the law. -/
import Derived.Test.YtdejmleboflopaaGreatYC
set_option linter.unusedVariables false
set_option linter.unusedSimpArgs false
namespace Go.Proofs.YtdejmleboflopaaGreat
open Go.RowKit
namespace Sy
open Go.RowKit

noncomputable def pgY (Y : Yr) (l : List Fact) (ok : ∀ f ∈ l, ∃ x y, Dv (DZ Y) f.2.1 x ∧ Dv (DZ Y) f.2.2.1 y ∧ cmpN f.1 x y = f.2.2.2) : Pg := { prog := Tryz.prog, den := DZ Y, facts := l, ok := ok }
def hCk : Value := hO 0
def hE : Value := hO 1
def hA : Value := hO 2
def hNu : Value := hO 3
def hYe : Value := hO 4
def hGn : Value := hO 5
def hGe : Value := hO 6
def hRk : Value := hO 7
def hDe : Value := hO 8
def hCe : Value := hO 9
def hFu (y : Nat) : Value := hO (10 + y)
def hSh (y : Nat) : Value := hO (20 + y)
def hFy : Value := hO 30
def hFi : Value := hO 31
def hFe : Value := hO 32
/-- copies; originals; the empty system -/
def sA : Pt := .a (.opq 53 []) hLs hNew
def bA : Pt := .s (.opq 54 []) hLb
def dA : Pt := .s (.opq 55 []) hLd
def sO : Pt := .a (.opq 200 []) hLs hNew
def bO : Pt := .s (.opq 201 []) hLb
def dOr : Pt := .s (.opq 202 []) hLd
def sE : Pt := .v (.agg #[.slice none 0 0, iP 0])
def dW (K : Nat) : Pt := .s (.win (rowD K)) (iP K)
/-- lists without elements, wherever they lie -/
def sN : Pt := .v (.agg #[.iface 94 (.tuple #[iP 40, hLs]), hNew])
def bN : Pt := .v (.iface 94 (.tuple #[iP 42, hLb]))
def dN : Pt := .v (.iface 94 (.tuple #[iP 44, hLd]))
def osl (t : Value) (id : Nat) : Value := .iface 91 (.tuple #[.int .i64 (.ofNat id), t])
def rowA (y N : Nat) : List Value := (List.range N).flatMap fun i => [hAg y i 0, hAg y i 1]
def nilE (e : Value) : Value := .tuple #[.slice none 0 0, e]
def eSys : Ent := ⟨62, [sA], .v (.tuple #[hCk, hE])⟩
def eAg (s : Pt) : Ent := ⟨34, [s, bA], .v hA⟩
def eNu (d : Pt) : Ent := ⟨63, [d, .v (iP 0), .v (iP 20000)], .v hNu⟩
def eFu (s : Pt) (y : Nat) : Ent := ⟨35, [s, .v (hDw y)], .v (hFu y)⟩
def eYe (s d : Pt) : Ent := ⟨30, [s, bA, d], .v hYe⟩
def eFl (s : Pt) (t : Value) (y : Nat) : Ent := ⟨37, [s, .v (hDw y)], .n (.opq (80 + y) []) (osl t)⟩
/-- ages behind so many years, of lists that are not looked into -/
def agO (y : Nat) : Pt := if y = 0 then bA else .s (.opq (70 + y) []) hLs
def eBh (y : Nat) : Ent := ⟨36, [sA, agO y, .s (.opq (80 + y) []) hLs], .n (.opq (71 + y) []) (osl hLs)⟩
def eCl : Ent := ⟨31, [bA], .n (.opq 54 []) (osl hLb)⟩
/-- ages of so many scales -/
def agW (y N : Nat) : Pt := if y = 0 then bA else .s (.win (rowA y N)) (iP N)
def eBw (N y : Nat) : Ent := ⟨36, [pS N, agW y N, .s (.opq (80 + y) []) (iP N)], .n (.win (rowA (y + 1) N)) (osl (iP N))⟩
/-- the reference's -/
def eCb (b : Pt) : Ent := ⟨9, [b], .n (.opq 54 []) (osl hLb)⟩
def agR (y : Nat) : Pt := if y = 0 then bA else .s (.opq (70 + y) []) hLs
def eYr (y : Nat) : Ent := ⟨42, [sO, agR y, .v (hDw y)], .n (.opq (71 + y) []) (fun id => .tuple #[osl hLs id, .bool true])⟩
def eYn (y : Nat) : Ent := ⟨42, [sO, agR y, .v (hDw y)], .v (.tuple #[.slice none 0 0, .bool false])⟩
def eSh (y : Nat) : Ent := ⟨43, [sO, .s (.opq (71 + y) []) hLs], .v (hSh y)⟩
def eRa (d : Pt) (e : Value) : Ent := ⟨17, [sO, bO, d], .v (nilE e)⟩
def eRg (d : Pt) (K : Nat) : Ent := ⟨17, [sO, bO, d], .n (if K = 0 then .opq 54 [] else .opq (70 + K) []) (fun id => .tuple #[osl (if K = 0 then hLb else hLs) id, iP 0])⟩
def Y0 : Yr := ⟨0, fun _ => 0, fun _ => 0, fun _ => 0, 0, 0, 0, 0, 0, 0, .nilIface, .nilIface, .nilIface, fun _ => 0⟩
noncomputable def shz (l : List Fact) (ok : ∀ f ∈ l, ∃ x y, Dv (DZ Y0) f.2.1 x ∧ Dv (DZ Y0) f.2.2.1 y ∧ cmpN f.1 x y = f.2.2.2) (sp : CallF) (f : Nat) (ps : List Pt) (id : Nat) : Option (Value × Option AObj) := fst2 id (evDS (pgY Y0 l ok) sp 2000 60 (.fn f) (ptVals 0 ps) (memT (ptObjs ps)) 3)
def fYE : Nat := 30
def fAA : Nat := 7
def fFS : Nat := 11
def fGN : Nat := 12
def fRA : Nat := 17
def fRF : Nat := 18
def fCL : Nat := 31
def fLW : Nat := 3
def fAG : Nat := 34
/-- the first error of three -/
def y3 (u : Int) : Value := fi3 hA (iP u) hNu
def fi2 (a b : Value) : Value := .iface 104 (.tuple #[a, b])
noncomputable def spY (l : List Ent) : CallF := spOr (spEnts l) spCk
end Sy
end Go.Proofs.YtdejmleboflopaaGreat
