/- The volume of a cask up to a dip, reckoned with symbols: what is asked. -/
import Derived.Test.YtpfhfphcmomfdaaSB
set_option linter.unusedVariables false
set_option linter.unusedSimpArgs false
namespace Go.Proofs.Ytpfhfphcmomfdaa
open Go.RowKit
namespace Sy
open Go.RowKit

def hN (n : Nat) : Value := .iface 0 (.int .i64 (.ofNat n))
def hName : Value := .iface 90 (.int .i64 (.ofNat 0))
def hBung : Value := hN 1
def hDip : Value := hN 2
def hSt (i j : Nat) : Value := hN (i * 3 + j + 3)
def rowV (N : Nat) : List Value := (List.range (N * 3)).map fun i => hN (i + 3)
def lvV : Value := .iface 2 (.tuple #[hDip, hBung])
def radiiV (N : Nat) : List Value := (List.range (N - 1)).map (fun k => .iface 4 (.tuple #[hSt k 1, hSt (k + 1) 1])) ++ (List.range (N - 1)).map (fun k => .iface 5 (.tuple #[hSt k 2, hSt (k + 1) 2]))
def errV (N : Nat) : Value := .iface 121 (.tuple (hBung :: rowV N).toArray)
def topV : Value := .iface 3 (.tuple #[.int .i64 2, hBung])
def dipV : Value := .iface 104 (.tuple #[.int .i64 0, .iface 103 (.tuple #[hDip, .int .i64 0, topV])])
def factsV (N : Nat) (c : Bool) : List Fact := [(0, errV N, .int .i64 0, true), (0, dipV, .int .i64 0, c)]
def loV : Nat → Value
  | 0 => .int .i64 0
  | k + 1 => .iface 1 (.tuple #[loV k, .iface 3 (.tuple #[.iface 2 (.tuple #[hSt (k + 1) 0, hSt k 0]), .iface 101 (.tuple #[.iface 4 (.tuple #[hSt k 1, hSt (k + 1) 1]), lvV])])])
def hiV : Nat → Value
  | 0 => .int .i64 0
  | k + 1 => .iface 1 (.tuple #[hiV k, .iface 3 (.tuple #[.iface 2 (.tuple #[hSt (k + 1) 0, hSt k 0]), .iface 102 (.tuple #[.iface 5 (.tuple #[hSt k 2, hSt (k + 1) 2]), lvV])])])
def resV (N : Nat) : Value := .tuple #[.agg #[.iface 105 (.tuple #[loV (N - 1)]), .iface 106 (.tuple #[hiV (N - 1)])], .int .i64 0]
def resD : Value := .tuple #[.agg #[.int .i64 0, .int .i64 0], dipV]
def hpV (N : Nat) : T AObj := .node .leaf (some (.row (rowV N) 92 true)) .leaf
def caskV (N : Nat) : Value := .agg #[hName, hBung, .slice (some ⟨0, 0, none⟩) N OPEN]
def holeV (s : ByteArray) (bung dip : Int) (xs : List Int) (n : Nat) : Value :=
  match n with
  | 0 => .string s
  | 1 => .int .i64 bung
  | 2 => .int .i64 dip
  | n + 3 => .int .i64 (xs.getD n 0)
noncomputable def pgV (s : ByteArray) (bung dip : Int) (xs : List Int) (O : Obj → Prop) (l : List Fact) (ok : ∀ f ∈ l, ∃ x y, Dv (denG s (holeV s bung dip xs) O) f.2.1 x ∧ Dv (denG s (holeV s bung dip xs) O) f.2.2.1 y ∧ cmpN f.1 x y = f.2.2.2) : Pg :=
  { prog := Try.prog, den := denG s (holeV s bung dip xs) O, facts := l, ok := ok }
section
variable (s : ByteArray) (bung dip : Int) (xs : List Int) (O : Obj → Prop)
end
end Sy
end Go.Proofs.Ytpfhfphcmomfdaa
