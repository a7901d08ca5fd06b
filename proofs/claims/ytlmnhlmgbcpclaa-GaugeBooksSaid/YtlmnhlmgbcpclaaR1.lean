/- Contracts of the reference of chapter 3: RangeErr, first. -/
import Derived.Test.YtlmnhlmgbcpclaaB1
import Derived.Deep.QuietTactic
import Derived.BigQuiet
import Derived.Below
import Derived.Deep.RegionHeld3
import Derived.Deep.DeepCutAuto
namespace Go.Proofs.Ytlmnhlmgbcpclaa
open Go.RowKit

def rangeE (lo hi most : Int) : Int := if inB lo 0 most && inB hi 0 most then (if hi < lo then 9 else 0) else 2
def firstE (a b c : Int) : Int := if a ≠ 0 then a else if b ≠ 0 then b else c

end Go.Proofs.Ytlmnhlmgbcpclaa
