/- The law GaugeHalves, reckoned with symbols. -/
import Derived.Test.YtpidgcmdimjkoaaSD
set_option linter.unusedVariables false
set_option linter.unusedSimpArgs false
namespace Go.Proofs.Ytpidgcmdimjkoaa
open Go.RowKit
namespace Sy
open Go.RowKit

def rH : Value := hN 1
def lH : Value := hN 2
def cName : ByteArray := ⟨#[99]⟩
def inH : Value := .iface 4 (.tuple #[rH, rH])
def outH : Value := .iface 5 (.tuple #[rH, rH])
def lv1 : Value := .iface 2 (.tuple #[rH, rH])
def lv2 : Value := .iface 2 (.tuple #[.iface 3 (.tuple #[.int .i64 2, rH]), rH])
noncomputable def spH : CallF := spOr (spTrue 7) (spOr (spNum numsG) (spOr (spList 29 104) (spOr (spAreas 41 [inH, outH]) (spOr (spUp 42 lv1) (spOr (spUp 42 lv2) (spCask 52 (isLit cName)))))))
def rowH : List Value := [.int .i64 0, rH, rH, lH, rH, rH]
def errH : Value := .iface 121 (.tuple (rH :: rowH).toArray)
def topH : Value := .iface 3 (.tuple #[.int .i64 2, rH])
def dipH (d : Value) : Value := .iface 104 (.tuple #[.int .i64 0, .iface 103 (.tuple #[d, .int .i64 0, topH])])
def loS (lv : Value) : Value := .iface 105 (.tuple #[.iface 1 (.tuple #[.int .i64 0, .iface 3 (.tuple #[.iface 2 (.tuple #[lH, .int .i64 0]), .iface 101 (.tuple #[inH, lv])])])])
def hiS (lv : Value) : Value := .iface 106 (.tuple #[.iface 1 (.tuple #[.int .i64 0, .iface 3 (.tuple #[.iface 2 (.tuple #[lH, .int .i64 0]), .iface 102 (.tuple #[outH, lv])])])])
def baseF : List Fact := [(2, .int .i64 10, rH, true), (2, rH, .int .i64 60, true), (2, .int .i64 1, lH, true), (2, lH, .int .i64 3000, true), (0, errH, .int .i64 0, true), (0, dipH rH, .int .i64 0, true), (0, dipH topH, .int .i64 0, true),
  (2, .iface 3 (.tuple #[.int .i64 2, loS lv1]), loS lv2, true), (2, hiS lv2, .iface 3 (.tuple #[.int .i64 2, hiS lv1]), true)]
def mH (k : Int) : Value := .iface 3 (.tuple #[.iface 3 (.tuple #[.iface 3 (.tuple #[.int .i64 k, rH]), rH]), lH])
def pC (a : Value) : Value := .iface 6 (.tuple #[a, .int .i64 1])
def qC (m : Value) : Value := .iface 105 (.tuple #[m])
/-- how a number is compared with another one's part of a hundred thousand -/
def cmpF (a m : Value) (c1 c2 c3 : Bool) : List Fact := [(1, .iface 7 (.tuple #[a, .int .i64 1]), .int .i64 0, false), (1, pC a, qC m, c1), (1, qC m, pC a, c2),
  (0, .iface 2 (.tuple #[a, .iface 3 (.tuple #[pC a, .int .i64 1])]), .int .i64 0, true), (0, .iface 2 (.tuple #[m, .iface 3 (.tuple #[qC m, .int .i64 100000])]), .int .i64 0, c3)]
def factsH (a1 a2 a3 b1 b2 b3 : Bool) : List Fact := baseF ++ (cmpF (hiS lv2) (mH 3) a1 a2 a3 ++ cmpF (loS lv2) (mH 4) b1 b2 b3)
def holeH (r L : Int) (n : Nat) : Value :=
  match n with
  | 1 => .int .i64 r
  | 2 => .int .i64 L
  | _ => .int .i64 0
noncomputable def pgH (r L : Int) (l : List Fact) (ok : ∀ f ∈ l, ∃ x y, Dv (denG cName (holeH r L) (fun _ => False)) f.2.1 x ∧ Dv (denG cName (holeH r L) (fun _ => False)) f.2.2.1 y ∧ cmpN f.1 x y = f.2.2.2) : Pg :=
  { prog := Try.prog, den := denG cName (holeH r L) (fun _ => False), facts := l, ok := ok }
section
variable (r L : Int)
end
end Sy
end Go.Proofs.Ytpidgcmdimjkoaa
