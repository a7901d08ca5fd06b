/-
  No cell of these rows narrows 'for every input' (looked for: loops, veiled, ifaces, maps, wideKeys, modest, calm, conditions, laid).
  DERIVED. THE GIVEN ROWS OF THIS SEAT. 4 by the template 'for every input the law returns true; each argument reads behind the call as it read before'; 0 by the template 'total and deterministic' (their statements: YtpidgcmdimjkoaaTotals.lean).
  GIVEN WITH THE SEED: the statements are not yours to turn. If you find one false, say at which input.
  Laid BY PROGRAM, IN A SANDBOX (cutbox-rows.mjs): the forced cells as the released guide's own fill.sh prints them over the translation 9f632f140eeda606… (all of the seat's roots in one cut). By AI agents, Wed Nov 11 2026. No macro, syntax, notation, axiom, sorry.
-/
import Derived.Test.YtpidgcmdimjkoaaChecked
import GoSem.Claim
import GoSem.ClaimJoined
import GoSem.ClaimMapViews
import Derived.JoinedTies
import Derived.KernelRfl
namespace Go.Proofs.Ytpidgcmdimjkoaa
/- THE CELL 'sum', in the pinned program and in every row, IS THE sha256 OF THE DUMP (.gsa) THAT YtpidgcmdimjkoaaProg.lean LOADS. Nothing in Lean hashes anything: it is a label: what it is worth is what the hold of that sum in a sandbox is worth. -/
noncomputable def Try.pinned : Pinned := { name := "ytpidgcmdimjkoaa", sum := "9f632f140eeda606a4e3c686c1dca0f0b7fc484cbaf325c0589e6e03f2482816", checked := Try.checked }
namespace Rows
def none {H : Type} : Left H := { results := [], args := [] }

/-- 'criaderalaw04.GaugeDeeper': WHATEVER THE INPUT: true; the input reads as it did. -/
def gaugeDeeperSpec : ChangeSpec := { name := "gaugeDeeper", fn := fun _ => fun
  | [d1, d2, d3] => { results := [.lit (.bool true)], args := [d1, d2, d3] }
  | _ => none }
def gaugeDeeperRow : OpenClaim := { program := "ytpidgcmdimjkoaa", sum := "9f632f140eeda606a4e3c686c1dca0f0b7fc484cbaf325c0589e6e03f2482816", func := "criadera/criaderalaw04.GaugeDeeper", spec := "gaugeDeeper", unfollowed := true, recurses := true, apart := false }
def GaugeDeeperSaid : Prop := gaugeDeeperRow.holds Try.pinned (OpenSpec.ofChange gaugeDeeperSpec)

/-- ITS FALSE NEIGHBOUR: 'it returns false'. Refute it at one input. -/
def gaugeDeeperWrong : ChangeSpec := { name := "gaugeDeeper", fn := fun _ => fun
  | [d1, d2, d3] => { results := [.lit (.bool false)], args := [d1, d2, d3] }
  | _ => none }
def GaugeDeeperWrongFalsely : Prop := gaugeDeeperRow.holds Try.pinned (OpenSpec.ofChange gaugeDeeperWrong)

/-- 'criaderalaw04.GaugeDips': WHATEVER THE INPUT: true; the input reads as it did. -/
def gaugeDipsSpec : ChangeSpec := { name := "gaugeDips", fn := fun _ => fun
  | [d1, d2] => { results := [.lit (.bool true)], args := [d1, d2] }
  | _ => none }
def gaugeDipsRow : OpenClaim := { program := "ytpidgcmdimjkoaa", sum := "9f632f140eeda606a4e3c686c1dca0f0b7fc484cbaf325c0589e6e03f2482816", func := "criadera/criaderalaw04.GaugeDips", spec := "gaugeDips", unfollowed := true, recurses := true, apart := false }
def GaugeDipsSaid : Prop := gaugeDipsRow.holds Try.pinned (OpenSpec.ofChange gaugeDipsSpec)

/-- ITS FALSE NEIGHBOUR: 'it returns false'. Refute it at one input. -/
def gaugeDipsWrong : ChangeSpec := { name := "gaugeDips", fn := fun _ => fun
  | [d1, d2] => { results := [.lit (.bool false)], args := [d1, d2] }
  | _ => none }
def GaugeDipsWrongFalsely : Prop := gaugeDipsRow.holds Try.pinned (OpenSpec.ofChange gaugeDipsWrong)

/-- 'criaderalaw04.GaugeDippedBack': WHATEVER THE INPUT: true; the input reads as it did. -/
def gaugeDippedBackSpec : ChangeSpec := { name := "gaugeDippedBack", fn := fun _ => fun
  | [d1, d2, d3] => { results := [.lit (.bool true)], args := [d1, d2, d3] }
  | _ => none }
def gaugeDippedBackRow : OpenClaim := { program := "ytpidgcmdimjkoaa", sum := "9f632f140eeda606a4e3c686c1dca0f0b7fc484cbaf325c0589e6e03f2482816", func := "criadera/criaderalaw04.GaugeDippedBack", spec := "gaugeDippedBack", unfollowed := true, recurses := true, apart := false }
def GaugeDippedBackSaid : Prop := gaugeDippedBackRow.holds Try.pinned (OpenSpec.ofChange gaugeDippedBackSpec)

/-- ITS FALSE NEIGHBOUR: 'it returns false'. Refute it at one input. -/
def gaugeDippedBackWrong : ChangeSpec := { name := "gaugeDippedBack", fn := fun _ => fun
  | [d1, d2, d3] => { results := [.lit (.bool false)], args := [d1, d2, d3] }
  | _ => none }
def GaugeDippedBackWrongFalsely : Prop := gaugeDippedBackRow.holds Try.pinned (OpenSpec.ofChange gaugeDippedBackWrong)

/-- 'criaderalaw04.GaugeTables': WHATEVER THE INPUT: true; the input reads as it did. -/
def gaugeTablesSpec : ChangeSpec := { name := "gaugeTables", fn := fun _ => fun
  | [d1, d2, d3] => { results := [.lit (.bool true)], args := [d1, d2, d3] }
  | _ => none }
def gaugeTablesRow : OpenClaim := { program := "ytpidgcmdimjkoaa", sum := "9f632f140eeda606a4e3c686c1dca0f0b7fc484cbaf325c0589e6e03f2482816", func := "criadera/criaderalaw04.GaugeTables", spec := "gaugeTables", unfollowed := true, recurses := true, apart := false }
def GaugeTablesSaid : Prop := gaugeTablesRow.holds Try.pinned (OpenSpec.ofChange gaugeTablesSpec)

/-- ITS FALSE NEIGHBOUR: 'it returns false'. Refute it at one input. -/
def gaugeTablesWrong : ChangeSpec := { name := "gaugeTables", fn := fun _ => fun
  | [d1, d2, d3] => { results := [.lit (.bool false)], args := [d1, d2, d3] }
  | _ => none }
def GaugeTablesWrongFalsely : Prop := gaugeTablesRow.holds Try.pinned (OpenSpec.ofChange gaugeTablesWrong)

/- THE SECOND FORM. 'bulk': how many values and letters a reading holds, each counted each time it is reached (what is shared counts as often as it is met; a slice's spare places count too). A statement '..UptoSaid' is the law's where the arguments, and the package variables that the reading takes, are together of bulk at most 1048576: NARROWER than '..Said'. Prove '..Said' where nothing that the law and all that it calls make is longer than what came in: it says more and counts as full. Else prove '..UptoSaid'. A law counts once. -/
mutual
def uptoBulk {H : Type} : DataW H → Nat
  | .lit (.string bytes) => bytes.length + 1
  | .lit _ => 1
  | .nil => 1
  | .ptr d => uptoBulk d + 1
  | .slice elems spare => uptoBulkAll elems + uptoBulkAll spare + 1
  | .agg parts => uptoBulkAll parts + 1
  | .iface _ d => uptoBulk d + 1
  | .map entries => uptoBulkEntries entries + 1
  | .held _ => 1
def uptoBulkAll {H : Type} : List (DataW H) → Nat
  | [] => 0
  | d :: r => uptoBulk d + uptoBulkAll r
def uptoBulkEntries {H : Type} : List (Lit × DataW H) → Nat
  | [] => 0
  | x :: r => uptoBulkEntry x + uptoBulkEntries r
def uptoBulkEntry {H : Type} : Lit × DataW H → Nat
  | (.string bytes, d) => bytes.length + uptoBulk d + 1
  | (_, d) => uptoBulk d + 1
 end
def uptoSmall : (H : Type) → List (DataW H) → Bool := fun _ ds => decide (uptoBulkAll ds ≤ 1048576)
def OpenSpec.upto (s : _root_.Go.ChangeSpec) : _root_.Go.OpenSpec := { _root_.Go.OpenSpec.ofChange s with cond := some uptoSmall }

/-- 'criaderalaw04.GaugeDeeper', WHERE WHAT IT READS IS OF BULK AT MOST 1048576: true; the input reads as it did. -/
def gaugeDeeperUptoRow : OpenClaim := { program := "ytpidgcmdimjkoaa", sum := "9f632f140eeda606a4e3c686c1dca0f0b7fc484cbaf325c0589e6e03f2482816", func := "criadera/criaderalaw04.GaugeDeeper", spec := "gaugeDeeper", unfollowed := true, recurses := true, apart := false, narrowed := true }
def GaugeDeeperUptoSaid : Prop := gaugeDeeperUptoRow.holds Try.pinned (OpenSpec.upto gaugeDeeperSpec)

/-- 'criaderalaw04.GaugeDips', WHERE WHAT IT READS IS OF BULK AT MOST 1048576: true; the input reads as it did. -/
def gaugeDipsUptoRow : OpenClaim := { program := "ytpidgcmdimjkoaa", sum := "9f632f140eeda606a4e3c686c1dca0f0b7fc484cbaf325c0589e6e03f2482816", func := "criadera/criaderalaw04.GaugeDips", spec := "gaugeDips", unfollowed := true, recurses := true, apart := false, narrowed := true }
def GaugeDipsUptoSaid : Prop := gaugeDipsUptoRow.holds Try.pinned (OpenSpec.upto gaugeDipsSpec)

/-- 'criaderalaw04.GaugeDippedBack', WHERE WHAT IT READS IS OF BULK AT MOST 1048576: true; the input reads as it did. -/
def gaugeDippedBackUptoRow : OpenClaim := { program := "ytpidgcmdimjkoaa", sum := "9f632f140eeda606a4e3c686c1dca0f0b7fc484cbaf325c0589e6e03f2482816", func := "criadera/criaderalaw04.GaugeDippedBack", spec := "gaugeDippedBack", unfollowed := true, recurses := true, apart := false, narrowed := true }
def GaugeDippedBackUptoSaid : Prop := gaugeDippedBackUptoRow.holds Try.pinned (OpenSpec.upto gaugeDippedBackSpec)

/-- 'criaderalaw04.GaugeTables', WHERE WHAT IT READS IS OF BULK AT MOST 1048576: true; the input reads as it did. -/
def gaugeTablesUptoRow : OpenClaim := { program := "ytpidgcmdimjkoaa", sum := "9f632f140eeda606a4e3c686c1dca0f0b7fc484cbaf325c0589e6e03f2482816", func := "criadera/criaderalaw04.GaugeTables", spec := "gaugeTables", unfollowed := true, recurses := true, apart := false, narrowed := true }
def GaugeTablesUptoSaid : Prop := gaugeTablesUptoRow.holds Try.pinned (OpenSpec.upto gaugeTablesSpec)

end Rows
end Go.Proofs.Ytpidgcmdimjkoaa
