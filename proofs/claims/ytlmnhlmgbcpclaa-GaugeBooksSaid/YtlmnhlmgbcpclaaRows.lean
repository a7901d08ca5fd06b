/-
  No cell of these rows narrows 'for every input' (looked for: loops, veiled, ifaces, maps, wideKeys, modest, calm, conditions, laid).
  DERIVED. THE GIVEN ROWS OF THIS SEAT. 4 by the template 'for every input the law returns true; each argument reads behind the call as it read before'; 0 by the template 'total and deterministic' (their statements: YtlmnhlmgbcpclaaTotals.lean).
  GIVEN WITH THE SEED: the statements are not yours to turn. If you find one false, say at which input.
  Laid BY PROGRAM, IN A SANDBOX (cutbox-rows.mjs): the forced cells as the released guide's own fill.sh prints them over the translation 2978bcd33ba65da7… (all of the seat's roots in one cut). By AI agents, Wed Nov 11 2026. No macro, syntax, notation, axiom, sorry.
-/
import Derived.Test.YtlmnhlmgbcpclaaChecked
import GoSem.Claim
import GoSem.ClaimJoined
import GoSem.ClaimMapViews
import Derived.JoinedTies
import Derived.KernelRfl
namespace Go.Proofs.Ytlmnhlmgbcpclaa
/- THE CELL 'sum', in the pinned program and in every row, IS THE sha256 OF THE DUMP (.gsa) THAT YtlmnhlmgbcpclaaProg.lean LOADS. Nothing in Lean hashes anything: it is a label: what it is worth is what the hold of that sum in a sandbox is worth. -/
noncomputable def Try.pinned : Pinned := { name := "ytlmnhlmgbcpclaa", sum := "2978bcd33ba65da7afdf4fac4d35b7b2b4dfec512a85d7d04bd9d9b0f38eba2a", checked := Try.checked }
namespace Rows
def none {H : Type} : Left H := { results := [], args := [] }

/-- 'criaderalaw04.GaugeBooks': WHATEVER THE INPUT: true; the input reads as it did. -/
def gaugeBooksSpec : ChangeSpec := { name := "gaugeBooks", fn := fun _ => fun
  | [d1, d2, d3] => { results := [.lit (.bool true)], args := [d1, d2, d3] }
  | _ => none }
def gaugeBooksRow : OpenClaim := { program := "ytlmnhlmgbcpclaa", sum := "2978bcd33ba65da7afdf4fac4d35b7b2b4dfec512a85d7d04bd9d9b0f38eba2a", func := "criadera/criaderalaw04.GaugeBooks", spec := "gaugeBooks", unfollowed := true, recurses := true, apart := false }
def GaugeBooksSaid : Prop := gaugeBooksRow.holds Try.pinned (OpenSpec.ofChange gaugeBooksSpec)

/-- ITS FALSE NEIGHBOUR: 'it returns false'. Refute it at one input. -/
def gaugeBooksWrong : ChangeSpec := { name := "gaugeBooks", fn := fun _ => fun
  | [d1, d2, d3] => { results := [.lit (.bool false)], args := [d1, d2, d3] }
  | _ => none }
def GaugeBooksWrongFalsely : Prop := gaugeBooksRow.holds Try.pinned (OpenSpec.ofChange gaugeBooksWrong)

/-- 'criaderalaw04.GaugeExpects': WHATEVER THE INPUT: true; the input reads as it did. -/
def gaugeExpectsSpec : ChangeSpec := { name := "gaugeExpects", fn := fun _ => fun
  | [d1, d2] => { results := [.lit (.bool true)], args := [d1, d2] }
  | _ => none }
def gaugeExpectsRow : OpenClaim := { program := "ytlmnhlmgbcpclaa", sum := "2978bcd33ba65da7afdf4fac4d35b7b2b4dfec512a85d7d04bd9d9b0f38eba2a", func := "criadera/criaderalaw04.GaugeExpects", spec := "gaugeExpects", unfollowed := true, recurses := true, apart := false }
def GaugeExpectsSaid : Prop := gaugeExpectsRow.holds Try.pinned (OpenSpec.ofChange gaugeExpectsSpec)

/-- ITS FALSE NEIGHBOUR: 'it returns false'. Refute it at one input. -/
def gaugeExpectsWrong : ChangeSpec := { name := "gaugeExpects", fn := fun _ => fun
  | [d1, d2] => { results := [.lit (.bool false)], args := [d1, d2] }
  | _ => none }
def GaugeExpectsWrongFalsely : Prop := gaugeExpectsRow.holds Try.pinned (OpenSpec.ofChange gaugeExpectsWrong)

/-- 'criaderalaw04.GaugePairs': WHATEVER THE INPUT: true; the input reads as it did. -/
def gaugePairsSpec : ChangeSpec := { name := "gaugePairs", fn := fun _ => fun
  | [d1, d2] => { results := [.lit (.bool true)], args := [d1, d2] }
  | _ => none }
def gaugePairsRow : OpenClaim := { program := "ytlmnhlmgbcpclaa", sum := "2978bcd33ba65da7afdf4fac4d35b7b2b4dfec512a85d7d04bd9d9b0f38eba2a", func := "criadera/criaderalaw04.GaugePairs", spec := "gaugePairs", unfollowed := true, recurses := true, apart := false }
def GaugePairsSaid : Prop := gaugePairsRow.holds Try.pinned (OpenSpec.ofChange gaugePairsSpec)

/-- ITS FALSE NEIGHBOUR: 'it returns false'. Refute it at one input. -/
def gaugePairsWrong : ChangeSpec := { name := "gaugePairs", fn := fun _ => fun
  | [d1, d2] => { results := [.lit (.bool false)], args := [d1, d2] }
  | _ => none }
def GaugePairsWrongFalsely : Prop := gaugePairsRow.holds Try.pinned (OpenSpec.ofChange gaugePairsWrong)

/-- 'criaderalaw04.GaugeJustTwo': WHATEVER THE INPUT: true; the input reads as it did. -/
def gaugeJustTwoSpec : ChangeSpec := { name := "gaugeJustTwo", fn := fun _ => fun
  | [d1, d2] => { results := [.lit (.bool true)], args := [d1, d2] }
  | _ => none }
def gaugeJustTwoRow : OpenClaim := { program := "ytlmnhlmgbcpclaa", sum := "2978bcd33ba65da7afdf4fac4d35b7b2b4dfec512a85d7d04bd9d9b0f38eba2a", func := "criadera/criaderalaw04.GaugeJustTwo", spec := "gaugeJustTwo", unfollowed := true, recurses := true, apart := false }
def GaugeJustTwoSaid : Prop := gaugeJustTwoRow.holds Try.pinned (OpenSpec.ofChange gaugeJustTwoSpec)

/-- ITS FALSE NEIGHBOUR: 'it returns false'. Refute it at one input. -/
def gaugeJustTwoWrong : ChangeSpec := { name := "gaugeJustTwo", fn := fun _ => fun
  | [d1, d2] => { results := [.lit (.bool false)], args := [d1, d2] }
  | _ => none }
def GaugeJustTwoWrongFalsely : Prop := gaugeJustTwoRow.holds Try.pinned (OpenSpec.ofChange gaugeJustTwoWrong)

/- THE SECOND FORM. 'bulk': how many values and letters a reading holds, each counted each time it is reached (what is shared counts as often as it is met; a slice's spare places count too). A statement '..UptoSaid' is the law's where the arguments, and the package variables that the reading takes, are together of bulk at most 1048576: NARROWER than '..Said'. Prove '..Said' where nothing that the law and all that it calls make is longer than what came in: it says more and counts as full. Else prove '..UptoSaid'. A law counts once. -/
mutual
def uptoBulk {H : Type} : DataW H → Nat
  | .lit (.string bytes) => bytes.length + 1
  | .lit _ => 1
  | .nil => 1
  | .ptr d => uptoBulk d + 1
  | .slice elems spare => uptoBulkAll elems + uptoBulkAll spare + 1
  | .agg parts => uptoBulkAll parts + 1
  | .iface _ d => uptoBulk d + 1
  | .map entries => uptoBulkEntries entries + 1
  | .held _ => 1
def uptoBulkAll {H : Type} : List (DataW H) → Nat
  | [] => 0
  | d :: r => uptoBulk d + uptoBulkAll r
def uptoBulkEntries {H : Type} : List (Lit × DataW H) → Nat
  | [] => 0
  | x :: r => uptoBulkEntry x + uptoBulkEntries r
def uptoBulkEntry {H : Type} : Lit × DataW H → Nat
  | (.string bytes, d) => bytes.length + uptoBulk d + 1
  | (_, d) => uptoBulk d + 1
 end
def uptoSmall : (H : Type) → List (DataW H) → Bool := fun _ ds => decide (uptoBulkAll ds ≤ 1048576)
def OpenSpec.upto (s : _root_.Go.ChangeSpec) : _root_.Go.OpenSpec := { _root_.Go.OpenSpec.ofChange s with cond := some uptoSmall }

/-- 'criaderalaw04.GaugeBooks', WHERE WHAT IT READS IS OF BULK AT MOST 1048576: true; the input reads as it did. -/
def gaugeBooksUptoRow : OpenClaim := { program := "ytlmnhlmgbcpclaa", sum := "2978bcd33ba65da7afdf4fac4d35b7b2b4dfec512a85d7d04bd9d9b0f38eba2a", func := "criadera/criaderalaw04.GaugeBooks", spec := "gaugeBooks", unfollowed := true, recurses := true, apart := false, narrowed := true }
def GaugeBooksUptoSaid : Prop := gaugeBooksUptoRow.holds Try.pinned (OpenSpec.upto gaugeBooksSpec)

/-- 'criaderalaw04.GaugeExpects', WHERE WHAT IT READS IS OF BULK AT MOST 1048576: true; the input reads as it did. -/
def gaugeExpectsUptoRow : OpenClaim := { program := "ytlmnhlmgbcpclaa", sum := "2978bcd33ba65da7afdf4fac4d35b7b2b4dfec512a85d7d04bd9d9b0f38eba2a", func := "criadera/criaderalaw04.GaugeExpects", spec := "gaugeExpects", unfollowed := true, recurses := true, apart := false, narrowed := true }
def GaugeExpectsUptoSaid : Prop := gaugeExpectsUptoRow.holds Try.pinned (OpenSpec.upto gaugeExpectsSpec)

/-- 'criaderalaw04.GaugePairs', WHERE WHAT IT READS IS OF BULK AT MOST 1048576: true; the input reads as it did. -/
def gaugePairsUptoRow : OpenClaim := { program := "ytlmnhlmgbcpclaa", sum := "2978bcd33ba65da7afdf4fac4d35b7b2b4dfec512a85d7d04bd9d9b0f38eba2a", func := "criadera/criaderalaw04.GaugePairs", spec := "gaugePairs", unfollowed := true, recurses := true, apart := false, narrowed := true }
def GaugePairsUptoSaid : Prop := gaugePairsUptoRow.holds Try.pinned (OpenSpec.upto gaugePairsSpec)

/-- 'criaderalaw04.GaugeJustTwo', WHERE WHAT IT READS IS OF BULK AT MOST 1048576: true; the input reads as it did. -/
def gaugeJustTwoUptoRow : OpenClaim := { program := "ytlmnhlmgbcpclaa", sum := "2978bcd33ba65da7afdf4fac4d35b7b2b4dfec512a85d7d04bd9d9b0f38eba2a", func := "criadera/criaderalaw04.GaugeJustTwo", spec := "gaugeJustTwo", unfollowed := true, recurses := true, apart := false, narrowed := true }
def GaugeJustTwoUptoSaid : Prop := gaugeJustTwoUptoRow.holds Try.pinned (OpenSpec.upto gaugeJustTwoSpec)

end Rows
end Go.Proofs.Ytlmnhlmgbcpclaa
