/-
  No cell of these rows narrows 'for every input' (looked for: loops, veiled, ifaces, maps, wideKeys, modest, calm, conditions, laid).
  DERIVED. THE GIVEN ROWS OF THIS SEAT. 5 by the template 'for every input the law returns true; each argument reads behind the call as it read before'; 0 by the template 'total and deterministic' (their statements: YtbijhcoloajjaaaTotals.lean).
  GIVEN WITH THE SEED: the statements are not yours to turn. If you find one false, say at which input.
  Laid BY PROGRAM, IN A SANDBOX (cutbox-rows.mjs): the forced cells as the released guide's own fill.sh prints them over the translation 2788a6ce561cbe25… (all of the seat's roots in one cut). By AI agents, Wed Nov 11 2026. No macro, syntax, notation, axiom, sorry.
-/
import Derived.Test.YtbijhcoloajjaaaChecked
import GoSem.Claim
import GoSem.ClaimJoined
import GoSem.ClaimMapViews
import Derived.JoinedTies
import Derived.KernelRfl
namespace Go.Proofs.Ytbijhcoloajjaaa
/- THE CELL 'sum', in the pinned program and in every row, IS THE sha256 OF THE DUMP (.gsa) THAT YtbijhcoloajjaaaProg.lean LOADS. Nothing in Lean hashes anything: it is a label: what it is worth is what the hold of that sum in a sandbox is worth. -/
noncomputable def Try.pinned : Pinned := { name := "ytbijhcoloajjaaa", sum := "2788a6ce561cbe252a205ecd6085af2e038e0bffc042396445fe054326c287d5", checked := Try.checked }
namespace Rows
def none {H : Type} : Left H := { results := [], args := [] }

/-- 'criaderalaw03.FlorMixes': WHATEVER THE INPUT: true; the input reads as it did. -/
def florMixesSpec : ChangeSpec := { name := "florMixes", fn := fun _ => fun
  | [d] => { results := [.lit (.bool true)], args := [d] }
  | _ => none }
def florMixesRow : OpenClaim := { program := "ytbijhcoloajjaaa", sum := "2788a6ce561cbe252a205ecd6085af2e038e0bffc042396445fe054326c287d5", func := "criadera/criaderalaw03.FlorMixes", spec := "florMixes", unfollowed := true, recurses := true, apart := false }
def FlorMixesSaid : Prop := florMixesRow.holds Try.pinned (OpenSpec.ofChange florMixesSpec)

/-- ITS FALSE NEIGHBOUR: 'it returns false'. Refute it at one input. -/
def florMixesWrong : ChangeSpec := { name := "florMixes", fn := fun _ => fun
  | [d] => { results := [.lit (.bool false)], args := [d] }
  | _ => none }
def FlorMixesWrongFalsely : Prop := florMixesRow.holds Try.pinned (OpenSpec.ofChange florMixesWrong)

/-- 'criaderalaw03.FlorMixedTrue': WHATEVER THE INPUT: true; the input reads as it did. -/
def florMixedTrueSpec : ChangeSpec := { name := "florMixedTrue", fn := fun _ => fun
  | [d1, d2] => { results := [.lit (.bool true)], args := [d1, d2] }
  | _ => none }
def florMixedTrueRow : OpenClaim := { program := "ytbijhcoloajjaaa", sum := "2788a6ce561cbe252a205ecd6085af2e038e0bffc042396445fe054326c287d5", func := "criadera/criaderalaw03.FlorMixedTrue", spec := "florMixedTrue", unfollowed := true, recurses := true, apart := false }
def FlorMixedTrueSaid : Prop := florMixedTrueRow.holds Try.pinned (OpenSpec.ofChange florMixedTrueSpec)

/-- ITS FALSE NEIGHBOUR: 'it returns false'. Refute it at one input. -/
def florMixedTrueWrong : ChangeSpec := { name := "florMixedTrue", fn := fun _ => fun
  | [d1, d2] => { results := [.lit (.bool false)], args := [d1, d2] }
  | _ => none }
def FlorMixedTrueWrongFalsely : Prop := florMixedTrueRow.holds Try.pinned (OpenSpec.ofChange florMixedTrueWrong)

/-- 'criaderalaw03.FlorFortifies': WHATEVER THE INPUT: true; the input reads as it did. -/
def florFortifiesSpec : ChangeSpec := { name := "florFortifies", fn := fun _ => fun
  | [d1, d2, d3] => { results := [.lit (.bool true)], args := [d1, d2, d3] }
  | _ => none }
def florFortifiesRow : OpenClaim := { program := "ytbijhcoloajjaaa", sum := "2788a6ce561cbe252a205ecd6085af2e038e0bffc042396445fe054326c287d5", func := "criadera/criaderalaw03.FlorFortifies", spec := "florFortifies", unfollowed := true, recurses := true, apart := false }
def FlorFortifiesSaid : Prop := florFortifiesRow.holds Try.pinned (OpenSpec.ofChange florFortifiesSpec)

/-- ITS FALSE NEIGHBOUR: 'it returns false'. Refute it at one input. -/
def florFortifiesWrong : ChangeSpec := { name := "florFortifies", fn := fun _ => fun
  | [d1, d2, d3] => { results := [.lit (.bool false)], args := [d1, d2, d3] }
  | _ => none }
def FlorFortifiesWrongFalsely : Prop := florFortifiesRow.holds Try.pinned (OpenSpec.ofChange florFortifiesWrong)

/-- 'criaderalaw03.FlorEnough': WHATEVER THE INPUT: true; the input reads as it did. -/
def florEnoughSpec : ChangeSpec := { name := "florEnough", fn := fun _ => fun
  | [d1, d2, d3] => { results := [.lit (.bool true)], args := [d1, d2, d3] }
  | _ => none }
def florEnoughRow : OpenClaim := { program := "ytbijhcoloajjaaa", sum := "2788a6ce561cbe252a205ecd6085af2e038e0bffc042396445fe054326c287d5", func := "criadera/criaderalaw03.FlorEnough", spec := "florEnough", unfollowed := true, recurses := true, apart := false }
def FlorEnoughSaid : Prop := florEnoughRow.holds Try.pinned (OpenSpec.ofChange florEnoughSpec)

/-- ITS FALSE NEIGHBOUR: 'it returns false'. Refute it at one input. -/
def florEnoughWrong : ChangeSpec := { name := "florEnough", fn := fun _ => fun
  | [d1, d2, d3] => { results := [.lit (.bool false)], args := [d1, d2, d3] }
  | _ => none }
def FlorEnoughWrongFalsely : Prop := florEnoughRow.holds Try.pinned (OpenSpec.ofChange florEnoughWrong)

/-- 'criaderatop.TopFlorFortified': WHATEVER THE INPUT: true; the input reads as it did. -/
def topFlorFortifiedSpec : ChangeSpec := { name := "topFlorFortified", fn := fun _ => fun
  | [d1, d2, d3] => { results := [.lit (.bool true)], args := [d1, d2, d3] }
  | _ => none }
def topFlorFortifiedRow : OpenClaim := { program := "ytbijhcoloajjaaa", sum := "2788a6ce561cbe252a205ecd6085af2e038e0bffc042396445fe054326c287d5", func := "criadera/criaderatop.TopFlorFortified", spec := "topFlorFortified", unfollowed := true, recurses := true, apart := false }
def TopFlorFortifiedSaid : Prop := topFlorFortifiedRow.holds Try.pinned (OpenSpec.ofChange topFlorFortifiedSpec)

/-- ITS FALSE NEIGHBOUR: 'it returns false'. Refute it at one input. -/
def topFlorFortifiedWrong : ChangeSpec := { name := "topFlorFortified", fn := fun _ => fun
  | [d1, d2, d3] => { results := [.lit (.bool false)], args := [d1, d2, d3] }
  | _ => none }
def TopFlorFortifiedWrongFalsely : Prop := topFlorFortifiedRow.holds Try.pinned (OpenSpec.ofChange topFlorFortifiedWrong)

/- THE SECOND FORM. 'bulk': how many values and letters a reading holds, each counted each time it is reached (what is shared counts as often as it is met; a slice's spare places count too). A statement '..UptoSaid' is the law's where the arguments, and the package variables that the reading takes, are together of bulk at most 1048576: NARROWER than '..Said'. Prove '..Said' where nothing that the law and all that it calls make is longer than what came in: it says more and counts as full. Else prove '..UptoSaid'. A law counts once. -/
mutual
def uptoBulk {H : Type} : DataW H → Nat
  | .lit (.string bytes) => bytes.length + 1
  | .lit _ => 1
  | .nil => 1
  | .ptr d => uptoBulk d + 1
  | .slice elems spare => uptoBulkAll elems + uptoBulkAll spare + 1
  | .agg parts => uptoBulkAll parts + 1
  | .iface _ d => uptoBulk d + 1
  | .map entries => uptoBulkEntries entries + 1
  | .held _ => 1
def uptoBulkAll {H : Type} : List (DataW H) → Nat
  | [] => 0
  | d :: r => uptoBulk d + uptoBulkAll r
def uptoBulkEntries {H : Type} : List (Lit × DataW H) → Nat
  | [] => 0
  | x :: r => uptoBulkEntry x + uptoBulkEntries r
def uptoBulkEntry {H : Type} : Lit × DataW H → Nat
  | (.string bytes, d) => bytes.length + uptoBulk d + 1
  | (_, d) => uptoBulk d + 1
 end
def uptoSmall : (H : Type) → List (DataW H) → Bool := fun _ ds => decide (uptoBulkAll ds ≤ 1048576)
def OpenSpec.upto (s : _root_.Go.ChangeSpec) : _root_.Go.OpenSpec := { _root_.Go.OpenSpec.ofChange s with cond := some uptoSmall }

/-- 'criaderalaw03.FlorMixes', WHERE WHAT IT READS IS OF BULK AT MOST 1048576: true; the input reads as it did. -/
def florMixesUptoRow : OpenClaim := { program := "ytbijhcoloajjaaa", sum := "2788a6ce561cbe252a205ecd6085af2e038e0bffc042396445fe054326c287d5", func := "criadera/criaderalaw03.FlorMixes", spec := "florMixes", unfollowed := true, recurses := true, apart := false, narrowed := true }
def FlorMixesUptoSaid : Prop := florMixesUptoRow.holds Try.pinned (OpenSpec.upto florMixesSpec)

/-- 'criaderalaw03.FlorMixedTrue', WHERE WHAT IT READS IS OF BULK AT MOST 1048576: true; the input reads as it did. -/
def florMixedTrueUptoRow : OpenClaim := { program := "ytbijhcoloajjaaa", sum := "2788a6ce561cbe252a205ecd6085af2e038e0bffc042396445fe054326c287d5", func := "criadera/criaderalaw03.FlorMixedTrue", spec := "florMixedTrue", unfollowed := true, recurses := true, apart := false, narrowed := true }
def FlorMixedTrueUptoSaid : Prop := florMixedTrueUptoRow.holds Try.pinned (OpenSpec.upto florMixedTrueSpec)

/-- 'criaderalaw03.FlorFortifies', WHERE WHAT IT READS IS OF BULK AT MOST 1048576: true; the input reads as it did. -/
def florFortifiesUptoRow : OpenClaim := { program := "ytbijhcoloajjaaa", sum := "2788a6ce561cbe252a205ecd6085af2e038e0bffc042396445fe054326c287d5", func := "criadera/criaderalaw03.FlorFortifies", spec := "florFortifies", unfollowed := true, recurses := true, apart := false, narrowed := true }
def FlorFortifiesUptoSaid : Prop := florFortifiesUptoRow.holds Try.pinned (OpenSpec.upto florFortifiesSpec)

/-- 'criaderalaw03.FlorEnough', WHERE WHAT IT READS IS OF BULK AT MOST 1048576: true; the input reads as it did. -/
def florEnoughUptoRow : OpenClaim := { program := "ytbijhcoloajjaaa", sum := "2788a6ce561cbe252a205ecd6085af2e038e0bffc042396445fe054326c287d5", func := "criadera/criaderalaw03.FlorEnough", spec := "florEnough", unfollowed := true, recurses := true, apart := false, narrowed := true }
def FlorEnoughUptoSaid : Prop := florEnoughUptoRow.holds Try.pinned (OpenSpec.upto florEnoughSpec)

/-- 'criaderatop.TopFlorFortified', WHERE WHAT IT READS IS OF BULK AT MOST 1048576: true; the input reads as it did. -/
def topFlorFortifiedUptoRow : OpenClaim := { program := "ytbijhcoloajjaaa", sum := "2788a6ce561cbe252a205ecd6085af2e038e0bffc042396445fe054326c287d5", func := "criadera/criaderatop.TopFlorFortified", spec := "topFlorFortified", unfollowed := true, recurses := true, apart := false, narrowed := true }
def TopFlorFortifiedUptoSaid : Prop := topFlorFortifiedUptoRow.holds Try.pinned (OpenSpec.upto topFlorFortifiedSpec)

end Rows
end Go.Proofs.Ytbijhcoloajjaaa
