/-
  No cell of these rows narrows 'for every input' (looked for: loops, veiled, ifaces, maps, wideKeys, modest, calm, conditions, laid).
  DERIVED. THE GIVEN ROWS OF THIS SEAT. 17 by the template 'for every input the law returns true; each argument reads behind the call as it read before'; 0 by the template 'total and deterministic' (their statements: YtcpkoapkmjcigaaTotals.lean).
  GIVEN WITH THE SEED: the statements are not yours to turn. If you find one false, say at which input.
  Laid BY PROGRAM, IN A SANDBOX (cutbox-rows.mjs): the forced cells as the released guide's own fill.sh prints them over the translation fe6a422bef635873… (all of the seat's roots in one cut). By AI agents, Wed Nov 11 2026. No macro, syntax, notation, axiom, sorry.
-/
import Derived.Test.YtcpkoapkmjcigaaChecked
import GoSem.Claim
import GoSem.ClaimJoined
import GoSem.ClaimMapViews
import Derived.JoinedTies
import Derived.KernelRfl
namespace Go.Proofs.Ytcpkoapkmjcigaa
/- THE CELL 'sum', in the pinned program and in every row, IS THE sha256 OF THE DUMP (.gsa) THAT YtcpkoapkmjcigaaProg.lean LOADS. Nothing in Lean hashes anything: it is a label: what it is worth is what the hold of that sum in a sandbox is worth. -/
noncomputable def Try.pinned : Pinned := { name := "ytcpkoapkmjcigaa", sum := "fe6a422bef635873a05c8db4e59cb82727f2ec56bb60951e8e6717c1389f26db", checked := Try.checked }
namespace Rows
def none {H : Type} : Left H := { results := [], args := [] }

/-- 'criaderalaw03.FlorChecks': WHATEVER THE INPUT: true; the input reads as it did. -/
def florChecksSpec : ChangeSpec := { name := "florChecks", fn := fun _ => fun
  | [d1, d2, d3] => { results := [.lit (.bool true)], args := [d1, d2, d3] }
  | _ => none }
def florChecksRow : OpenClaim := { program := "ytcpkoapkmjcigaa", sum := "fe6a422bef635873a05c8db4e59cb82727f2ec56bb60951e8e6717c1389f26db", func := "criadera/criaderalaw03.FlorChecks", spec := "florChecks", unfollowed := true, recurses := true, apart := false }
def FlorChecksSaid : Prop := florChecksRow.holds Try.pinned (OpenSpec.ofChange florChecksSpec)

/-- ITS FALSE NEIGHBOUR: 'it returns false'. Refute it at one input. -/
def florChecksWrong : ChangeSpec := { name := "florChecks", fn := fun _ => fun
  | [d1, d2, d3] => { results := [.lit (.bool false)], args := [d1, d2, d3] }
  | _ => none }
def FlorChecksWrongFalsely : Prop := florChecksRow.holds Try.pinned (OpenSpec.ofChange florChecksWrong)

/-- 'criaderalaw03.FlorDays': WHATEVER THE INPUT: true; the input reads as it did. -/
def florDaysSpec : ChangeSpec := { name := "florDays", fn := fun _ => fun
  | [d1, d2, d3] => { results := [.lit (.bool true)], args := [d1, d2, d3] }
  | _ => none }
def florDaysRow : OpenClaim := { program := "ytcpkoapkmjcigaa", sum := "fe6a422bef635873a05c8db4e59cb82727f2ec56bb60951e8e6717c1389f26db", func := "criadera/criaderalaw03.FlorDays", spec := "florDays", unfollowed := true, recurses := true, apart := false }
def FlorDaysSaid : Prop := florDaysRow.holds Try.pinned (OpenSpec.ofChange florDaysSpec)

/-- ITS FALSE NEIGHBOUR: 'it returns false'. Refute it at one input. -/
def florDaysWrong : ChangeSpec := { name := "florDays", fn := fun _ => fun
  | [d1, d2, d3] => { results := [.lit (.bool false)], args := [d1, d2, d3] }
  | _ => none }
def FlorDaysWrongFalsely : Prop := florDaysRow.holds Try.pinned (OpenSpec.ofChange florDaysWrong)

/-- 'criaderalaw03.FlorTrue': WHATEVER THE INPUT: true; the input reads as it did. -/
def florTrueSpec : ChangeSpec := { name := "florTrue", fn := fun _ => fun
  | [d1, d2, d3] => { results := [.lit (.bool true)], args := [d1, d2, d3] }
  | _ => none }
def florTrueRow : OpenClaim := { program := "ytcpkoapkmjcigaa", sum := "fe6a422bef635873a05c8db4e59cb82727f2ec56bb60951e8e6717c1389f26db", func := "criadera/criaderalaw03.FlorTrue", spec := "florTrue", unfollowed := true, recurses := true, apart := false }
def FlorTrueSaid : Prop := florTrueRow.holds Try.pinned (OpenSpec.ofChange florTrueSpec)

/-- ITS FALSE NEIGHBOUR: 'it returns false'. Refute it at one input. -/
def florTrueWrong : ChangeSpec := { name := "florTrue", fn := fun _ => fun
  | [d1, d2, d3] => { results := [.lit (.bool false)], args := [d1, d2, d3] }
  | _ => none }
def FlorTrueWrongFalsely : Prop := florTrueRow.holds Try.pinned (OpenSpec.ofChange florTrueWrong)

/-- 'criaderalaw03.FlorDraws': WHATEVER THE INPUT: true; the input reads as it did. -/
def florDrawsSpec : ChangeSpec := { name := "florDraws", fn := fun _ => fun
  | [d1, d2] => { results := [.lit (.bool true)], args := [d1, d2] }
  | _ => none }
def florDrawsRow : OpenClaim := { program := "ytcpkoapkmjcigaa", sum := "fe6a422bef635873a05c8db4e59cb82727f2ec56bb60951e8e6717c1389f26db", func := "criadera/criaderalaw03.FlorDraws", spec := "florDraws", unfollowed := true, recurses := true, apart := false }
def FlorDrawsSaid : Prop := florDrawsRow.holds Try.pinned (OpenSpec.ofChange florDrawsSpec)

/-- ITS FALSE NEIGHBOUR: 'it returns false'. Refute it at one input. -/
def florDrawsWrong : ChangeSpec := { name := "florDraws", fn := fun _ => fun
  | [d1, d2] => { results := [.lit (.bool false)], args := [d1, d2] }
  | _ => none }
def FlorDrawsWrongFalsely : Prop := florDrawsRow.holds Try.pinned (OpenSpec.ofChange florDrawsWrong)

/-- 'criaderalaw03.FlorKeeps': WHATEVER THE INPUT: true; the input reads as it did. -/
def florKeepsSpec : ChangeSpec := { name := "florKeeps", fn := fun _ => fun
  | [d1, d2, d3] => { results := [.lit (.bool true)], args := [d1, d2, d3] }
  | _ => none }
def florKeepsRow : OpenClaim := { program := "ytcpkoapkmjcigaa", sum := "fe6a422bef635873a05c8db4e59cb82727f2ec56bb60951e8e6717c1389f26db", func := "criadera/criaderalaw03.FlorKeeps", spec := "florKeeps", unfollowed := true, recurses := true, apart := false }
def FlorKeepsSaid : Prop := florKeepsRow.holds Try.pinned (OpenSpec.ofChange florKeepsSpec)

/-- ITS FALSE NEIGHBOUR: 'it returns false'. Refute it at one input. -/
def florKeepsWrong : ChangeSpec := { name := "florKeeps", fn := fun _ => fun
  | [d1, d2, d3] => { results := [.lit (.bool false)], args := [d1, d2, d3] }
  | _ => none }
def FlorKeepsWrongFalsely : Prop := florKeepsRow.holds Try.pinned (OpenSpec.ofChange florKeepsWrong)

/-- 'criaderalaw03.FlorExplains': WHATEVER THE INPUT: true; the input reads as it did. -/
def florExplainsSpec : ChangeSpec := { name := "florExplains", fn := fun _ => fun
  | [d1, d2, d3] => { results := [.lit (.bool true)], args := [d1, d2, d3] }
  | _ => none }
def florExplainsRow : OpenClaim := { program := "ytcpkoapkmjcigaa", sum := "fe6a422bef635873a05c8db4e59cb82727f2ec56bb60951e8e6717c1389f26db", func := "criadera/criaderalaw03.FlorExplains", spec := "florExplains", unfollowed := true, recurses := true, apart := false }
def FlorExplainsSaid : Prop := florExplainsRow.holds Try.pinned (OpenSpec.ofChange florExplainsSpec)

/-- ITS FALSE NEIGHBOUR: 'it returns false'. Refute it at one input. -/
def florExplainsWrong : ChangeSpec := { name := "florExplains", fn := fun _ => fun
  | [d1, d2, d3] => { results := [.lit (.bool false)], args := [d1, d2, d3] }
  | _ => none }
def FlorExplainsWrongFalsely : Prop := florExplainsRow.holds Try.pinned (OpenSpec.ofChange florExplainsWrong)

/-- 'criaderalaw03.FlorRates': WHATEVER THE INPUT: true; the input reads as it did. -/
def florRatesSpec : ChangeSpec := { name := "florRates", fn := fun _ => fun
  | [d1, d2, d3] => { results := [.lit (.bool true)], args := [d1, d2, d3] }
  | _ => none }
def florRatesRow : OpenClaim := { program := "ytcpkoapkmjcigaa", sum := "fe6a422bef635873a05c8db4e59cb82727f2ec56bb60951e8e6717c1389f26db", func := "criadera/criaderalaw03.FlorRates", spec := "florRates", unfollowed := true, recurses := true, apart := false }
def FlorRatesSaid : Prop := florRatesRow.holds Try.pinned (OpenSpec.ofChange florRatesSpec)

/-- ITS FALSE NEIGHBOUR: 'it returns false'. Refute it at one input. -/
def florRatesWrong : ChangeSpec := { name := "florRates", fn := fun _ => fun
  | [d1, d2, d3] => { results := [.lit (.bool false)], args := [d1, d2, d3] }
  | _ => none }
def FlorRatesWrongFalsely : Prop := florRatesRow.holds Try.pinned (OpenSpec.ofChange florRatesWrong)

/-- 'criaderalaw03.FlorRatesBack': WHATEVER THE INPUT: true; the input reads as it did. -/
def florRatesBackSpec : ChangeSpec := { name := "florRatesBack", fn := fun _ => fun
  | [d1, d2, d3] => { results := [.lit (.bool true)], args := [d1, d2, d3] }
  | _ => none }
def florRatesBackRow : OpenClaim := { program := "ytcpkoapkmjcigaa", sum := "fe6a422bef635873a05c8db4e59cb82727f2ec56bb60951e8e6717c1389f26db", func := "criadera/criaderalaw03.FlorRatesBack", spec := "florRatesBack", unfollowed := true, recurses := true, apart := false }
def FlorRatesBackSaid : Prop := florRatesBackRow.holds Try.pinned (OpenSpec.ofChange florRatesBackSpec)

/-- ITS FALSE NEIGHBOUR: 'it returns false'. Refute it at one input. -/
def florRatesBackWrong : ChangeSpec := { name := "florRatesBack", fn := fun _ => fun
  | [d1, d2, d3] => { results := [.lit (.bool false)], args := [d1, d2, d3] }
  | _ => none }
def FlorRatesBackWrongFalsely : Prop := florRatesBackRow.holds Try.pinned (OpenSpec.ofChange florRatesBackWrong)

/-- 'criaderalaw03.FlorSpells': WHATEVER THE INPUT: true; the input reads as it did. -/
def florSpellsSpec : ChangeSpec := { name := "florSpells", fn := fun _ => fun
  | [d1, d2] => { results := [.lit (.bool true)], args := [d1, d2] }
  | _ => none }
def florSpellsRow : OpenClaim := { program := "ytcpkoapkmjcigaa", sum := "fe6a422bef635873a05c8db4e59cb82727f2ec56bb60951e8e6717c1389f26db", func := "criadera/criaderalaw03.FlorSpells", spec := "florSpells", unfollowed := true, recurses := true, apart := false }
def FlorSpellsSaid : Prop := florSpellsRow.holds Try.pinned (OpenSpec.ofChange florSpellsSpec)

/-- ITS FALSE NEIGHBOUR: 'it returns false'. Refute it at one input. -/
def florSpellsWrong : ChangeSpec := { name := "florSpells", fn := fun _ => fun
  | [d1, d2] => { results := [.lit (.bool false)], args := [d1, d2] }
  | _ => none }
def FlorSpellsWrongFalsely : Prop := florSpellsRow.holds Try.pinned (OpenSpec.ofChange florSpellsWrong)

/-- 'criaderalaw03.FlorFollows': WHATEVER THE INPUT: true; the input reads as it did. -/
def florFollowsSpec : ChangeSpec := { name := "florFollows", fn := fun _ => fun
  | [d1, d2] => { results := [.lit (.bool true)], args := [d1, d2] }
  | _ => none }
def florFollowsRow : OpenClaim := { program := "ytcpkoapkmjcigaa", sum := "fe6a422bef635873a05c8db4e59cb82727f2ec56bb60951e8e6717c1389f26db", func := "criadera/criaderalaw03.FlorFollows", spec := "florFollows", unfollowed := true, recurses := true, apart := false }
def FlorFollowsSaid : Prop := florFollowsRow.holds Try.pinned (OpenSpec.ofChange florFollowsSpec)

/-- ITS FALSE NEIGHBOUR: 'it returns false'. Refute it at one input. -/
def florFollowsWrong : ChangeSpec := { name := "florFollows", fn := fun _ => fun
  | [d1, d2] => { results := [.lit (.bool false)], args := [d1, d2] }
  | _ => none }
def FlorFollowsWrongFalsely : Prop := florFollowsRow.holds Try.pinned (OpenSpec.ofChange florFollowsWrong)

/-- 'criaderalaw03.FlorMixes': WHATEVER THE INPUT: true; the input reads as it did. -/
def florMixesSpec : ChangeSpec := { name := "florMixes", fn := fun _ => fun
  | [d] => { results := [.lit (.bool true)], args := [d] }
  | _ => none }
def florMixesRow : OpenClaim := { program := "ytcpkoapkmjcigaa", sum := "fe6a422bef635873a05c8db4e59cb82727f2ec56bb60951e8e6717c1389f26db", func := "criadera/criaderalaw03.FlorMixes", spec := "florMixes", unfollowed := true, recurses := true, apart := false }
def FlorMixesSaid : Prop := florMixesRow.holds Try.pinned (OpenSpec.ofChange florMixesSpec)

/-- ITS FALSE NEIGHBOUR: 'it returns false'. Refute it at one input. -/
def florMixesWrong : ChangeSpec := { name := "florMixes", fn := fun _ => fun
  | [d] => { results := [.lit (.bool false)], args := [d] }
  | _ => none }
def FlorMixesWrongFalsely : Prop := florMixesRow.holds Try.pinned (OpenSpec.ofChange florMixesWrong)

/-- 'criaderalaw03.FlorMixedTrue': WHATEVER THE INPUT: true; the input reads as it did. -/
def florMixedTrueSpec : ChangeSpec := { name := "florMixedTrue", fn := fun _ => fun
  | [d1, d2] => { results := [.lit (.bool true)], args := [d1, d2] }
  | _ => none }
def florMixedTrueRow : OpenClaim := { program := "ytcpkoapkmjcigaa", sum := "fe6a422bef635873a05c8db4e59cb82727f2ec56bb60951e8e6717c1389f26db", func := "criadera/criaderalaw03.FlorMixedTrue", spec := "florMixedTrue", unfollowed := true, recurses := true, apart := false }
def FlorMixedTrueSaid : Prop := florMixedTrueRow.holds Try.pinned (OpenSpec.ofChange florMixedTrueSpec)

/-- ITS FALSE NEIGHBOUR: 'it returns false'. Refute it at one input. -/
def florMixedTrueWrong : ChangeSpec := { name := "florMixedTrue", fn := fun _ => fun
  | [d1, d2] => { results := [.lit (.bool false)], args := [d1, d2] }
  | _ => none }
def FlorMixedTrueWrongFalsely : Prop := florMixedTrueRow.holds Try.pinned (OpenSpec.ofChange florMixedTrueWrong)

/-- 'criaderalaw03.FlorFortifies': WHATEVER THE INPUT: true; the input reads as it did. -/
def florFortifiesSpec : ChangeSpec := { name := "florFortifies", fn := fun _ => fun
  | [d1, d2, d3] => { results := [.lit (.bool true)], args := [d1, d2, d3] }
  | _ => none }
def florFortifiesRow : OpenClaim := { program := "ytcpkoapkmjcigaa", sum := "fe6a422bef635873a05c8db4e59cb82727f2ec56bb60951e8e6717c1389f26db", func := "criadera/criaderalaw03.FlorFortifies", spec := "florFortifies", unfollowed := true, recurses := true, apart := false }
def FlorFortifiesSaid : Prop := florFortifiesRow.holds Try.pinned (OpenSpec.ofChange florFortifiesSpec)

/-- ITS FALSE NEIGHBOUR: 'it returns false'. Refute it at one input. -/
def florFortifiesWrong : ChangeSpec := { name := "florFortifies", fn := fun _ => fun
  | [d1, d2, d3] => { results := [.lit (.bool false)], args := [d1, d2, d3] }
  | _ => none }
def FlorFortifiesWrongFalsely : Prop := florFortifiesRow.holds Try.pinned (OpenSpec.ofChange florFortifiesWrong)

/-- 'criaderalaw03.FlorEnough': WHATEVER THE INPUT: true; the input reads as it did. -/
def florEnoughSpec : ChangeSpec := { name := "florEnough", fn := fun _ => fun
  | [d1, d2, d3] => { results := [.lit (.bool true)], args := [d1, d2, d3] }
  | _ => none }
def florEnoughRow : OpenClaim := { program := "ytcpkoapkmjcigaa", sum := "fe6a422bef635873a05c8db4e59cb82727f2ec56bb60951e8e6717c1389f26db", func := "criadera/criaderalaw03.FlorEnough", spec := "florEnough", unfollowed := true, recurses := true, apart := false }
def FlorEnoughSaid : Prop := florEnoughRow.holds Try.pinned (OpenSpec.ofChange florEnoughSpec)

/-- ITS FALSE NEIGHBOUR: 'it returns false'. Refute it at one input. -/
def florEnoughWrong : ChangeSpec := { name := "florEnough", fn := fun _ => fun
  | [d1, d2, d3] => { results := [.lit (.bool false)], args := [d1, d2, d3] }
  | _ => none }
def FlorEnoughWrongFalsely : Prop := florEnoughRow.holds Try.pinned (OpenSpec.ofChange florEnoughWrong)

/-- 'criaderatop.TopFlorSpells': WHATEVER THE INPUT: true; the input reads as it did. -/
def topFlorSpellsSpec : ChangeSpec := { name := "topFlorSpells", fn := fun _ => fun
  | [d1, d2, d3] => { results := [.lit (.bool true)], args := [d1, d2, d3] }
  | _ => none }
def topFlorSpellsRow : OpenClaim := { program := "ytcpkoapkmjcigaa", sum := "fe6a422bef635873a05c8db4e59cb82727f2ec56bb60951e8e6717c1389f26db", func := "criadera/criaderatop.TopFlorSpells", spec := "topFlorSpells", apart := false }
def TopFlorSpellsSaid : Prop := topFlorSpellsRow.holds Try.pinned (OpenSpec.ofChange topFlorSpellsSpec)

/-- ITS FALSE NEIGHBOUR: 'it returns false'. Refute it at one input. -/
def topFlorSpellsWrong : ChangeSpec := { name := "topFlorSpells", fn := fun _ => fun
  | [d1, d2, d3] => { results := [.lit (.bool false)], args := [d1, d2, d3] }
  | _ => none }
def TopFlorSpellsWrongFalsely : Prop := topFlorSpellsRow.holds Try.pinned (OpenSpec.ofChange topFlorSpellsWrong)

/-- 'criaderatop.TopFlorFortified': WHATEVER THE INPUT: true; the input reads as it did. -/
def topFlorFortifiedSpec : ChangeSpec := { name := "topFlorFortified", fn := fun _ => fun
  | [d1, d2, d3] => { results := [.lit (.bool true)], args := [d1, d2, d3] }
  | _ => none }
def topFlorFortifiedRow : OpenClaim := { program := "ytcpkoapkmjcigaa", sum := "fe6a422bef635873a05c8db4e59cb82727f2ec56bb60951e8e6717c1389f26db", func := "criadera/criaderatop.TopFlorFortified", spec := "topFlorFortified", unfollowed := true, recurses := true, apart := false }
def TopFlorFortifiedSaid : Prop := topFlorFortifiedRow.holds Try.pinned (OpenSpec.ofChange topFlorFortifiedSpec)

/-- ITS FALSE NEIGHBOUR: 'it returns false'. Refute it at one input. -/
def topFlorFortifiedWrong : ChangeSpec := { name := "topFlorFortified", fn := fun _ => fun
  | [d1, d2, d3] => { results := [.lit (.bool false)], args := [d1, d2, d3] }
  | _ => none }
def TopFlorFortifiedWrongFalsely : Prop := topFlorFortifiedRow.holds Try.pinned (OpenSpec.ofChange topFlorFortifiedWrong)

/-- 'criaderatop.TopFlorMeasured': WHATEVER THE INPUT: true; the input reads as it did. -/
def topFlorMeasuredSpec : ChangeSpec := { name := "topFlorMeasured", fn := fun _ => fun
  | [d1, d2, d3] => { results := [.lit (.bool true)], args := [d1, d2, d3] }
  | _ => none }
def topFlorMeasuredRow : OpenClaim := { program := "ytcpkoapkmjcigaa", sum := "fe6a422bef635873a05c8db4e59cb82727f2ec56bb60951e8e6717c1389f26db", func := "criadera/criaderatop.TopFlorMeasured", spec := "topFlorMeasured", unfollowed := true, recurses := true, apart := false }
def TopFlorMeasuredSaid : Prop := topFlorMeasuredRow.holds Try.pinned (OpenSpec.ofChange topFlorMeasuredSpec)

/-- ITS FALSE NEIGHBOUR: 'it returns false'. Refute it at one input. -/
def topFlorMeasuredWrong : ChangeSpec := { name := "topFlorMeasured", fn := fun _ => fun
  | [d1, d2, d3] => { results := [.lit (.bool false)], args := [d1, d2, d3] }
  | _ => none }
def TopFlorMeasuredWrongFalsely : Prop := topFlorMeasuredRow.holds Try.pinned (OpenSpec.ofChange topFlorMeasuredWrong)

/- THE SECOND FORM. 'bulk': how many values and letters a reading holds, each counted each time it is reached (what is shared counts as often as it is met; a slice's spare places count too). A statement '..UptoSaid' is the law's where the arguments, and the package variables that the reading takes, are together of bulk at most 1048576: NARROWER than '..Said'. Prove '..Said' where nothing that the law and all that it calls make is longer than what came in: it says more and counts as full. Else prove '..UptoSaid'. A law counts once. -/
mutual
def uptoBulk {H : Type} : DataW H → Nat
  | .lit (.string bytes) => bytes.length + 1
  | .lit _ => 1
  | .nil => 1
  | .ptr d => uptoBulk d + 1
  | .slice elems spare => uptoBulkAll elems + uptoBulkAll spare + 1
  | .agg parts => uptoBulkAll parts + 1
  | .iface _ d => uptoBulk d + 1
  | .map entries => uptoBulkEntries entries + 1
  | .held _ => 1
def uptoBulkAll {H : Type} : List (DataW H) → Nat
  | [] => 0
  | d :: r => uptoBulk d + uptoBulkAll r
def uptoBulkEntries {H : Type} : List (Lit × DataW H) → Nat
  | [] => 0
  | x :: r => uptoBulkEntry x + uptoBulkEntries r
def uptoBulkEntry {H : Type} : Lit × DataW H → Nat
  | (.string bytes, d) => bytes.length + uptoBulk d + 1
  | (_, d) => uptoBulk d + 1
 end
def uptoSmall : (H : Type) → List (DataW H) → Bool := fun _ ds => decide (uptoBulkAll ds ≤ 1048576)
def OpenSpec.upto (s : _root_.Go.ChangeSpec) : _root_.Go.OpenSpec := { _root_.Go.OpenSpec.ofChange s with cond := some uptoSmall }

/-- 'criaderalaw03.FlorChecks', WHERE WHAT IT READS IS OF BULK AT MOST 1048576: true; the input reads as it did. -/
def florChecksUptoRow : OpenClaim := { program := "ytcpkoapkmjcigaa", sum := "fe6a422bef635873a05c8db4e59cb82727f2ec56bb60951e8e6717c1389f26db", func := "criadera/criaderalaw03.FlorChecks", spec := "florChecks", unfollowed := true, recurses := true, apart := false, narrowed := true }
def FlorChecksUptoSaid : Prop := florChecksUptoRow.holds Try.pinned (OpenSpec.upto florChecksSpec)

/-- 'criaderalaw03.FlorDays', WHERE WHAT IT READS IS OF BULK AT MOST 1048576: true; the input reads as it did. -/
def florDaysUptoRow : OpenClaim := { program := "ytcpkoapkmjcigaa", sum := "fe6a422bef635873a05c8db4e59cb82727f2ec56bb60951e8e6717c1389f26db", func := "criadera/criaderalaw03.FlorDays", spec := "florDays", unfollowed := true, recurses := true, apart := false, narrowed := true }
def FlorDaysUptoSaid : Prop := florDaysUptoRow.holds Try.pinned (OpenSpec.upto florDaysSpec)

/-- 'criaderalaw03.FlorTrue', WHERE WHAT IT READS IS OF BULK AT MOST 1048576: true; the input reads as it did. -/
def florTrueUptoRow : OpenClaim := { program := "ytcpkoapkmjcigaa", sum := "fe6a422bef635873a05c8db4e59cb82727f2ec56bb60951e8e6717c1389f26db", func := "criadera/criaderalaw03.FlorTrue", spec := "florTrue", unfollowed := true, recurses := true, apart := false, narrowed := true }
def FlorTrueUptoSaid : Prop := florTrueUptoRow.holds Try.pinned (OpenSpec.upto florTrueSpec)

/-- 'criaderalaw03.FlorDraws', WHERE WHAT IT READS IS OF BULK AT MOST 1048576: true; the input reads as it did. -/
def florDrawsUptoRow : OpenClaim := { program := "ytcpkoapkmjcigaa", sum := "fe6a422bef635873a05c8db4e59cb82727f2ec56bb60951e8e6717c1389f26db", func := "criadera/criaderalaw03.FlorDraws", spec := "florDraws", unfollowed := true, recurses := true, apart := false, narrowed := true }
def FlorDrawsUptoSaid : Prop := florDrawsUptoRow.holds Try.pinned (OpenSpec.upto florDrawsSpec)

/-- 'criaderalaw03.FlorKeeps', WHERE WHAT IT READS IS OF BULK AT MOST 1048576: true; the input reads as it did. -/
def florKeepsUptoRow : OpenClaim := { program := "ytcpkoapkmjcigaa", sum := "fe6a422bef635873a05c8db4e59cb82727f2ec56bb60951e8e6717c1389f26db", func := "criadera/criaderalaw03.FlorKeeps", spec := "florKeeps", unfollowed := true, recurses := true, apart := false, narrowed := true }
def FlorKeepsUptoSaid : Prop := florKeepsUptoRow.holds Try.pinned (OpenSpec.upto florKeepsSpec)

/-- 'criaderalaw03.FlorExplains', WHERE WHAT IT READS IS OF BULK AT MOST 1048576: true; the input reads as it did. -/
def florExplainsUptoRow : OpenClaim := { program := "ytcpkoapkmjcigaa", sum := "fe6a422bef635873a05c8db4e59cb82727f2ec56bb60951e8e6717c1389f26db", func := "criadera/criaderalaw03.FlorExplains", spec := "florExplains", unfollowed := true, recurses := true, apart := false, narrowed := true }
def FlorExplainsUptoSaid : Prop := florExplainsUptoRow.holds Try.pinned (OpenSpec.upto florExplainsSpec)

/-- 'criaderalaw03.FlorRates', WHERE WHAT IT READS IS OF BULK AT MOST 1048576: true; the input reads as it did. -/
def florRatesUptoRow : OpenClaim := { program := "ytcpkoapkmjcigaa", sum := "fe6a422bef635873a05c8db4e59cb82727f2ec56bb60951e8e6717c1389f26db", func := "criadera/criaderalaw03.FlorRates", spec := "florRates", unfollowed := true, recurses := true, apart := false, narrowed := true }
def FlorRatesUptoSaid : Prop := florRatesUptoRow.holds Try.pinned (OpenSpec.upto florRatesSpec)

/-- 'criaderalaw03.FlorRatesBack', WHERE WHAT IT READS IS OF BULK AT MOST 1048576: true; the input reads as it did. -/
def florRatesBackUptoRow : OpenClaim := { program := "ytcpkoapkmjcigaa", sum := "fe6a422bef635873a05c8db4e59cb82727f2ec56bb60951e8e6717c1389f26db", func := "criadera/criaderalaw03.FlorRatesBack", spec := "florRatesBack", unfollowed := true, recurses := true, apart := false, narrowed := true }
def FlorRatesBackUptoSaid : Prop := florRatesBackUptoRow.holds Try.pinned (OpenSpec.upto florRatesBackSpec)

/-- 'criaderalaw03.FlorSpells', WHERE WHAT IT READS IS OF BULK AT MOST 1048576: true; the input reads as it did. -/
def florSpellsUptoRow : OpenClaim := { program := "ytcpkoapkmjcigaa", sum := "fe6a422bef635873a05c8db4e59cb82727f2ec56bb60951e8e6717c1389f26db", func := "criadera/criaderalaw03.FlorSpells", spec := "florSpells", unfollowed := true, recurses := true, apart := false, narrowed := true }
def FlorSpellsUptoSaid : Prop := florSpellsUptoRow.holds Try.pinned (OpenSpec.upto florSpellsSpec)

/-- 'criaderalaw03.FlorFollows', WHERE WHAT IT READS IS OF BULK AT MOST 1048576: true; the input reads as it did. -/
def florFollowsUptoRow : OpenClaim := { program := "ytcpkoapkmjcigaa", sum := "fe6a422bef635873a05c8db4e59cb82727f2ec56bb60951e8e6717c1389f26db", func := "criadera/criaderalaw03.FlorFollows", spec := "florFollows", unfollowed := true, recurses := true, apart := false, narrowed := true }
def FlorFollowsUptoSaid : Prop := florFollowsUptoRow.holds Try.pinned (OpenSpec.upto florFollowsSpec)

/-- 'criaderalaw03.FlorMixes', WHERE WHAT IT READS IS OF BULK AT MOST 1048576: true; the input reads as it did. -/
def florMixesUptoRow : OpenClaim := { program := "ytcpkoapkmjcigaa", sum := "fe6a422bef635873a05c8db4e59cb82727f2ec56bb60951e8e6717c1389f26db", func := "criadera/criaderalaw03.FlorMixes", spec := "florMixes", unfollowed := true, recurses := true, apart := false, narrowed := true }
def FlorMixesUptoSaid : Prop := florMixesUptoRow.holds Try.pinned (OpenSpec.upto florMixesSpec)

/-- 'criaderalaw03.FlorMixedTrue', WHERE WHAT IT READS IS OF BULK AT MOST 1048576: true; the input reads as it did. -/
def florMixedTrueUptoRow : OpenClaim := { program := "ytcpkoapkmjcigaa", sum := "fe6a422bef635873a05c8db4e59cb82727f2ec56bb60951e8e6717c1389f26db", func := "criadera/criaderalaw03.FlorMixedTrue", spec := "florMixedTrue", unfollowed := true, recurses := true, apart := false, narrowed := true }
def FlorMixedTrueUptoSaid : Prop := florMixedTrueUptoRow.holds Try.pinned (OpenSpec.upto florMixedTrueSpec)

/-- 'criaderalaw03.FlorFortifies', WHERE WHAT IT READS IS OF BULK AT MOST 1048576: true; the input reads as it did. -/
def florFortifiesUptoRow : OpenClaim := { program := "ytcpkoapkmjcigaa", sum := "fe6a422bef635873a05c8db4e59cb82727f2ec56bb60951e8e6717c1389f26db", func := "criadera/criaderalaw03.FlorFortifies", spec := "florFortifies", unfollowed := true, recurses := true, apart := false, narrowed := true }
def FlorFortifiesUptoSaid : Prop := florFortifiesUptoRow.holds Try.pinned (OpenSpec.upto florFortifiesSpec)

/-- 'criaderalaw03.FlorEnough', WHERE WHAT IT READS IS OF BULK AT MOST 1048576: true; the input reads as it did. -/
def florEnoughUptoRow : OpenClaim := { program := "ytcpkoapkmjcigaa", sum := "fe6a422bef635873a05c8db4e59cb82727f2ec56bb60951e8e6717c1389f26db", func := "criadera/criaderalaw03.FlorEnough", spec := "florEnough", unfollowed := true, recurses := true, apart := false, narrowed := true }
def FlorEnoughUptoSaid : Prop := florEnoughUptoRow.holds Try.pinned (OpenSpec.upto florEnoughSpec)

/-- 'criaderatop.TopFlorSpells', WHERE WHAT IT READS IS OF BULK AT MOST 1048576: true; the input reads as it did. -/
def topFlorSpellsUptoRow : OpenClaim := { program := "ytcpkoapkmjcigaa", sum := "fe6a422bef635873a05c8db4e59cb82727f2ec56bb60951e8e6717c1389f26db", func := "criadera/criaderatop.TopFlorSpells", spec := "topFlorSpells", apart := false, narrowed := true }
def TopFlorSpellsUptoSaid : Prop := topFlorSpellsUptoRow.holds Try.pinned (OpenSpec.upto topFlorSpellsSpec)

/-- 'criaderatop.TopFlorFortified', WHERE WHAT IT READS IS OF BULK AT MOST 1048576: true; the input reads as it did. -/
def topFlorFortifiedUptoRow : OpenClaim := { program := "ytcpkoapkmjcigaa", sum := "fe6a422bef635873a05c8db4e59cb82727f2ec56bb60951e8e6717c1389f26db", func := "criadera/criaderatop.TopFlorFortified", spec := "topFlorFortified", unfollowed := true, recurses := true, apart := false, narrowed := true }
def TopFlorFortifiedUptoSaid : Prop := topFlorFortifiedUptoRow.holds Try.pinned (OpenSpec.upto topFlorFortifiedSpec)

/-- 'criaderatop.TopFlorMeasured', WHERE WHAT IT READS IS OF BULK AT MOST 1048576: true; the input reads as it did. -/
def topFlorMeasuredUptoRow : OpenClaim := { program := "ytcpkoapkmjcigaa", sum := "fe6a422bef635873a05c8db4e59cb82727f2ec56bb60951e8e6717c1389f26db", func := "criadera/criaderatop.TopFlorMeasured", spec := "topFlorMeasured", unfollowed := true, recurses := true, apart := false, narrowed := true }
def TopFlorMeasuredUptoSaid : Prop := topFlorMeasuredUptoRow.holds Try.pinned (OpenSpec.upto topFlorMeasuredSpec)

end Rows
end Go.Proofs.Ytcpkoapkmjcigaa
