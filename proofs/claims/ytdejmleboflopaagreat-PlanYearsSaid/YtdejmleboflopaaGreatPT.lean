/- A year: the program's behind, reckoned. -/
import Derived.Test.YtdejmleboflopaaGreatPE
set_option linter.unusedVariables false
set_option linter.unusedSimpArgs false
namespace Go.Proofs.YtdejmleboflopaaGreat
open Go.RowKit
namespace Sy
open Go.RowKit

/-- a run that answers, and what lies in a new object of it -/
noncomputable def fstG (id : Nat) (o : Option (Value × T AObj × Nat)) : Option (Value × Option AObj) := o.map fun r => (r.1, r.2.1.get id)
theorem run_new {P : Pg} {prog : Program} (hp : P.prog = prog) (hm : prog.follows .mixedOrders = true) {sp : CallF} (hsp : CallOk P sp) {k n f nid0 id : Nat} {args : List Value} {args' : Array Value} {hp0 : T AObj} {v : Value} {o : AObj} {M : Mp} {w : World}
    (hrun : fstG id (evDS P sp k n (.fn f) args hp0 nid0) = some (v, some o)) (ho : wrt (some o) = true) (hargs : LRel P M args args'.toList) (hh : HRel P 0 M hp0.get w) (hro : ∀ id, wrt (hp0.get id) = false) (hf : ∀ id, nid0 ≤ id → M id = none) :
    Calls prog f args' w fun e w' => ∃ M' v' b r ob, e = .returned v' ∧ VRel P M' v v' ∧ M' id = some (b, r) ∧ w.heap.size ≤ b ∧ w'.heap[b]? = some ob ∧ ORel P M' r o ob ∧ Below w.heap.size w w' := by
  cases hr : evDS P sp k n (.fn f) args hp0 nid0 with
  | none => rw [hr] at hrun; cases hrun
  | some q =>
    obtain ⟨v1, hp1, nid⟩ := q
    rw [hr] at hrun
    have hv := Option.some.inj hrun
    have hv1 : v1 = v := (Prod.mk.inj hv).1
    have hg : hp1.get id = some o := (Prod.mk.inj hv).2
    subst hv1
    rw [← hp]
    refine Calls.mono (reckonS (B := 0) (M := M) (by rw [hp]; exact hm) hsp hr hargs hh (Nat.zero_le _) (fun id h1 _ => hf id h1)) ?_
    rintro e w' ⟨M', v', rfl, hvr, hh', hev⟩
    obtain ⟨b, r, ob, j1, j2, j3, j4⟩ := hh'.has id _ hg
    refine ⟨M', v', b, r, ob, rfl, hvr, j1, ?_, j3, j4, hev.os, hev.tape, hev.output, hev.size, fun b hb => hev.frame b hb fun id r hi => by rw [hro id] at hi; cases hi⟩
    rcases hev.freshW id b r (by rw [hg]; exact ho) j1 with ⟨id0, r0, h0, _⟩ | h
    · rw [hro id0] at h0; cases h0
    · exact h
/-- flows as a row; the ages behind a year -/
def flRow (x : Value) (N : Nat) : List Value := (List.range N).flatMap fun i => [flT x 1 i, flT x 2 i]
def ahT (N : Nat) (x : Value) (i : Nat) : Value := b1 1 (b1 111 (b1 5 (smT i (flT x 1 i) (hBg i 1) (nxT N i 1)) (smT i (flT x 2 i) (hBg i 1) (nxT N i 1))) (hSc i 0)) (iP 1000)
def agRow (N : Nat) (x : Value) : List Value := (List.range N).flatMap fun i => [agT N x i, ahT N x i]
def hpB (N : Nat) : T AObj := .node (.node .leaf (some (.win (rowB N))) .leaf) (some (.win (rowS N))) (.node .leaf (some (.win (flRow hDr N))) .leaf)
section
variable (hole : Nat → Value)
theorem bhRun1 (ok) : fstG 4 (evDS (pgS hole [] ok) (spP 1) 2000 60 (.fn 36) [sysW 1, begW 1, .iface 91 (.tuple #[iP 2, iP 1])] (hpB 1) 3) = some (.slice (some ⟨4, 0, none⟩) 1 1, some (.row (agRow 1 hDr) 74 false)) := by kernel_rfl
theorem bhRun2 (ok) : fstG 4 (evDS (pgS hole [] ok) (spP 2) 2000 60 (.fn 36) [sysW 2, begW 2, .iface 91 (.tuple #[iP 2, iP 2])] (hpB 2) 3) = some (.slice (some ⟨4, 0, none⟩) 2 2, some (.row (agRow 2 hDr) 74 false)) := by kernel_rfl
theorem bhRun3 (ok) : fstG 4 (evDS (pgS hole [] ok) (spP 3) 2000 60 (.fn 36) [sysW 3, begW 3, .iface 91 (.tuple #[iP 2, iP 3])] (hpB 3) 3) = some (.slice (some ⟨4, 0, none⟩) 3 3, some (.row (agRow 3 hDr) 74 false)) := by kernel_rfl
theorem bhRun4 (ok) : fstG 4 (evDS (pgS hole [] ok) (spP 4) 2000 60 (.fn 36) [sysW 4, begW 4, .iface 91 (.tuple #[iP 2, iP 4])] (hpB 4) 3) = some (.slice (some ⟨4, 0, none⟩) 4 4, some (.row (agRow 4 hDr) 74 false)) := by kernel_rfl
end
def fnFl : Nat := 37
def fnY : Nat := 42
def fnRF : Nat := 72
end Sy
end Go.Proofs.YtdejmleboflopaaGreat
