/- Copies of lists without elements. -/
import Derived.Test.YtdejmleboflopaaGreatYA
import Derived.Lib.Hide
set_option linter.unusedVariables false
set_option linter.unusedSimpArgs false
namespace Go.Proofs.YtdejmleboflopaaGreat
open Go.RowKit
namespace Sy
open Go.RowKit

theorem alloc_getY (W : World) (o : Obj) (n : Nat) (hn : n = W.heap.size) : (W.alloc o).heap[n]? = some o := by subst hn; show (W.heap.push o)[W.heap.size]? = some o; simp
theorem append0S (b : Nat) (sa : Option Addr) (c : Nat) (w : World) : (Builtin.append_ #[22, 22] 22 #[.slice (some ⟨b, 0, none⟩) 0 0, .slice sa 0 c]).run Tryz.prog w = .ok (.slice (some ⟨b, 0, none⟩) 0 0) w := by
  obtain ⟨i, hi⟩ := Option.isSome_iff_exists.1 (show (Tryz.prog.info? 112).isSome = true by kernel_rfl)
  cases sa <;> simp [Builtin.append_, run_underlying (P := Tryz.prog) (t := 22) (d := .slice 112) (by kernel_rfl), sizeOf, typeInfo, Builtin.lenOf, Builtin.firstCells, hi, storeCells, loadCells, loadCellsFrom]
theorem wpList_append0S {w : World} {ops : Array Oper} {rest : List Oper} {o : Oper} {a : Act} {Q : Exit → Act → World → Prop} (hgd : o.guard = none) (s x : Operand)
    (ho : o.op = .call { callee := .builtin .append, args := #[s, x], argTypes := #[22, 22] }) (hty : o.type = 22) (b : Nat) (sa : Option Addr) (c : Nat)
    (hs : a.eval s = .slice (some ⟨b, 0, none⟩) 0 0) (hx : a.eval x = .slice sa 0 c)
    (h : wpList Tryz.prog ops Q rest (a.put o.dst (.slice (some ⟨b, 0, none⟩) 0 0)) w) : wpList Tryz.prog ops Q (o :: rest) a w := by
  refine wpList_plain hgd fun K hK => ?_
  have hrun := append0S b sa c w
  unfold Oper.wp
  simp [execOp, ho, hty, resolve, invoke, builtin, hs, hx, hrun, Result.andThen]
  exact hK _ _ h
theorem append0B (b : Nat) (sa : Option Addr) (c : Nat) (w : World) : (Builtin.append_ #[25, 25] 25 #[.slice (some ⟨b, 0, none⟩) 0 0, .slice sa 0 c]).run Tryz.prog w = .ok (.slice (some ⟨b, 0, none⟩) 0 0) w := by
  obtain ⟨i, hi⟩ := Option.isSome_iff_exists.1 (show (Tryz.prog.info? 74).isSome = true by kernel_rfl)
  cases sa <;> simp [Builtin.append_, run_underlying (P := Tryz.prog) (t := 25) (d := .slice 74) (by kernel_rfl), sizeOf, typeInfo, Builtin.lenOf, Builtin.firstCells, hi, storeCells, loadCells, loadCellsFrom]
theorem wpList_append0B {w : World} {ops : Array Oper} {rest : List Oper} {o : Oper} {a : Act} {Q : Exit → Act → World → Prop} (hgd : o.guard = none) (s x : Operand)
    (ho : o.op = .call { callee := .builtin .append, args := #[s, x], argTypes := #[25, 25] }) (hty : o.type = 25) (b : Nat) (sa : Option Addr) (c : Nat)
    (hs : a.eval s = .slice (some ⟨b, 0, none⟩) 0 0) (hx : a.eval x = .slice sa 0 c)
    (h : wpList Tryz.prog ops Q rest (a.put o.dst (.slice (some ⟨b, 0, none⟩) 0 0)) w) : wpList Tryz.prog ops Q (o :: rest) a w := by
  refine wpList_plain hgd fun K hK => ?_
  have hrun := append0B b sa c w
  unfold Oper.wp
  simp [execOp, ho, hty, resolve, invoke, builtin, hs, hx, hrun, Result.andThen]
  exact hK _ _ h
theorem append0D (b : Nat) (sa : Option Addr) (c : Nat) (w : World) : (Builtin.append_ #[26, 26] 26 #[.slice (some ⟨b, 0, none⟩) 0 0, .slice sa 0 c]).run Tryz.prog w = .ok (.slice (some ⟨b, 0, none⟩) 0 0) w := by
  obtain ⟨i, hi⟩ := Option.isSome_iff_exists.1 (show (Tryz.prog.info? 3).isSome = true by kernel_rfl)
  cases sa <;> simp [Builtin.append_, run_underlying (P := Tryz.prog) (t := 26) (d := .slice 3) (by kernel_rfl), sizeOf, typeInfo, Builtin.lenOf, Builtin.firstCells, hi, storeCells, loadCells, loadCellsFrom]
theorem wpList_append0D {w : World} {ops : Array Oper} {rest : List Oper} {o : Oper} {a : Act} {Q : Exit → Act → World → Prop} (hgd : o.guard = none) (s x : Operand)
    (ho : o.op = .call { callee := .builtin .append, args := #[s, x], argTypes := #[26, 26] }) (hty : o.type = 26) (b : Nat) (sa : Option Addr) (c : Nat)
    (hs : a.eval s = .slice (some ⟨b, 0, none⟩) 0 0) (hx : a.eval x = .slice sa 0 c)
    (h : wpList Tryz.prog ops Q rest (a.put o.dst (.slice (some ⟨b, 0, none⟩) 0 0)) w) : wpList Tryz.prog ops Q (o :: rest) a w := by
  refine wpList_plain hgd fun K hK => ?_
  have hrun := append0D b sa c w
  unfold Oper.wp
  simp [execOp, ho, hty, resolve, invoke, builtin, hs, hx, hrun, Result.andThen]
  exact hK _ _ h
set_option maxRecDepth 100000 in
set_option maxHeartbeats 4000000 in
theorem copy0B (sa : Option Addr) (cap : Nat) (w : World) :
    Calls Tryz.prog 9 #[.slice sa 0 cap] w fun e w' => Below w.heap.size w w' ∧ ∃ b ob, e = .returned (.slice (some ⟨b, 0, none⟩) 0 0) ∧ w.heap.size ≤ b ∧ w'.heap[b]? = some ob ∧ ∀ g, atC ob 0 0 g := by
  go_enter Tryz.func9, Tryz.ntmps9
  go_wp2_with (at_builtin; refine wpList_append0B rfl (.tmp 3) (.tmp 4) rfl rfl _ _ _ rfl rfl ?_)
  all_goals
    (with_reducible refine bodyPost_ret (v := .slice (some ⟨w.heap.size, 0, none⟩) 0 0) ?_ rfl ?_)
    · simp [results, Tryz.results9, go_sem]
    · refine ⟨?_, _, .cells #[] 74 (0, 0), rfl, by omega, ?_, fun g => ⟨_, _, _, rfl, fun j hj => absurd hj (by omega)⟩⟩
      · go_grown
      · exact alloc_getY _ _ _ (by first | rfl | (simp only [World.size_alloc]; done))
set_option maxRecDepth 100000 in
set_option maxHeartbeats 4000000 in
theorem copy0D (sa : Option Addr) (cap : Nat) (w : World) :
    Calls Tryz.prog 10 #[.slice sa 0 cap] w fun e w' => Below w.heap.size w w' ∧ ∃ b ob, e = .returned (.slice (some ⟨b, 0, none⟩) 0 0) ∧ w.heap.size ≤ b ∧ w'.heap[b]? = some ob ∧ ∀ g, atC ob 0 0 g := by
  go_enter Tryz.func10, Tryz.ntmps10
  go_wp2_with (at_builtin; refine wpList_append0D rfl (.tmp 3) (.tmp 4) rfl rfl _ _ _ rfl rfl ?_)
  all_goals
    (with_reducible refine bodyPost_ret (v := .slice (some ⟨w.heap.size, 0, none⟩) 0 0) ?_ rfl ?_)
    · simp [results, Tryz.results10, go_sem]
    · refine ⟨?_, _, .cells #[] 3 (0, 0), rfl, by omega, ?_, fun g => ⟨_, _, _, rfl, fun j hj => absurd hj (by omega)⟩⟩
      · go_grown
      · exact alloc_getY _ _ _ (by first | rfl | (simp only [World.size_alloc]; done))
set_option maxRecDepth 100000 in
set_option maxHeartbeats 4000000 in
theorem copy0S (nw : Int) (sa : Option Addr) (cap : Nat) (w : World) :
    Calls Tryz.prog 8 #[.agg #[.slice sa 0 cap, .int .i64 nw]] w fun e w' => Below w.heap.size w w' ∧ ∃ b ob, e = .returned (.agg #[.slice (some ⟨b, 0, none⟩) 0 0, .int .i64 nw]) ∧ w.heap.size ≤ b ∧ w'.heap[b]? = some ob ∧ ∀ g, atC ob 0 0 g := by
  go_enter Tryz.func8, Tryz.ntmps8
  go_wp2_with (at_builtin; refine wpList_append0S rfl (.tmp 3) (.tmp 5) rfl rfl _ _ _ rfl rfl ?_)
  all_goals
    (with_reducible refine bodyPost_ret (v := .agg #[.slice (some ⟨w.heap.size + 1 + 1, 0, none⟩) 0 0, .int .i64 nw]) ?_ rfl ?_)
    · simp [results, Tryz.results8, go_sem]
    · refine ⟨?_, _, .cells #[] 112 (0, 0), rfl, by omega, ?_, fun g => ⟨_, _, _, rfl, fun j hj => absurd hj (by omega)⟩⟩
      · go_grown
      · exact alloc_getY _ _ _ (by rw [World.size_alloc, World.size_alloc])
end Sy
end Go.Proofs.YtdejmleboflopaaGreat
