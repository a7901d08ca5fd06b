/- GaugeVolumes of a cask that is not small; copies of a cask without stations. -/
import Derived.Test.YtpidgcmdimjkoaaRH
set_option linter.unusedVariables false
set_option linter.unusedSimpArgs false
namespace Go.Proofs.Ytpidgcmdimjkoaa
open Go.RowKit
namespace Sy
open Go.RowKit

theorem append0 (b : Nat) (sa : Option Addr) (c : Nat) (w : World) : (Builtin.append_ #[22, 22] 22 #[.slice (some ⟨b, 0, none⟩) 0 0, .slice sa 0 c]).run Try.prog w = .ok (.slice (some ⟨b, 0, none⟩) 0 0) w := by
  obtain ⟨i, hi⟩ := Option.isSome_iff_exists.1 (show (Try.prog.info? 38).isSome = true by kernel_rfl)
  cases sa <;> simp [Builtin.append_, run_underlying (P := Try.prog) (t := 22) (d := .slice 38) (by kernel_rfl), sizeOf, typeInfo, Builtin.lenOf, Builtin.firstCells, hi, storeCells, loadCells, loadCellsFrom]
theorem wpList_append0 {w : World} {ops : Array Oper} {rest : List Oper} {o : Oper} {a : Act} {Q : Exit → Act → World → Prop} (hgd : o.guard = none) (s x : Operand)
    (ho : o.op = .call { callee := .builtin .append, args := #[s, x], argTypes := #[22, 22] }) (hty : o.type = 22) (b : Nat) (sa : Option Addr) (c : Nat)
    (hs : a.eval s = .slice (some ⟨b, 0, none⟩) 0 0) (hx : a.eval x = .slice sa 0 c)
    (h : wpList Try.prog ops Q rest (a.put o.dst (.slice (some ⟨b, 0, none⟩) 0 0)) w) : wpList Try.prog ops Q (o :: rest) a w := by
  refine wpList_plain hgd fun K hK => ?_
  have hrun := append0 b sa c w
  unfold Oper.wp
  simp [execOp, ho, hty, resolve, invoke, builtin, hs, hx, hrun, Result.andThen]
  exact hK _ _ h
theorem alloc_get (W : World) (o : Obj) (n : Nat) (hn : n = W.heap.size) : (W.alloc o).heap[n]? = some o := by subst hn; show (W.heap.push o)[W.heap.size]? = some o; simp
set_option maxRecDepth 100000 in
set_option maxHeartbeats 4000000 in
theorem copy0 (s : ByteArray) (bung : Int) (sa : Option Addr) (cap : Nat) (w : World) :
    Calls Try.prog 13 #[.agg #[.string s, .int .i64 bung, .slice sa 0 cap]] w fun e w' => (∃ b, e = .returned (.agg #[.string s, .int .i64 bung, .slice (some ⟨b, 0, none⟩) 0 0]) ∧ w.heap.size ≤ b ∧ w'.heap[b]? = some (.cells #[] 38 (0, 0))) ∧ Below w.heap.size w w' := by
  go_enter Try.func13, Try.ntmps13
  go_wp2_with (at_builtin; refine wpList_append0 rfl (.tmp 3) (.tmp 5) rfl rfl _ _ _ rfl rfl ?_)
  all_goals
    (with_reducible refine bodyPost_ret (v := .agg #[.string s, .int .i64 bung, .slice (some ⟨w.heap.size + 1 + 1, 0, none⟩) 0 0]) ?_ rfl ?_)
    · simp [results, Try.results13, go_sem]
    · refine ⟨⟨_, rfl, by omega, ?_⟩, ?_⟩
      · exact alloc_get _ _ _ (by rw [World.size_alloc, World.size_alloc])
      · go_grown
set_option maxRecDepth 100000 in
set_option maxHeartbeats 4000000 in
theorem rcask0 (s : ByteArray) (bung : Int) (sa : Option Addr) (cap : Nat) (w : World) :
    Calls Try.prog 27 #[.agg #[.string s, .int .i64 bung, .slice sa 0 cap]] w fun e w' => e = .returned (.tuple #[.int .i64 (caskS s bung []).1, .int .i64 (caskS s bung []).2]) ∧ Below w.heap.size w w' := by
  have HN := Lib.hid (fun w => isNameR_any s w)
  have HW := Lib.hid (fun w => within_any bung 10 800 w)
  cases hn : nameB s with
  | false =>
    rw [cs_early (N := 0) rfl (cE4 hn) (by decide)]
    rw [hn] at HN
    clear hn
    go_enter Try.func27, Try.ntmps27
    go_wp2_with (first | (go_at_call 51; (with_reducible refine Calls.mono (HN.out _) ?_); rintro e w1 ⟨rfl, rfl⟩) | (go_at_call 11; (with_reducible refine Calls.mono (HW.out _) ?_); rintro e w1 ⟨rfl, rfl⟩))
    all_goals
      (with_reducible refine bodyPost_ret (v := .tuple #[.int .i64 0, .int .i64 4]) ?_ rfl ?_)
      · simp [results, Try.results27, go_sem]
      · exact ⟨rfl, by go_grown⟩
  | true =>
    rw [hn] at HN
    by_cases hb : 10 ≤ bung ∧ bung ≤ 800
    · rw [cs_early (N := 0) rfl (cE10 hn hb.1 hb.2 (by decide)) (by decide)]
      rw [inB_yes hb.1 hb.2] at HW
      clear hn hb
      go_enter Try.func27, Try.ntmps27
      go_wp2_with (first | (go_at_call 51; (with_reducible refine Calls.mono (HN.out _) ?_); rintro e w1 ⟨rfl, rfl⟩) | (go_at_call 11; (with_reducible refine Calls.mono (HW.out _) ?_); rintro e w1 ⟨rfl, rfl⟩))
      all_goals
        (with_reducible refine bodyPost_ret (v := .tuple #[.int .i64 0, .int .i64 10]) ?_ rfl ?_)
        · simp [results, Try.results27, go_sem]
        · exact ⟨rfl, by go_grown⟩
    · rw [cs_early (N := 0) rfl (cE2 hn (by omega)) (by decide)]
      rw [inB_no.2 (show bung < 10 ∨ 800 < bung by omega)] at HW
      clear hn hb
      go_enter Try.func27, Try.ntmps27
      go_wp2_with (first | (go_at_call 51; (with_reducible refine Calls.mono (HN.out _) ?_); rintro e w1 ⟨rfl, rfl⟩) | (go_at_call 11; (with_reducible refine Calls.mono (HW.out _) ?_); rintro e w1 ⟨rfl, rfl⟩))
      all_goals
        (with_reducible refine bodyPost_ret (v := .tuple #[.int .i64 0, .int .i64 2]) ?_ rfl ?_)
        · simp [results, Try.results27, go_sem]
        · exact ⟨rfl, by go_grown⟩
end Sy
end Go.Proofs.Ytpidgcmdimjkoaa
