import Derived.Test.YtpfhfphcmomfdaaRF
import Derived.Test.YtpfhfphcmomfdaaSE
/- The law GaugeVolumes, reckoned with symbols. -/
set_option linter.unusedVariables false
set_option linter.unusedSimpArgs false
namespace Go.Proofs.Ytpfhfphcmomfdaa
open Go.RowKit
namespace Sy
open Go.RowKit

theorem okRange : ∀ t ∈ [((31 : Nat), (2 : Nat))], ∀ (xs ys : List Int) (x y : Operand) (w : World), xs.length = t.2 → ys.length = t.2 → ((do eqGuard .eql t.1 x y (.agg (xs.map fun z => Value.int .i64 z).toArray) (.agg (ys.map fun z => Value.int .i64 z).toArray); binOp .eql t.1 (.agg (xs.map fun z => Value.int .i64 z).toArray) (.agg (ys.map fun z => Value.int .i64 z).toArray)) : Sem Value).run Try.prog w = .ok (.bool (decide (xs = ys))) w ∧
    ((do eqGuard .neq t.1 x y (.agg (xs.map fun z => Value.int .i64 z).toArray) (.agg (ys.map fun z => Value.int .i64 z).toArray); binOp .neq t.1 (.agg (xs.map fun z => Value.int .i64 z).toArray) (.agg (ys.map fun z => Value.int .i64 z).toArray)) : Sem Value).run Try.prog w = .ok (.bool (!decide (xs = ys))) w := by
  intro t ht xs ys x y w hx hy
  simp only [List.mem_singleton] at ht
  subst ht
  match xs, ys, hx, hy with
  | [a, b], [c, d], _, _ =>
    refine ⟨?_, ?_⟩
    · go_simp
      by_cases h1 : a = c <;> by_cases h2 : b = d <;> simp [h1, h2]
    · go_simp
      by_cases h1 : a = c <;> by_cases h2 : b = d <;> simp [h1, h2]
noncomputable def pgE (s : ByteArray) (bung dip : Int) (xs : List Int) (O : Obj → Prop) (l : List Fact) (ok : ∀ f ∈ l, ∃ x y, Dv (denG s (holeV s bung dip xs) O) f.2.1 x ∧ Dv (denG s (holeV s bung dip xs) O) f.2.2.1 y ∧ cmpN f.1 x y = f.2.2.2) : Pg :=
  { prog := Try.prog, den := denG s (holeV s bung dip xs) O, facts := l, ok := ok, eqs := [(31, 2)], okEq := okRange }
def vGood (N : Nat) : List Fact := [(0, errV N, .int .i64 0, true), (0, dipV, .int .i64 0, true), (2, .int .i64 0, hDip, true), (2, hDip, topV, true)]
def badV (N : Nat) : Value := .iface 104 (.tuple #[errV N, .iface 103 (.tuple #[hDip, .int .i64 0, .int .i64 0])])
def vBad (N : Nat) : List Fact := [(0, errV N, .int .i64 0, false), (0, badV N, .int .i64 0, false), (0, badV N, errV N, true)]
def vLow (N : Nat) : List Fact := [(0, errV N, .int .i64 0, true), (0, dipV, .int .i64 0, false), (2, .int .i64 0, hDip, false), (0, dipV, .int .i64 2, true)]
def vHigh (N : Nat) : List Fact := [(0, errV N, .int .i64 0, true), (0, dipV, .int .i64 0, false), (2, .int .i64 0, hDip, true), (2, hDip, topV, false), (0, dipV, .int .i64 2, true)]
section
variable (s : ByteArray) (bung dip : Int) (xs : List Int) (O : Obj → Prop)
end
end Sy
end Go.Proofs.Ytpfhfphcmomfdaa

/- GaugeVolumes of a cask with 1 to 4, 13 or 14 stations. -/
set_option linter.unusedVariables false
set_option linter.unusedSimpArgs false
namespace Go.Proofs.Ytpfhfphcmomfdaa
open Go.RowKit
namespace Sy
open Go.RowKit

section
variable {s : ByteArray} {bung dip : Int} {xs : List Int} {O : Obj → Prop} {N : Nat}
theorem radii_ok (hc : CaskOk bung xs N) : ∀ r ∈ radiiV N, ∃ ρ : Nat, Dv (D0 s bung dip xs O) r ρ ∧ 10 ≤ ρ ∧ ρ ≤ 800 := by
  intro r hr
  have h8 := hc.hi
  rcases List.mem_append.1 hr with h | h
  · obtain ⟨k, hk, rfl⟩ := List.mem_map.1 h
    have hk : k < N - 1 := by simpa using hk
    obtain ⟨_, _, a1, a2, _, _, _⟩ := hc.st k (by omega)
    obtain ⟨_, _, b1, b2, _, _, _⟩ := hc.st (k + 1) (by omega)
    refine ⟨(min (xs.getD (k * 3 + 1) 0) (xs.getD ((k + 1) * 3 + 1) 0)).toNat, ?_, by omega, by omega⟩
    rw [show (((min (xs.getD (k * 3 + 1) 0) (xs.getD ((k + 1) * 3 + 1) 0)).toNat : Nat) : Int) = binN 4 (xs.getD (k * 3 + 1) 0) (xs.getD ((k + 1) * 3 + 1) 0) from by show _ = min _ _; omega]
    exact .bin (t := 4) (by decide) (dSt k 1) (dSt (k + 1) 1)
  · obtain ⟨k, hk, rfl⟩ := List.mem_map.1 h
    have hk : k < N - 1 := by simpa using hk
    obtain ⟨_, _, _, _, a1, a2, _⟩ := hc.st k (by omega)
    obtain ⟨_, _, _, _, b1, b2, _⟩ := hc.st (k + 1) (by omega)
    refine ⟨(max (xs.getD (k * 3 + 2) 0) (xs.getD ((k + 1) * 3 + 2) 0)).toNat, ?_, by omega, by omega⟩
    rw [show (((max (xs.getD (k * 3 + 2) 0) (xs.getD ((k + 1) * 3 + 2) 0)).toNat : Nat) : Int) = binN 5 (xs.getD (k * 3 + 2) 0) (xs.getD ((k + 1) * 3 + 2) 0) from by show _ = max _ _; omega]
    exact .bin (t := 5) (by decide) (dSt k 2) (dSt (k + 1) 2)
theorem dTopV (hc : CaskOk bung xs N) : Dv (D0 s bung dip xs O) topV (2 * bung) := by
  have h8 := hc.hi
  have h10 := hc.lo
  have h : Dv (D0 s bung dip xs O) topV (binN 3 2 bung) := .bin (t := 3) (by decide) (.lit 2) dBung
  rwa [show binN 3 2 bung = 2 * bung from IntWalk.i64_in _ (by omega)] at h
theorem dDipV (hc : CaskOk bung xs N) : Dv (D0 s bung dip xs O) dipV (numE dip 0 (2 * bung)) := by
  have h : Dv (D0 s bung dip xs O) dipV (firstL [0, numE dip 0 (2 * bung)]) := app2 (t := 104) (by decide) (.lit 0) (app3 (t := 103) (by decide) dDip (.lit 0) (dTopV hc))
  rw [firstL_cons0 rfl] at h
  by_cases e : numE dip 0 (2 * bung) = 0
  · rw [e] at h ⊢; exact h
  · rw [firstL_cons1 e] at h; exact h
theorem dBadV (hl : xs.length = N * 3) (hz : (caskS s bung xs).2 ≠ 0) : Dv (D0 s bung dip xs O) (badV N) (caskS s bung xs).2 := by
  have h : Dv (D0 s bung dip xs O) (badV N) (firstL [(caskS s bung xs).2, numE dip 0 0]) := app2 (t := 104) (by decide) (dErr hl) (app3 (t := 103) (by decide) dDip (.lit 0) (.lit 0))
  rwa [firstL_cons1 hz] at h
theorem eq_yes {D : Dn} {a b : Value} {x y : Int} (ha : Dv D a x) (hb : Dv D b y) (h : x = y) : OkF D (0, a, b, true) := ⟨x, y, ha, hb, decide_eq_true h⟩
theorem eq_no {D : Dn} {a b : Value} {x y : Int} (ha : Dv D a x) (hb : Dv D b y) (h : ¬ x = y) : OkF D (0, a, b, false) := ⟨x, y, ha, hb, decide_eq_false h⟩
theorem okVBad (hl : xs.length = N * 3) (hz : (caskS s bung xs).2 ≠ 0) : ∀ f ∈ vBad N, OkF (D0 s bung dip xs O) f := by
  intro f hf
  simp only [vBad, List.mem_cons, List.not_mem_nil, or_false] at hf
  rcases hf with rfl | rfl | rfl
  · exact eq_no (dErr hl) (.lit 0) hz
  · exact eq_no (dBadV hl hz) (.lit 0) hz
  · exact eq_yes (dBadV hl hz) (dErr hl) rfl
theorem okVGood (hl : xs.length = N * 3) (hz : (caskS s bung xs).2 = 0) (hc : CaskOk bung xs N) (h0 : 0 ≤ dip) (h1 : dip ≤ 2 * bung) : ∀ f ∈ vGood N, OkF (D0 s bung dip xs O) f := by
  intro f hf
  simp only [vGood, List.mem_cons, List.not_mem_nil, or_false] at hf
  rcases hf with rfl | rfl | rfl | rfl
  · exact eq_yes (dErr hl) (.lit 0) hz
  · exact eq_yes (dDipV hc) (.lit 0) (numE_yes h0 h1)
  · exact le_yes (.lit 0) dDip h0
  · exact le_yes dDip (dTopV hc) h1
theorem okVLow (hl : xs.length = N * 3) (hz : (caskS s bung xs).2 = 0) (hc : CaskOk bung xs N) (h0 : ¬ 0 ≤ dip) : ∀ f ∈ vLow N, OkF (D0 s bung dip xs O) f := by
  intro f hf
  have e := numE_no (n := dip) (lo := 0) (hi := 2 * bung) (by omega)
  simp only [vLow, List.mem_cons, List.not_mem_nil, or_false] at hf
  rcases hf with rfl | rfl | rfl | rfl
  · exact eq_yes (dErr hl) (.lit 0) hz
  · exact eq_no (dDipV hc) (.lit 0) (by rw [e]; decide)
  · exact le_no (.lit 0) dDip h0
  · exact eq_yes (dDipV hc) (.lit 2) e
theorem okVHigh (hl : xs.length = N * 3) (hz : (caskS s bung xs).2 = 0) (hc : CaskOk bung xs N) (h0 : 0 ≤ dip) (h1 : ¬ dip ≤ 2 * bung) : ∀ f ∈ vHigh N, OkF (D0 s bung dip xs O) f := by
  intro f hf
  have e := numE_no (n := dip) (lo := 0) (hi := 2 * bung) (by omega)
  simp only [vHigh, List.mem_cons, List.not_mem_nil, or_false] at hf
  rcases hf with rfl | rfl | rfl | rfl | rfl
  · exact eq_yes (dErr hl) (.lit 0) hz
  · exact eq_no (dDipV hc) (.lit 0) (by rw [e]; decide)
  · exact le_yes (.lit 0) dDip h0
  · exact le_no dDip (dTopV hc) h1
  · exact eq_yes (dDipV hc) (.lit 2) e
end
/-- a law of a cask and a dip that a run has answered -/
theorem law_win {s : ByteArray} {bung dip : Int} {xs : List Int} {N gs os cap f : Nat} {w : World} {ob : Obj} (hl : xs.length = N * 3) (hw : WinAt gs os xs w) (hob : w.heap[gs]? = some ob) {l : List Fact} {ok} {sp : CallF} (hsp : CallOk (pgE s bung dip xs (fun o => o = ob) l ok) sp)
    (hrun : fstW (evDS (pgE s bung dip xs (fun o => o = ob) l ok) sp 2000 60 (.fn f) [winV N, hDip] (hpW N) 1) = some (.bool true, some (.win (rowV N)))) :
    Calls Try.prog f #[.agg #[.string s, .int .i64 bung, .slice (some ⟨gs, os, none⟩) N cap], .int .i64 dip] w fun e w' => e = .returned (.bool true) ∧ Below w.heap.size w w' := by
  refine Calls.mono (run_win (P := pgE s bung dip xs (fun o => o = ob) l ok) rfl (by kernel_rfl) hsp (by rw [rowV_len, hl]) rowV_den hrun (args' := #[.agg #[.string s, .int .i64 bung, .slice (some ⟨gs, os, none⟩) N cap], .int .i64 dip])
    (LRel.cons (LRel.agg (LRel.cons (.hol (P := pgE s bung dip xs (fun o => o = ob) l ok) (n := 0) rfl rfl (fun _ => rfl)) (LRel.cons (Dv.vrel (P := pgE s bung dip xs (fun o => o = ob) l ok) dBung) (LRel.cons (.osl rfl (.lit (N : Int))) (LRel.nil _))))) (LRel.cons (Dv.vrel (P := pgE s bung dip xs (fun o => o = ob) l ok) dDip) (LRel.nil _))) hw hob rfl) ?_
  rintro e' w' ⟨M', v', rfl, hvr, hwb⟩
  cases hvr
  exact ⟨rfl, hwb⟩
end Sy
end Go.Proofs.Ytpfhfphcmomfdaa

/- GaugeVolumes of a cask that is not small; copies of a cask without stations. -/
set_option linter.unusedVariables false
set_option linter.unusedSimpArgs false
namespace Go.Proofs.Ytpfhfphcmomfdaa
open Go.RowKit
namespace Sy
open Go.RowKit

theorem append0 (b : Nat) (sa : Option Addr) (c : Nat) (w : World) : (Builtin.append_ #[22, 22] 22 #[.slice (some ⟨b, 0, none⟩) 0 0, .slice sa 0 c]).run Try.prog w = .ok (.slice (some ⟨b, 0, none⟩) 0 0) w := by
  obtain ⟨i, hi⟩ := Option.isSome_iff_exists.1 (show (Try.prog.info? 92).isSome = true by kernel_rfl)
  cases sa <;> simp [Builtin.append_, run_underlying (P := Try.prog) (t := 22) (d := .slice 92) (by kernel_rfl), sizeOf, typeInfo, Builtin.lenOf, Builtin.firstCells, hi, storeCells, loadCells, loadCellsFrom]
theorem wpList_append0 {w : World} {ops : Array Oper} {rest : List Oper} {o : Oper} {a : Act} {Q : Exit → Act → World → Prop} (hgd : o.guard = none) (s x : Operand)
    (ho : o.op = .call { callee := .builtin .append, args := #[s, x], argTypes := #[22, 22] }) (hty : o.type = 22) (b : Nat) (sa : Option Addr) (c : Nat)
    (hs : a.eval s = .slice (some ⟨b, 0, none⟩) 0 0) (hx : a.eval x = .slice sa 0 c)
    (h : wpList Try.prog ops Q rest (a.put o.dst (.slice (some ⟨b, 0, none⟩) 0 0)) w) : wpList Try.prog ops Q (o :: rest) a w := by
  refine wpList_plain hgd fun K hK => ?_
  have hrun := append0 b sa c w
  unfold Oper.wp
  simp [execOp, ho, hty, resolve, invoke, builtin, hs, hx, hrun, Result.andThen]
  exact hK _ _ h
theorem alloc_get (W : World) (o : Obj) (n : Nat) (hn : n = W.heap.size) : (W.alloc o).heap[n]? = some o := by subst hn; show (W.heap.push o)[W.heap.size]? = some o; simp
set_option maxRecDepth 100000 in
set_option maxHeartbeats 4000000 in
theorem copy0 (s : ByteArray) (bung : Int) (sa : Option Addr) (cap : Nat) (w : World) :
    Calls Try.prog 9 #[.agg #[.string s, .int .i64 bung, .slice sa 0 cap]] w fun e w' => (∃ b, e = .returned (.agg #[.string s, .int .i64 bung, .slice (some ⟨b, 0, none⟩) 0 0]) ∧ w.heap.size ≤ b ∧ w'.heap[b]? = some (.cells #[] 92 (0, 0))) ∧ Below w.heap.size w w' := by
  go_enter Try.func9, Try.ntmps9
  go_wp2_with (at_builtin; refine wpList_append0 rfl (.tmp 3) (.tmp 5) rfl rfl _ _ _ rfl rfl ?_)
  all_goals
    (with_reducible refine bodyPost_ret (v := .agg #[.string s, .int .i64 bung, .slice (some ⟨w.heap.size + 1 + 1, 0, none⟩) 0 0]) ?_ rfl ?_)
    · simp [results, Try.results9, go_sem]
    · refine ⟨⟨_, rfl, by omega, ?_⟩, ?_⟩
      · exact alloc_get _ _ _ (by rw [World.size_alloc, World.size_alloc])
      · go_grown
set_option maxRecDepth 100000 in
set_option maxHeartbeats 4000000 in
theorem rcask0 (s : ByteArray) (bung : Int) (sa : Option Addr) (cap : Nat) (w : World) :
    Calls Try.prog 18 #[.agg #[.string s, .int .i64 bung, .slice sa 0 cap]] w fun e w' => e = .returned (.tuple #[.int .i64 (caskS s bung []).1, .int .i64 (caskS s bung []).2]) ∧ Below w.heap.size w w' := by
  have HN := Lib.hid (fun w => isNameR_any s w)
  have HW := Lib.hid (fun w => within_any bung 10 800 w)
  cases hn : nameB s with
  | false =>
    rw [cs_early (N := 0) rfl (cE4 hn) (by decide)]
    rw [hn] at HN
    clear hn
    go_enter Try.func18, Try.ntmps18
    go_wp2_with (first | (go_at_call 25; (with_reducible refine Calls.mono (HN.out _) ?_); rintro e w1 ⟨rfl, rfl⟩) | (go_at_call 10; (with_reducible refine Calls.mono (HW.out _) ?_); rintro e w1 ⟨rfl, rfl⟩))
    all_goals
      (with_reducible refine bodyPost_ret (v := .tuple #[.int .i64 0, .int .i64 4]) ?_ rfl ?_)
      · simp [results, Try.results18, go_sem]
      · exact ⟨rfl, by go_grown⟩
  | true =>
    rw [hn] at HN
    by_cases hb : 10 ≤ bung ∧ bung ≤ 800
    · rw [cs_early (N := 0) rfl (cE10 hn hb.1 hb.2 (by decide)) (by decide)]
      rw [inB_yes hb.1 hb.2] at HW
      clear hn hb
      go_enter Try.func18, Try.ntmps18
      go_wp2_with (first | (go_at_call 25; (with_reducible refine Calls.mono (HN.out _) ?_); rintro e w1 ⟨rfl, rfl⟩) | (go_at_call 10; (with_reducible refine Calls.mono (HW.out _) ?_); rintro e w1 ⟨rfl, rfl⟩))
      all_goals
        (with_reducible refine bodyPost_ret (v := .tuple #[.int .i64 0, .int .i64 10]) ?_ rfl ?_)
        · simp [results, Try.results18, go_sem]
        · exact ⟨rfl, by go_grown⟩
    · rw [cs_early (N := 0) rfl (cE2 hn (by omega)) (by decide)]
      rw [inB_no.2 (show bung < 10 ∨ 800 < bung by omega)] at HW
      clear hn hb
      go_enter Try.func18, Try.ntmps18
      go_wp2_with (first | (go_at_call 25; (with_reducible refine Calls.mono (HN.out _) ?_); rintro e w1 ⟨rfl, rfl⟩) | (go_at_call 10; (with_reducible refine Calls.mono (HW.out _) ?_); rintro e w1 ⟨rfl, rfl⟩))
      all_goals
        (with_reducible refine bodyPost_ret (v := .tuple #[.int .i64 0, .int .i64 2]) ?_ rfl ?_)
        · simp [results, Try.results18, go_sem]
        · exact ⟨rfl, by go_grown⟩
end Sy
end Go.Proofs.Ytpfhfphcmomfdaa
