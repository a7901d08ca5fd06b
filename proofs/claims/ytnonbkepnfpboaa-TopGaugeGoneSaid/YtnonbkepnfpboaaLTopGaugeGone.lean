/- TopGaugeGone: from the walk to the statement. -/
import Derived.Test.YtnonbkepnfpboaaOO
import Derived.ChangeOld
import Derived.Below
namespace Go.Proofs.Ytnonbkepnfpboaa.TopGaugeGone
open Go.ChangeShapes Go.WideShapes Go.ChangeAt Go.RowKit
set_option linter.unusedVariables false

set_option maxRecDepth 100000 in
theorem read_cellar {H : Type} {enc : TypeId × Value → H} {w : World} {base : Nat} {spare : Nat → Bool} {held : Bool} {n : Nat} {cs : List Value} {y : DataW H × List MemPlace} (h : DataW.trod enc Try.prog w base spare held n 25 cs = some y) :
    ∃ (V L Mv : Int) (sa sb : Option Addr) (nd cd b off nw cw b' off' : Nat) (f g : Nat → Nat → Int), cs = [.int .i64 V, .int .i64 L, .int .i64 Mv, .slice sa nd cd, .slice sb nw cw] ∧ (0 < nd → sa = some ⟨b, off, none⟩) ∧ (0 < nw → sb = some ⟨b', off', none⟩) ∧
      (∀ i j, i < nd → j < 1 → w.cell? ⟨b, off + i * 1 + j, none⟩ = some (.int .i64 (f i j)) ∧ (Lit.int .i64 (f i j)).wf = true) ∧
      ∀ i j, i < nw → j < 2 → w.cell? ⟨b', off' + i * 2 + j, none⟩ = some (.int .i64 (g i j)) ∧ (Lit.int .i64 (g i j)).wf = true := by
  obtain ⟨ys, m, _, _, hl, _, _⟩ := DataW.trod_struct Try.underlying25 h
  rw [show Try.prog.cellsOf 25 = 5 by kernel_rfl] at hl
  match cs, hl, h with
  | [x0, x1, x2, x3, x4], _, h =>
    obtain ⟨V, rfl, _⟩ := leaf_int (j := 0) 8 3 (by kernel_rfl) Try.underlying3 h rfl
    obtain ⟨L, rfl, _⟩ := leaf_int (j := 1) 8 3 (by kernel_rfl) Try.underlying3 h rfl
    obtain ⟨Mv, rfl, _⟩ := leaf_int (j := 2) 8 3 (by kernel_rfl) Try.underlying3 h rfl
    obtain ⟨v3, m3, y3, e3, t3⟩ := leaf_read 8 (j := 3) (L := 22) (by kernel_rfl) h
    obtain ⟨sa, nd, cd, b, off, f, hv, hb, _, _, _, hc⟩ := slice_ints Try.underlying22 (c := 1) (by kernel_rfl) (by decide) 8 (by
      intro j hj
      match j, hj with
      | 0, _ => exact ⟨3, by kernel_rfl, Try.underlying3⟩) t3
    obtain ⟨v4, m4, y4, e4, t4⟩ := leaf_read 8 (j := 4) (L := 23) (by kernel_rfl) h
    obtain ⟨sb, nw, cw, b', off', g, hv', hb', _, _, _, hc'⟩ := slice_ints Try.underlying23 (c := 2) (by kernel_rfl) (by decide) 8 (by
      intro j hj
      match j, hj with
      | 0, _ => exact ⟨3, by kernel_rfl, Try.underlying3⟩
      | 1, _ => exact ⟨3, by kernel_rfl, Try.underlying3⟩) t4
    have e3 : x3 = v3 := by simpa using e3
    have e4 : x4 = v4 := by simpa using e4
    have hv : v3 = .slice sa nd cd := by simpa using hv
    have hv' : v4 = .slice sb nw cw := by simpa using hv'
    exact ⟨V, L, Mv, sa, sb, nd, cd, b, off, nw, cw, b', off', f, g, by rw [e3, e4, hv, hv'], hb, hb', hc, hc'⟩
set_option maxRecDepth 100000 in
theorem read_range {H : Type} {enc : TypeId × Value → H} {w : World} {base : Nat} {spare : Nat → Bool} {held : Bool} {n : Nat} {cs : List Value} {y : DataW H × List MemPlace} (h : DataW.trod enc Try.prog w base spare held n 27 cs = some y) : ∃ a b, cs = [.int .i64 a, .int .i64 b] := by
  obtain ⟨ys, m, _, _, hl, _, _⟩ := DataW.trod_struct Try.underlying27 h
  rw [show Try.prog.cellsOf 27 = 2 by kernel_rfl] at hl
  match cs, hl, h with
  | [x0, x1], _, h =>
    obtain ⟨a, rfl, wa⟩ := leaf_int (j := 0) 8 3 (by kernel_rfl) Try.underlying3 h rfl
    obtain ⟨b, rfl, wb⟩ := leaf_int (j := 1) 8 3 (by kernel_rfl) Try.underlying3 h rfl
    exact ⟨a, b, rfl⟩
def Walk : Prop := ∀ (V L Mv lo hi tk : Int) (sa sb : Option Addr) (nd cd b off nw cw b' off' : Nat) (f g : Nat → Nat → Int) (w : World), (0 < nd → sa = some ⟨b, off, none⟩) → (0 < nw → sb = some ⟨b', off', none⟩) →
    (∀ i j, i < nd → j < 1 → w.cell? ⟨b, off + i * 1 + j, none⟩ = some (.int .i64 (f i j)) ∧ (Lit.int .i64 (f i j)).wf = true) →
    (∀ i j, i < nw → j < 2 → w.cell? ⟨b', off' + i * 2 + j, none⟩ = some (.int .i64 (g i j)) ∧ (Lit.int .i64 (g i j)).wf = true) →
    Calls Try.prog 3 #[.agg #[.int .i64 V, .int .i64 L, .int .i64 Mv, .slice sa nd cd, .slice sb nw cw], .agg #[.int .i64 lo, .int .i64 hi], .int .i64 tk] w fun e w' => e = .returned (.bool true) ∧ Below w.heap.size w w'

set_option maxHeartbeats 2000000 in
set_option maxRecDepth 100000 in
theorem lifted (walk : Walk) (os : Os) (started : os.Started) (H : Type) (enc : TypeId × Value → H) :
    ReturnsInHanded {} Try.checked os 3 .any (Rows.topGaugeGoneSpec.pre6 enc Try.prog Try.f3 Rows.topGaugeGoneRow.domain false) (Rows.topGaugeGoneSpec.post enc Try.prog Try.f3 false true false false) := by
  refine returnsInHanded_of_change (C := Try.checked) own started (by kernel_rfl) Try.func3
    (ChangeSpec.witness6 (enc := enc) (C := Try.checked) false ⟨#[], #[.agg #[.int .i64 0, .int .i64 0, .int .i64 0, .slice none 0 0, .slice none 0 0], .agg #[.int .i64 0, .int .i64 0], .int .i64 0], []⟩ 8 (by kernel_rfl) (by kernel_rfl) (by kernel_rfl) (by kernel_rfl)) ?_
  intro W base args ds gs before hval0 hW hcnd _
  have hval : ∀ (j : Nat) t v, Try.f3.params[j]? = some t → args[j]? = some v → Value.okWide Try.prog W .any base t v := hval0
  have hW' := hW
  obtain ⟨p, q, hA0, hV, rfl, hfz, hnd⟩ := hW
  have hA : DataW.TrodAll enc Try.prog W 0 (fun _ => true) true Try.f3.params.toList args.toList ds p := hA0
  rw [Try.params3] at hA hval
  obtain ⟨v0, vs0, d0, ds0, p0, q0, hargs, rfl, rfl, h0, r0⟩ := trodAll_cons hA
  obtain ⟨v1, vs1, d1, ds1, p1, q1, rfl, rfl, rfl, h1, r1⟩ := trodAll_cons r0
  obtain ⟨v2, vs2, d2, ds2, p2, q2, rfl, rfl, rfl, h2, r2⟩ := trodAll_cons r1
  obtain ⟨rfl, rfl, rfl⟩ := trodAll_nil r2
  obtain rfl : args = #[v0, v1, v2] := by cases args; simp_all
  obtain ⟨rfl, rfl⟩ := trodVars_none hV
  obtain ⟨c0, rfl⟩ := agg_of Try.underlying25 (hval 0 25 v0 rfl rfl)
  have k0 := h0
  have lt0 : ∀ x ∈ p0, x.block < W.heap.size := by obtain ⟨m, hm⟩ := k0; exact DataW.trod_lt m _ _ _ hm
  obtain ⟨m0, h0⟩ := h0
  obtain ⟨V, L, Mv, sa, sb, nd, cd, b, off, nw, cw, b', off', f, g, e0, y0, z0, hc0, hc1⟩ := read_cellar h0
  obtain rfl : c0 = #[.int .i64 V, .int .i64 L, .int .i64 Mv, .slice sa nd cd, .slice sb nw cw] := by cases c0; simp [Value.cells] at e0; simp [e0]
  obtain ⟨c1, rfl⟩ := agg_of Try.underlying27 (hval 1 27 v1 rfl rfl)
  have k1 := h1
  have lt1 : ∀ x ∈ p1, x.block < W.heap.size := by obtain ⟨m, hm⟩ := k1; exact DataW.trod_lt m _ _ _ hm
  obtain ⟨m1, h1⟩ := h1
  obtain ⟨lo, hi, e1⟩ := read_range h1
  obtain rfl : c1 = #[.int .i64 lo, .int .i64 hi] := by cases c1; simp [Value.cells] at e1; simp [e1]
  obtain ⟨tk, rfl, rfl, rfl, w2⟩ := open_int Try.underlying3 (hval 2 3 v2 rfl rfl) h2
  clear hA0 hval0
  refine (walk V L Mv lo hi tk sa sb nd cd b off nw cw b' off' f g W y0 z0 hc0 hc1).mono fun e W' ⟨he, bel⟩ => ?_
  subst he
  exact ⟨_, rfl, _, _, _, [], _, [], hW', trodAll_mk1 (shut_bool Try.underlying4 _), (trodAll_cons_mk (Below.trod laidOut (by kernel_rfl) (of_decide_eq_true (by kernel_rfl)) k0 bel lt0) (trodAll_cons_mk (Below.trod laidOut (by kernel_rfl) (of_decide_eq_true (by kernel_rfl)) k1 bel lt1) (trodAll_cons_mk (shut_int Try.underlying3 w2) trodAll_mk0))), rfl, bel.frame _, fun h => by cases h⟩

theorem over (walk : Walk) : Rows.TopGaugeGoneSaid :=
  OpenClaim.holds_of_wide 3 Try.f3 rfl rfl rfl rfl rfl rfl rfl ⟨rfl, rfl, rfl, rfl, rfl⟩ rfl rfl rfl rfl rfl (by kernel_rfl) Try.func3 (by kernel_rfl)
    (of_decide_eq_true (by kernel_rfl)) (by unfold Func.isWrapper; first | (rw [if_pos (by decide +kernel)]; kernel_rfl) | (rw [if_neg (by decide +kernel)]; exact ⟨rfl, rfl⟩))
    (fun os started H enc _ => lifted walk os started H enc)
end Go.Proofs.Ytnonbkepnfpboaa.TopGaugeGone
