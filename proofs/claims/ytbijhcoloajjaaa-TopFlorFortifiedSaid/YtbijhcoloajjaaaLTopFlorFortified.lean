/- TopFlorFortified: from the walk to the statement. -/
import Derived.Test.YtbijhcoloajjaaaOO
import Derived.ChangeOld
import Derived.Below
namespace Go.Proofs.Ytbijhcoloajjaaa.TopFlorFortified
open Go.ChangeShapes Go.WideShapes Go.ChangeAt Go.RowKit
set_option linter.unusedVariables false

set_option maxRecDepth 100000 in
theorem read_wine {H : Type} {enc : TypeId × Value → H} {w : World} {base : Nat} {spare : Nat → Bool} {held : Bool} {n : Nat} {cs : List Value} {y : DataW H × List MemPlace} (h : DataW.trod enc Try.prog w base spare held n 27 cs = some y) :
    ∃ n0 n1 n2 n3 n4 n5, cs = [.int .i64 n0, .int .i64 n1, .int .i64 n2, .int .i64 n3, .int .i64 n4, .int .i64 n5] ∧ (Lit.int .i64 n0).wf = true ∧ (Lit.int .i64 n1).wf = true ∧ (Lit.int .i64 n2).wf = true ∧ (Lit.int .i64 n3).wf = true ∧ (Lit.int .i64 n4).wf = true ∧ (Lit.int .i64 n5).wf = true := by
  obtain ⟨ys, m, _, _, hl, _, _⟩ := DataW.trod_struct Try.underlying27 h
  rw [show Try.prog.cellsOf 27 = 6 by kernel_rfl] at hl
  match cs, hl, h with
  | [x0, x1, x2, x3, x4, x5], _, h =>
    obtain ⟨n0, rfl, w0⟩ := leaf_int (j := 0) 8 3 (by kernel_rfl) Try.underlying3 h rfl
    obtain ⟨n1, rfl, w1⟩ := leaf_int (j := 1) 8 3 (by kernel_rfl) Try.underlying3 h rfl
    obtain ⟨n2, rfl, w2⟩ := leaf_int (j := 2) 8 3 (by kernel_rfl) Try.underlying3 h rfl
    obtain ⟨n3, rfl, w3⟩ := leaf_int (j := 3) 8 3 (by kernel_rfl) Try.underlying3 h rfl
    obtain ⟨n4, rfl, w4⟩ := leaf_int (j := 4) 8 3 (by kernel_rfl) Try.underlying3 h rfl
    obtain ⟨n5, rfl, w5⟩ := leaf_int (j := 5) 8 3 (by kernel_rfl) Try.underlying3 h rfl
    exact ⟨n0, n1, n2, n3, n4, n5, rfl, w0, w1, w2, w3, w4, w5⟩
set_option maxRecDepth 100000 in
theorem read_rate {H : Type} {enc : TypeId × Value → H} {w : World} {base : Nat} {spare : Nat → Bool} {held : Bool} {n : Nat} {cs : List Value} {y : DataW H × List MemPlace} (h : DataW.trod enc Try.prog w base spare held n 58 cs = some y) :
    ∃ n0 n1 n2 n3, cs = [.int .i64 n0, .int .i64 n1, .int .i64 n2, .int .i64 n3] ∧ (Lit.int .i64 n0).wf = true ∧ (Lit.int .i64 n1).wf = true ∧ (Lit.int .i64 n2).wf = true ∧ (Lit.int .i64 n3).wf = true := by
  obtain ⟨ys, m, _, _, hl, _, _⟩ := DataW.trod_struct Try.underlying58 h
  rw [show Try.prog.cellsOf 58 = 4 by kernel_rfl] at hl
  match cs, hl, h with
  | [x0, x1, x2, x3], _, h =>
    obtain ⟨n0, rfl, w0⟩ := leaf_int (j := 0) 8 3 (by kernel_rfl) Try.underlying3 h rfl
    obtain ⟨n1, rfl, w1⟩ := leaf_int (j := 1) 8 3 (by kernel_rfl) Try.underlying3 h rfl
    obtain ⟨n2, rfl, w2⟩ := leaf_int (j := 2) 8 3 (by kernel_rfl) Try.underlying3 h rfl
    obtain ⟨n3, rfl, w3⟩ := leaf_int (j := 3) 8 3 (by kernel_rfl) Try.underlying3 h rfl
    exact ⟨n0, n1, n2, n3, rfl, w0, w1, w2, w3⟩
set_option maxRecDepth 100000 in
theorem read_aim {H : Type} {enc : TypeId × Value → H} {w : World} {base : Nat} {spare : Nat → Bool} {held : Bool} {n : Nat} {cs : List Value} {y : DataW H × List MemPlace} (h : DataW.trod enc Try.prog w base spare held n 60 cs = some y) :
    ∃ n0 n1 n2, cs = [.int .i64 n0, .int .i64 n1, .int .i64 n2] ∧ (Lit.int .i64 n0).wf = true ∧ (Lit.int .i64 n1).wf = true ∧ (Lit.int .i64 n2).wf = true := by
  obtain ⟨ys, m, _, _, hl, _, _⟩ := DataW.trod_struct Try.underlying60 h
  rw [show Try.prog.cellsOf 60 = 3 by kernel_rfl] at hl
  match cs, hl, h with
  | [x0, x1, x2], _, h =>
    obtain ⟨n0, rfl, w0⟩ := leaf_int (j := 0) 8 3 (by kernel_rfl) Try.underlying3 h rfl
    obtain ⟨n1, rfl, w1⟩ := leaf_int (j := 1) 8 3 (by kernel_rfl) Try.underlying3 h rfl
    obtain ⟨n2, rfl, w2⟩ := leaf_int (j := 2) 8 3 (by kernel_rfl) Try.underlying3 h rfl
    exact ⟨n0, n1, n2, rfl, w0, w1, w2⟩
def Walk : Prop := ∀ (i0 i1 i2 i3 i4 i5 i6 i7 i8 i9 i10 i11 i12 : Int) (w : World), (∀ n ∈ [i0, i1, i2, i3, i4, i5, i6, i7, i8, i9, i10, i11, i12], (Lit.int .i64 n).wf = true) →
    Calls Try.prog 7 #[.agg #[.int .i64 i0, .int .i64 i1, .int .i64 i2, .int .i64 i3, .int .i64 i4, .int .i64 i5], .agg #[.int .i64 i6, .int .i64 i7, .int .i64 i8, .int .i64 i9], .agg #[.int .i64 i10, .int .i64 i11, .int .i64 i12]] w fun e w' => e = .returned (.bool true) ∧ Below w.heap.size w w'

set_option maxRecDepth 100000 in
theorem lifted (walk : Walk) (os : Os) (started : os.Started) (H : Type) (enc : TypeId × Value → H) :
    ReturnsInHanded {} Try.checked os 7 .any (Rows.topFlorFortifiedSpec.pre6 enc Try.prog Try.f7 Rows.topFlorFortifiedRow.domain false) (Rows.topFlorFortifiedSpec.post enc Try.prog Try.f7 false true false false) := by
  refine returnsInHanded_of_change (C := Try.checked) own started (by kernel_rfl) Try.func7
    (ChangeSpec.witness6 (enc := enc) (C := Try.checked) false ⟨#[], #[.agg #[.int .i64 0, .int .i64 0, .int .i64 0, .int .i64 0, .int .i64 0, .int .i64 0], .agg #[.int .i64 0, .int .i64 0, .int .i64 0, .int .i64 0], .agg #[.int .i64 0, .int .i64 0, .int .i64 0]], []⟩ 8 (by kernel_rfl) (by kernel_rfl) (by kernel_rfl) (by kernel_rfl)) ?_
  intro W base args ds gs before hval0 hW hcnd _
  have hval : ∀ (j : Nat) t v, Try.f7.params[j]? = some t → args[j]? = some v → Value.okWide Try.prog W .any base t v := hval0
  have hW' := hW
  obtain ⟨p, q, hA0, hV, rfl, hfz, hnd⟩ := hW
  have hA : DataW.TrodAll enc Try.prog W 0 (fun _ => true) true Try.f7.params.toList args.toList ds p := hA0
  rw [Try.params7] at hA hval
  obtain ⟨v0, vs0, d0, ds0, p0, q0, hargs, rfl, rfl, h0, r0⟩ := trodAll_cons hA
  obtain ⟨v1, vs1, d1, ds1, p1, q1, rfl, rfl, rfl, h1, r1⟩ := trodAll_cons r0
  obtain ⟨v2, vs2, d2, ds2, p2, q2, rfl, rfl, rfl, h2, r2⟩ := trodAll_cons r1
  obtain ⟨rfl, rfl, rfl⟩ := trodAll_nil r2
  obtain rfl : args = #[v0, v1, v2] := by cases args; simp_all
  obtain ⟨rfl, rfl⟩ := trodVars_none hV
  obtain ⟨c0, rfl⟩ := agg_of Try.underlying27 (hval 0 27 v0 rfl rfl)
  have k0 := h0
  have lt0 : ∀ x ∈ p0, x.block < W.heap.size := by obtain ⟨m, hm⟩ := k0; exact DataW.trod_lt m _ _ _ hm
  obtain ⟨m0, h0⟩ := h0
  obtain ⟨i0, i1, i2, i3, i4, i5, e0, w0, w1, w2, w3, w4, w5⟩ := read_wine h0
  obtain rfl : c0 = #[.int .i64 i0, .int .i64 i1, .int .i64 i2, .int .i64 i3, .int .i64 i4, .int .i64 i5] := by cases c0; simp [Value.cells] at e0; simp [e0]
  obtain ⟨c1, rfl⟩ := agg_of Try.underlying58 (hval 1 58 v1 rfl rfl)
  have k1 := h1
  have lt1 : ∀ x ∈ p1, x.block < W.heap.size := by obtain ⟨m, hm⟩ := k1; exact DataW.trod_lt m _ _ _ hm
  obtain ⟨m1, h1⟩ := h1
  obtain ⟨i6, i7, i8, i9, e1, w6, w7, w8, w9⟩ := read_rate h1
  obtain rfl : c1 = #[.int .i64 i6, .int .i64 i7, .int .i64 i8, .int .i64 i9] := by cases c1; simp [Value.cells] at e1; simp [e1]
  obtain ⟨c2, rfl⟩ := agg_of Try.underlying60 (hval 2 60 v2 rfl rfl)
  have k2 := h2
  have lt2 : ∀ x ∈ p2, x.block < W.heap.size := by obtain ⟨m, hm⟩ := k2; exact DataW.trod_lt m _ _ _ hm
  obtain ⟨m2, h2⟩ := h2
  obtain ⟨i10, i11, i12, e2, w10, w11, w12⟩ := read_aim h2
  obtain rfl : c2 = #[.int .i64 i10, .int .i64 i11, .int .i64 i12] := by cases c2; simp [Value.cells] at e2; simp [e2]
  clear hA0 hval0
  refine (walk i0 i1 i2 i3 i4 i5 i6 i7 i8 i9 i10 i11 i12 W (by intro n hn; simp at hn; rcases hn with rfl | rfl | rfl | rfl | rfl | rfl | rfl | rfl | rfl | rfl | rfl | rfl | rfl <;> assumption)).mono fun e W' ⟨he, bel⟩ => ?_
  subst he
  exact ⟨_, rfl, _, _, _, [], _, [], hW', trodAll_mk1 (shut_bool Try.underlying4 _), (trodAll_cons_mk (Below.trod laidOut (by kernel_rfl) (of_decide_eq_true (by kernel_rfl)) k0 bel lt0) (trodAll_cons_mk (Below.trod laidOut (by kernel_rfl) (of_decide_eq_true (by kernel_rfl)) k1 bel lt1) (trodAll_cons_mk (Below.trod laidOut (by kernel_rfl) (of_decide_eq_true (by kernel_rfl)) k2 bel lt2) trodAll_mk0))), rfl, bel.frame _, fun h => by cases h⟩

theorem over (walk : Walk) : Rows.TopFlorFortifiedSaid :=
  OpenClaim.holds_of_wide 7 Try.f7 rfl rfl rfl rfl rfl rfl rfl ⟨rfl, rfl, rfl, rfl, rfl⟩ rfl rfl rfl rfl rfl (by kernel_rfl) Try.func7 (by kernel_rfl)
    (of_decide_eq_true (by kernel_rfl)) (by unfold Func.isWrapper; first | (rw [if_pos (by decide +kernel)]; kernel_rfl) | (rw [if_neg (by decide +kernel)]; exact ⟨rfl, rfl⟩))
    (fun os started H enc _ => lifted walk os started H enc)
end Go.Proofs.Ytbijhcoloajjaaa.TopFlorFortified
