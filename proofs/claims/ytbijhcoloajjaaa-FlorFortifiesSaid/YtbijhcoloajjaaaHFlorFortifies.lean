/- FOR EVERY INPUT THE LAW FlorFortifies ANSWERS TRUE: a wine with spirit, and how much spirit a target needs, or the errors, are as specified. No condition. -/
import Derived.Test.YtbijhcoloajjaaaOO
import Derived.ChangeOld
import Derived.Below
import Derived.Test.YtbijhcoloajjaaaYZ
import Derived.Test.YtbijhcoloajjaaaG0
/- FlorFortifies: from the walk to the statement. -/
namespace Go.Proofs.Ytbijhcoloajjaaa.FlorFortifies
open Go.ChangeShapes Go.WideShapes Go.ChangeAt Go.RowKit
set_option linter.unusedVariables false

def Walk : Prop := ∀ (i0 i1 i2 i3 i4 i5 i6 i7 i8 : Int) (w : World), (∀ n ∈ [i0, i1, i2, i3, i4, i5, i6, i7, i8], (Lit.int .i64 n).wf = true) →
    Calls Try.prog 5 #[.agg #[.int .i64 i0, .int .i64 i1, .int .i64 i2, .int .i64 i3, .int .i64 i4, .int .i64 i5], .agg #[.int .i64 i6, .int .i64 i7], .int .i64 i8] w fun e w' => e = .returned (.bool true) ∧ Below w.heap.size w w'

set_option maxRecDepth 100000 in
theorem lifted (walk : Walk) (os : Os) (started : os.Started) (H : Type) (enc : TypeId × Value → H) :
    ReturnsInHanded {} Try.checked os 5 .any (Rows.florFortifiesSpec.pre6 enc Try.prog Try.f5 Rows.florFortifiesRow.domain false) (Rows.florFortifiesSpec.post enc Try.prog Try.f5 false true false false) := by
  refine returnsInHanded_of_change (C := Try.checked) own started (by kernel_rfl) Try.func5
    (ChangeSpec.witness6 (enc := enc) (C := Try.checked) false ⟨#[], #[.agg #[.int .i64 0, .int .i64 0, .int .i64 0, .int .i64 0, .int .i64 0, .int .i64 0], .agg #[.int .i64 0, .int .i64 0], .int .i64 0], []⟩ 8 (by kernel_rfl) (by kernel_rfl) (by kernel_rfl) (by kernel_rfl)) ?_
  intro W base args ds gs before hval0 hW hcnd _
  have hval : ∀ (j : Nat) t v, Try.f5.params[j]? = some t → args[j]? = some v → Value.okWide Try.prog W .any base t v := hval0
  have hW' := hW
  obtain ⟨p, q, hA0, hV, rfl, hfz, hnd⟩ := hW
  have hA : DataW.TrodAll enc Try.prog W 0 (fun _ => true) true Try.f5.params.toList args.toList ds p := hA0
  rw [Try.params5] at hA hval
  obtain ⟨v0, vs0, d0, ds0, p0, q0, hargs, rfl, rfl, h0, r0⟩ := trodAll_cons hA
  obtain ⟨v1, vs1, d1, ds1, p1, q1, rfl, rfl, rfl, h1, r1⟩ := trodAll_cons r0
  obtain ⟨v2, vs2, d2, ds2, p2, q2, rfl, rfl, rfl, h2, r2⟩ := trodAll_cons r1
  obtain ⟨rfl, rfl, rfl⟩ := trodAll_nil r2
  obtain rfl : args = #[v0, v1, v2] := by cases args; simp_all
  obtain ⟨rfl, rfl⟩ := trodVars_none hV
  obtain ⟨c0, rfl⟩ := agg_of Try.underlying27 (hval 0 27 v0 rfl rfl)
  have k0 := h0
  have lt0 : ∀ x ∈ p0, x.block < W.heap.size := by obtain ⟨m, hm⟩ := k0; exact DataW.trod_lt m _ _ _ hm
  obtain ⟨m0, h0⟩ := h0
  obtain ⟨i0, i1, i2, i3, i4, i5, e0, w0, w1, w2, w3, w4, w5⟩ := read_wine h0
  obtain rfl : c0 = #[.int .i64 i0, .int .i64 i1, .int .i64 i2, .int .i64 i3, .int .i64 i4, .int .i64 i5] := by cases c0; simp [Value.cells] at e0; simp [e0]
  obtain ⟨c1, rfl⟩ := agg_of Try.underlying45 (hval 1 45 v1 rfl rfl)
  have k1 := h1
  have lt1 : ∀ x ∈ p1, x.block < W.heap.size := by obtain ⟨m, hm⟩ := k1; exact DataW.trod_lt m _ _ _ hm
  obtain ⟨m1, h1⟩ := h1
  obtain ⟨i6, i7, e1, w6, w7⟩ := read_pair Try.underlying45 (by kernel_rfl) rfl rfl rfl rfl h1
  obtain rfl : c1 = #[.int .i64 i6, .int .i64 i7] := by cases c1; simp [Value.cells] at e1; simp [e1]
  obtain ⟨i8, rfl, rfl, rfl, w8⟩ := open_int Try.underlying3 (hval 2 3 v2 rfl rfl) h2
  clear hA0 hval0
  refine (walk i0 i1 i2 i3 i4 i5 i6 i7 i8 W (by intro n hn; simp at hn; rcases hn with rfl | rfl | rfl | rfl | rfl | rfl | rfl | rfl | rfl <;> assumption)).mono fun e W' ⟨he, bel⟩ => ?_
  subst he
  exact ⟨_, rfl, _, _, _, [], _, [], hW', trodAll_mk1 (shut_bool Try.underlying4 _), (trodAll_cons_mk (Below.trod laidOut (by kernel_rfl) (of_decide_eq_true (by kernel_rfl)) k0 bel lt0) (trodAll_cons_mk (Below.trod laidOut (by kernel_rfl) (of_decide_eq_true (by kernel_rfl)) k1 bel lt1) (trodAll_cons_mk (shut_int Try.underlying3 w8) trodAll_mk0))), rfl, bel.frame _, fun h => by cases h⟩

theorem over (walk : Walk) : Rows.FlorFortifiesSaid :=
  OpenClaim.holds_of_wide 5 Try.f5 rfl rfl rfl rfl rfl rfl rfl ⟨rfl, rfl, rfl, rfl, rfl⟩ rfl rfl rfl rfl rfl (by kernel_rfl) Try.func5 (by kernel_rfl)
    (of_decide_eq_true (by kernel_rfl)) (by unfold Func.isWrapper; first | (rw [if_pos (by decide +kernel)]; kernel_rfl) | (rw [if_neg (by decide +kernel)]; exact ⟨rfl, rfl⟩))
    (fun os started H enc _ => lifted walk os started H enc)
end Go.Proofs.Ytbijhcoloajjaaa.FlorFortifies

namespace Go.Proofs.Ytbijhcoloajjaaa
open Go.RowKit

set_option maxRecDepth 100000 in
set_option maxHeartbeats 2000000 in
theorem fortifies_walk (v0 v1 s0 s1 c0 c1 vo st tg : Int) (w : World) :
    Calls Try.prog 5 #[.agg #[.int .i64 v0, .int .i64 v1, .int .i64 s0, .int .i64 s1, .int .i64 c0, .int .i64 c1], .agg #[.int .i64 vo, .int .i64 st], .int .i64 tg] w fun e w' => e = .returned (.bool true) ∧ Below w.heap.size w w' := by
  have hF := fun w => fortified_any ⟨v0, v1, s0, s1, c0, c1⟩ vo st w
  have hG := fun w => rfortified_any ⟨v0, v1, s0, s1, c0, c1⟩ vo st w
  obtain ⟨z0, z1, z2, z3, z4, z5, ef, hm⟩ := mixR_form (twoW ⟨v0, v1, s0, s1, c0, c1⟩ (spW vo st)) 2
  rw [hm] at hF hG
  by_cases h : (firstE (wineE v0 v1 s0 s1 c0 c1) (strE st) (strE tg) != 0) = true
  · exact fortifies_of v0 v1 s0 s1 c0 c1 vo st tg z0 z1 z2 z3 z4 z5 _ _ ef _ w awake_any hF (fun w => florSpirit_wrong v0 v1 s0 s1 c0 c1 st tg w h) hG (fun w => spirit_wrong v0 v1 s0 s1 c0 c1 st tg w h)
  have h : (firstE (wineE v0 v1 s0 s1 c0 c1) (strE st) (strE tg) != 0) = false := by simpa using h
  by_cases hl : st ≤ tg
  · exact fortifies_of v0 v1 s0 s1 c0 c1 vo st tg z0 z1 z2 z3 z4 z5 _ _ ef _ w awake_any hF (fun w => florSpirit_zero v0 v1 s0 s1 c0 c1 st tg w h hl) hG (fun w => spirit_zero v0 v1 s0 s1 c0 c1 st tg w h hl)
  have hl : tg < st := by omega
  by_cases hn : 100000 < ndE v1 s0 st tg
  · exact fortifies_of v0 v1 s0 s1 c0 c1 vo st tg z0 z1 z2 z3 z4 z5 _ _ ef _ w awake_any hF (fun w => florSpirit_large v0 v1 s0 s1 c0 c1 st tg w h hl hn) hG (fun w => spirit_large v0 v1 s0 s1 c0 c1 st tg w h hl hn)
  have hn : ndE v1 s0 st tg ≤ 100000 := by omega
  exact fortifies_of v0 v1 s0 s1 c0 c1 vo st tg z0 z1 z2 z3 z4 z5 _ _ ef _ w awake_any hF (fun w => florSpirit_fine v0 v1 s0 s1 c0 c1 st tg w h hl hn) hG (fun w => spirit_fine v0 v1 s0 s1 c0 c1 st tg w h hl hn)
theorem florFortifies_holds : Rows.FlorFortifiesSaid :=
  FlorFortifies.over (fun v0 v1 s0 s1 c0 c1 vo st tg w _ => fortifies_walk v0 v1 s0 s1 c0 c1 vo st tg w)
end Go.Proofs.Ytbijhcoloajjaaa
