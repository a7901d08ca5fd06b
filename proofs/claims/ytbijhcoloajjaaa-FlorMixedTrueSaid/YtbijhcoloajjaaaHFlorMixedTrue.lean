/- FOR EVERY INPUT THE LAW FlorMixedTrue ANSWERS TRUE: the mixture of true wines lies in what is told of the mixed ones; turned round they are the same; a wine without volume changes nothing. No condition. -/
import Derived.Test.YtbijhcoloajjaaaOO
import Derived.ChangeOld
import Derived.Below
import Derived.Test.YtbijhcoloajjaaaNN
/- FlorMixedTrue: from the walk to the statement. -/
namespace Go.Proofs.Ytbijhcoloajjaaa.FlorMixedTrue
open Go.ChangeShapes Go.WideShapes Go.ChangeAt Go.RowKit
set_option linter.unusedVariables false

def Walk : Prop := ∀ (sa0 : Option Addr) (n0 cp0 b0 off0 : Nat) (f0 : Nat → Nat → Int) (sa1 : Option Addr) (n1 cp1 b1 off1 : Nat) (f1 : Nat → Nat → Int) (w : World), (∀ n ∈ ([] : List Int), (Lit.int .i64 n).wf = true) → (0 < n0 → sa0 = some ⟨b0, off0, none⟩) → (sa0 = none → n0 = 0 ∧ cp0 = 0) → n0 ≤ cp0 → cp0 ≤ maxLen → (∀ i j, i < n0 → j < 6 → w.cell? ⟨b0, off0 + i * 6 + j, none⟩ = some (.int .i64 (f0 i j)) ∧ (Lit.int .i64 (f0 i j)).wf = true) →
    (0 < n1 → sa1 = some ⟨b1, off1, none⟩) → (sa1 = none → n1 = 0 ∧ cp1 = 0) → n1 ≤ cp1 → cp1 ≤ maxLen → (∀ i j, i < n1 → j < 5 → w.cell? ⟨b1, off1 + i * 5 + j, none⟩ = some (.int .i64 (f1 i j)) ∧ (Lit.int .i64 (f1 i j)).wf = true) →
        Calls Try.prog 4 #[.slice sa0 n0 cp0, .slice sa1 n1 cp1] w fun e w' => e = .returned (.bool true) ∧ Below w.heap.size w w'

set_option maxHeartbeats 2000000 in
set_option maxRecDepth 100000 in
theorem lifted (walk : Walk) (os : Os) (started : os.Started) (H : Type) (enc : TypeId × Value → H) :
    ReturnsInHanded {} Try.checked os 4 .any (Rows.florMixedTrueSpec.pre6 enc Try.prog Try.f4 Rows.florMixedTrueRow.domain false) (Rows.florMixedTrueSpec.post enc Try.prog Try.f4 false true false false) := by
  refine returnsInHanded_of_change (C := Try.checked) own started (by kernel_rfl) Try.func4
    (ChangeSpec.witness6 (enc := enc) (C := Try.checked) false ⟨#[], #[.slice none 0 0, .slice none 0 0], []⟩ 8 (by kernel_rfl) (by kernel_rfl) (by kernel_rfl) (by kernel_rfl)) ?_
  intro W base args ds gs before hval0 hW hcnd _
  have hval : ∀ (j : Nat) t v, Try.f4.params[j]? = some t → args[j]? = some v → Value.okWide Try.prog W .any base t v := hval0
  have hW' := hW
  obtain ⟨p, q, hA0, hV, rfl, hfz, hnd⟩ := hW
  have hA : DataW.TrodAll enc Try.prog W 0 (fun _ => true) true Try.f4.params.toList args.toList ds p := hA0
  rw [Try.params4] at hA hval
  obtain ⟨v0, vs0, d0, ds0, p0, q0, hargs, rfl, rfl, h0, r0⟩ := trodAll_cons hA
  obtain ⟨v1, vs1, d1, ds1, p1, q1, rfl, rfl, rfl, h1, r1⟩ := trodAll_cons r0
  obtain ⟨rfl, rfl, rfl⟩ := trodAll_nil r1
  obtain rfl : args = #[v0, v1] := by cases args; simp_all
  obtain ⟨rfl, rfl⟩ := trodVars_none hV
  obtain ⟨sz0, lz0, cz0, rfl⟩ := okWide_slice Try.underlying22 (hval 0 22 v0 rfl rfl)
  have k0 := h0
  have lt0 : ∀ x ∈ p0, x.block < W.heap.size := by obtain ⟨m, hm⟩ := k0; exact DataW.trod_lt m _ _ _ hm
  obtain ⟨m0, h0⟩ := h0
  obtain ⟨sa0, n0, cp0, b0, off0, f0, e0, y0, g0, lc0, mc0, hc0⟩ := slice_ints Try.underlying22 (c := 6) (by kernel_rfl) (by decide) 8 (by
      intro j hj
      match j, hj with
      | 0, _ => exact ⟨3, by kernel_rfl, Try.underlying3⟩
      | 1, _ => exact ⟨3, by kernel_rfl, Try.underlying3⟩
      | 2, _ => exact ⟨3, by kernel_rfl, Try.underlying3⟩
      | 3, _ => exact ⟨3, by kernel_rfl, Try.underlying3⟩
      | 4, _ => exact ⟨3, by kernel_rfl, Try.underlying3⟩
      | 5, _ => exact ⟨3, by kernel_rfl, Try.underlying3⟩) h0
  obtain ⟨rfl, rfl, rfl⟩ : sz0 = sa0 ∧ lz0 = n0 ∧ cz0 = cp0 := by simpa [Value.cells] using e0
  obtain ⟨sz1, lz1, cz1, rfl⟩ := okWide_slice Try.underlying35 (hval 1 35 v1 rfl rfl)
  have k1 := h1
  have lt1 : ∀ x ∈ p1, x.block < W.heap.size := by obtain ⟨m, hm⟩ := k1; exact DataW.trod_lt m _ _ _ hm
  obtain ⟨m1, h1⟩ := h1
  obtain ⟨sa1, n1, cp1, b1, off1, f1, e1, y1, g1, lc1, mc1, hc1⟩ := slice_ints Try.underlying35 (c := 5) (by kernel_rfl) (by decide) 8 (by
      intro j hj
      match j, hj with
      | 0, _ => exact ⟨3, by kernel_rfl, Try.underlying3⟩
      | 1, _ => exact ⟨3, by kernel_rfl, Try.underlying3⟩
      | 2, _ => exact ⟨3, by kernel_rfl, Try.underlying3⟩
      | 3, _ => exact ⟨3, by kernel_rfl, Try.underlying3⟩
      | 4, _ => exact ⟨3, by kernel_rfl, Try.underlying3⟩) h1
  obtain ⟨rfl, rfl, rfl⟩ : sz1 = sa1 ∧ lz1 = n1 ∧ cz1 = cp1 := by simpa [Value.cells] using e1
  clear hA0 hval0
  refine (walk  sz0 lz0 cz0 b0 off0 f0 sz1 lz1 cz1 b1 off1 f1 W (by intro n hn; cases hn) y0 g0 lc0 mc0 hc0 y1 g1 lc1 mc1 hc1).mono fun e W' ⟨he, bel⟩ => ?_
  subst he
  exact ⟨_, rfl, _, _, _, [], _, [], hW', trodAll_mk1 (shut_bool Try.underlying4 _), (trodAll_cons_mk (Below.trod laidOut (by kernel_rfl) (of_decide_eq_true (by kernel_rfl)) k0 bel lt0) (trodAll_cons_mk (Below.trod laidOut (by kernel_rfl) (of_decide_eq_true (by kernel_rfl)) k1 bel lt1) trodAll_mk0)), rfl, bel.frame _, fun h => by cases h⟩

theorem over (walk : Walk) : Rows.FlorMixedTrueSaid :=
  OpenClaim.holds_of_wide 4 Try.f4 rfl rfl rfl rfl rfl rfl rfl ⟨rfl, rfl, rfl, rfl, rfl⟩ rfl rfl rfl rfl rfl (by kernel_rfl) Try.func4 (by kernel_rfl)
    (of_decide_eq_true (by kernel_rfl)) (by unfold Func.isWrapper; first | (rw [if_pos (by decide +kernel)]; kernel_rfl) | (rw [if_neg (by decide +kernel)]; exact ⟨rfl, rfl⟩))
    (fun os started H enc _ => lifted walk os started H enc)
end Go.Proofs.Ytbijhcoloajjaaa.FlorMixedTrue

namespace Go.Proofs.Ytbijhcoloajjaaa
open Go.RowKit

def wnT (f : Nat → Nat → Int) (i : Nat) : Wn := ⟨f i 0, f i 1, f i 2, f i 3, f i 4, f i 5⟩
theorem wnT_at (f : Nat → Nat → Int) (i j : Nat) (hj : j < 6) : (wnT f i).at j = f i j := by
  match j, hj with
  | 0, _ => rfl
  | 1, _ => rfl
  | 2, _ => rfl
  | 3, _ => rfl
  | 4, _ => rfl
  | 5, _ => rfl
theorem mixtrue_all (sa : Option Addr) (n cp b off : Nat) (f : Nat → Nat → Int) (sb : Option Addr) (m cq d od : Nat) (t : Nat → Nat → Int) (w : World) (hsa : 0 < n → sa = some ⟨b, off, none⟩) (hsb : 0 < m → sb = some ⟨d, od, none⟩)
    (hc : ∀ i j, i < n → j < 6 → w.cell? ⟨b, off + i * 6 + j, none⟩ = some (.int .i64 (f i j)) ∧ (Lit.int .i64 (f i j)).wf = true) (ht : ∀ i j, i < m → j < 5 → w.cell? ⟨d, od + i * 5 + j, none⟩ = some (.int .i64 (t i j)) ∧ (Lit.int .i64 (t i j)).wf = true) :
    Calls Try.prog 4 #[.slice sa n cp, .slice sb m cq] w fun e w' => e = .returned (.bool true) ∧ Below w.heap.size w w' := by
  by_cases h : n = 0 ∨ 8 < n ∨ m < n
  · exact mixtrue_out sa sb n cp m cq w awake_any h
  obtain rfl := hsa (by omega)
  obtain rfl := hsb (by omega)
  exact mixtrue_some (wnT f) t b off n cp d od m cq w (by omega) (by omega) (by omega) awake_any (fun i j hi hj => by rw [wnT_at f i j hj]; exact (hc i j hi hj).1) (fun i j hi hj => (ht i j (by omega) hj).1)
theorem florMixedTrue_holds : Rows.FlorMixedTrueSaid :=
  FlorMixedTrue.over (fun sa n cp b off f sb m cq d od t w _ hsa _ _ _ hc hsb _ _ _ ht => mixtrue_all sa n cp b off f sb m cq d od t w hsa hsb hc ht)
end Go.Proofs.Ytbijhcoloajjaaa
