/- FOR EVERY INPUT THE LAW FlorMixes ANSWERS TRUE: mixed wines, or the errors, are as specified. No condition. -/
import Derived.Test.YtbijhcoloajjaaaOO
import Derived.ChangeOld
import Derived.Below
import Derived.Test.YtbijhcoloajjaaaYZ
import Derived.Test.YtbijhcoloajjaaaG0
/- FlorMixes: from the walk to the statement. -/
namespace Go.Proofs.Ytbijhcoloajjaaa.FlorMixes
open Go.ChangeShapes Go.WideShapes Go.ChangeAt Go.RowKit
set_option linter.unusedVariables false

def Walk : Prop := ∀ (sa0 : Option Addr) (n0 cp0 b0 off0 : Nat) (f0 : Nat → Nat → Int) (w : World), (∀ n ∈ ([] : List Int), (Lit.int .i64 n).wf = true) → (0 < n0 → sa0 = some ⟨b0, off0, none⟩) → (sa0 = none → n0 = 0 ∧ cp0 = 0) → n0 ≤ cp0 → cp0 ≤ maxLen → (∀ i j, i < n0 → j < 6 → w.cell? ⟨b0, off0 + i * 6 + j, none⟩ = some (.int .i64 (f0 i j)) ∧ (Lit.int .i64 (f0 i j)).wf = true) →
        Calls Try.prog 3 #[.slice sa0 n0 cp0] w fun e w' => e = .returned (.bool true) ∧ Below w.heap.size w w'

set_option maxHeartbeats 2000000 in
set_option maxRecDepth 100000 in
theorem lifted (walk : Walk) (os : Os) (started : os.Started) (H : Type) (enc : TypeId × Value → H) :
    ReturnsInHanded {} Try.checked os 3 .any (Rows.florMixesSpec.pre6 enc Try.prog Try.f3 Rows.florMixesRow.domain false) (Rows.florMixesSpec.post enc Try.prog Try.f3 false true false false) := by
  refine returnsInHanded_of_change (C := Try.checked) own started (by kernel_rfl) Try.func3
    (ChangeSpec.witness6 (enc := enc) (C := Try.checked) false ⟨#[], #[.slice none 0 0], []⟩ 8 (by kernel_rfl) (by kernel_rfl) (by kernel_rfl) (by kernel_rfl)) ?_
  intro W base args ds gs before hval0 hW hcnd _
  have hval : ∀ (j : Nat) t v, Try.f3.params[j]? = some t → args[j]? = some v → Value.okWide Try.prog W .any base t v := hval0
  have hW' := hW
  obtain ⟨p, q, hA0, hV, rfl, hfz, hnd⟩ := hW
  have hA : DataW.TrodAll enc Try.prog W 0 (fun _ => true) true Try.f3.params.toList args.toList ds p := hA0
  rw [Try.params3] at hA hval
  obtain ⟨v0, vs0, d0, ds0, p0, q0, hargs, rfl, rfl, h0, r0⟩ := trodAll_cons hA
  obtain ⟨rfl, rfl, rfl⟩ := trodAll_nil r0
  obtain rfl : args = #[v0] := by cases args; simp_all
  obtain ⟨rfl, rfl⟩ := trodVars_none hV
  obtain ⟨sz0, lz0, cz0, rfl⟩ := okWide_slice Try.underlying22 (hval 0 22 v0 rfl rfl)
  have k0 := h0
  have lt0 : ∀ x ∈ p0, x.block < W.heap.size := by obtain ⟨m, hm⟩ := k0; exact DataW.trod_lt m _ _ _ hm
  obtain ⟨m0, h0⟩ := h0
  obtain ⟨sa0, n0, cp0, b0, off0, f0, e0, y0, g0, lc0, mc0, hc0⟩ := slice_ints Try.underlying22 (c := 6) (by kernel_rfl) (by decide) 8 (by
      intro j hj
      match j, hj with
      | 0, _ => exact ⟨3, by kernel_rfl, Try.underlying3⟩
      | 1, _ => exact ⟨3, by kernel_rfl, Try.underlying3⟩
      | 2, _ => exact ⟨3, by kernel_rfl, Try.underlying3⟩
      | 3, _ => exact ⟨3, by kernel_rfl, Try.underlying3⟩
      | 4, _ => exact ⟨3, by kernel_rfl, Try.underlying3⟩
      | 5, _ => exact ⟨3, by kernel_rfl, Try.underlying3⟩) h0
  obtain ⟨rfl, rfl, rfl⟩ : sz0 = sa0 ∧ lz0 = n0 ∧ cz0 = cp0 := by simpa [Value.cells] using e0
  clear hA0 hval0
  refine (walk  sz0 lz0 cz0 b0 off0 f0 W (by intro n hn; cases hn) y0 g0 lc0 mc0 hc0).mono fun e W' ⟨he, bel⟩ => ?_
  subst he
  exact ⟨_, rfl, _, _, _, [], _, [], hW', trodAll_mk1 (shut_bool Try.underlying4 _), (trodAll_cons_mk (Below.trod laidOut (by kernel_rfl) (of_decide_eq_true (by kernel_rfl)) k0 bel lt0) trodAll_mk0), rfl, bel.frame _, fun h => by cases h⟩

theorem over (walk : Walk) : Rows.FlorMixesSaid :=
  OpenClaim.holds_of_wide 3 Try.f3 rfl rfl rfl rfl rfl rfl rfl ⟨rfl, rfl, rfl, rfl, rfl⟩ rfl rfl rfl rfl rfl (by kernel_rfl) Try.func3 (by kernel_rfl)
    (of_decide_eq_true (by kernel_rfl)) (by unfold Func.isWrapper; first | (rw [if_pos (by decide +kernel)]; kernel_rfl) | (rw [if_neg (by decide +kernel)]; exact ⟨rfl, rfl⟩))
    (fun os started H enc _ => lifted walk os started H enc)
end Go.Proofs.Ytbijhcoloajjaaa.FlorMixes

namespace Go.Proofs.Ytbijhcoloajjaaa
open Go.RowKit

def wnOf (f : Nat → Nat → Int) (i : Nat) : Wn := ⟨f i 0, f i 1, f i 2, f i 3, f i 4, f i 5⟩
theorem wnOf_at (f : Nat → Nat → Int) (i j : Nat) (hj : j < 6) : (wnOf f i).at j = f i j := by
  match j, hj with
  | 0, _ => rfl
  | 1, _ => rfl
  | 2, _ => rfl
  | 3, _ => rfl
  | 4, _ => rfl
  | 5, _ => rfl
theorem mix0_zero : mix0 0 = 10 := rfl
theorem mix0_many {n : Nat} (h : 8 < n) : mix0 n = 8 := by
  unfold mix0
  rw [show decide (0 < n) = true by simp; omega, show decide ((n : Int) ≤ 8) = false by simp; omega]
  rfl
set_option maxRecDepth 100000 in
set_option maxHeartbeats 2000000 in
theorem mixes_all (sa : Option Addr) (n cp b off : Nat) (f : Nat → Nat → Int) (w : World) (hsa : 0 < n → sa = some ⟨b, off, none⟩) (hz : sa = none → n = 0 ∧ cp = 0) (hc : ∀ i j, i < n → j < 6 → w.cell? ⟨b, off + i * 6 + j, none⟩ = some (.int .i64 (f i j)) ∧ (Lit.int .i64 (f i j)).wf = true) :
    Calls Try.prog 3 #[.slice sa n cp] w fun e w' => e = .returned (.bool true) ∧ Below w.heap.size w w' := by
  by_cases hm : 10 < n
  · exact mixes_many sa n cp b off f w hsa hz awake_any hm
  have hcl : ∀ i j, i < n → j < 6 → w.cell? ⟨b, off + i * 6 + j, none⟩ = some (.int .i64 (f i j)) := fun i j hi hj => (hc i j hi hj).1
  by_cases h0 : n = 0
  · have h1 : ((n : Int) == 0) = true := by simp [h0]
    refine mixes_of sa n cp b off f w hsa hz hcl 0 0 0 0 0 0 10 awake_any (by omega) ?_ ?_
    · intro sb cb g W _ _
      have := mixed_none sb n cb W (by rw [h0]; rfl)
      rw [h0, mix0_zero] at this
      rw [h0]
      exact this
    · intro W _
      exact rmixed_zero sa n cp W h1
  have h1 : ((n : Int) == 0) = false := by simp; omega
  by_cases h8 : 8 < n
  · refine mixes_of sa n cp b off f w hsa hz hcl 0 0 0 0 0 0 8 awake_any (by omega) ?_ ?_
    · intro sb cb g W _ _
      have := mixed_none sb n cb W (by rw [mix0_many h8]; rfl)
      rw [mix0_many h8] at this
      exact this
    · intro W _
      exact rmixed_many sa n cp W h1 (by omega)
  obtain ⟨z0, z1, z2, z3, z4, z5, ef, hf⟩ := mixR_form (wnOf f) n
  refine mixes_of sa n cp b off f w hsa hz hcl z0 z1 z2 z3 z4 z5 ef awake_any (by omega) ?_ ?_
  · intro sb cb g W hsb hcb
    obtain rfl := hsb (by omega)
    have := mixed_some (wnOf f) g 0 n cb W (by omega) (by omega) (fun i j hi hj => by rw [wnOf_at f i j hj]; exact hcb i j hi hj)
    rw [hf] at this
    exact this
  · intro W hB
    obtain rfl := hsa (by omega)
    have := rmixed_some (wnOf f) b off n cp W (by omega) (by omega) (fun i j hi hj => by rw [wnOf_at f i j hj]; exact keepC hB (hcl i j hi hj))
    rw [hf] at this
    exact this
theorem florMixes_holds : Rows.FlorMixesSaid :=
  FlorMixes.over (fun sa n cp b off f w _ hsa hz _ _ hc => mixes_all sa n cp b off f w hsa hz hc)
end Go.Proofs.Ytbijhcoloajjaaa
