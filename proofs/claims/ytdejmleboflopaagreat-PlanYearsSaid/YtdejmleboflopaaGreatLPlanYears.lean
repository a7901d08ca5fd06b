/- PlanYears: from the walk to the statement. -/
import Derived.Test.YtdejmleboflopaaGreatOO
import Derived.ChangeOld
import Derived.Below
namespace Go.Proofs.YtdejmleboflopaaGreat.PlanYears
open Go.ChangeShapes Go.WideShapes Go.ChangeAt Go.RowKit
set_option linter.unusedVariables false

set_option maxRecDepth 100000 in
theorem read_sys {H : Type} {enc : TypeId × Value → H} {w : World} {base : Nat} {spare : Nat → Bool} {held : Bool} {n : Nat} {cs : List Value} {y : DataW H × List MemPlace} (h : DataW.trod enc Tryz.prog w base spare held n 24 cs = some y) :
    ∃ (u : Int) (sa : Option Addr) (len cap b off : Nat) (f : Nat → Nat → Int), cs = [.slice sa len cap, .int .i64 u] ∧ (Lit.int .i64 u).wf = true ∧ (0 < len → sa = some ⟨b, off, none⟩) ∧
      ∀ i j, i < len → j < 4 → w.cell? ⟨b, off + i * 4 + j, none⟩ = some (.int .i64 (f i j)) ∧ (Lit.int .i64 (f i j)).wf = true := by
  obtain ⟨ys, m, _, _, hl, _, _⟩ := DataW.trod_struct Tryz.underlying24 h
  rw [show Tryz.prog.cellsOf 24 = 2 by kernel_rfl] at hl
  match cs, hl, h with
  | [x0, x1], _, h =>
    obtain ⟨u, rfl, wu⟩ := leaf_int (j := 1) 8 3 (by kernel_rfl) Tryz.underlying3 h rfl
    obtain ⟨v2, m2, y2, e2, t2⟩ := leaf_read 8 (j := 0) (L := 22) (by kernel_rfl) h
    obtain ⟨sa, len, cap, b, off, f, hv, hb, _, _, _, hc⟩ := slice_ints Tryz.underlying22 (c := 4) (by kernel_rfl) (by decide) 8 (by
      intro j hj
      match j, hj with
      | 0, _ => exact ⟨3, by kernel_rfl, Tryz.underlying3⟩
      | 1, _ => exact ⟨3, by kernel_rfl, Tryz.underlying3⟩
      | 2, _ => exact ⟨3, by kernel_rfl, Tryz.underlying3⟩
      | 3, _ => exact ⟨3, by kernel_rfl, Tryz.underlying3⟩) t2
    have e2 : x0 = v2 := by simpa using e2
    have hv : v2 = .slice sa len cap := by simpa using hv
    exact ⟨u, sa, len, cap, b, off, f, by rw [e2, hv], wu, hb, hc⟩
def Walk : Prop := ∀ (nw : Int) (sa sb sd : Option Addr) (n cp b off m cb b' off' k cd b'' off'' : Nat) (f g h : Nat → Nat → Int) (w : World), (0 < n → sa = some ⟨b, off, none⟩) → (0 < m → sb = some ⟨b', off', none⟩) → (0 < k → sd = some ⟨b'', off'', none⟩) →
    (∀ i j, i < n → j < 4 → w.cell? ⟨b, off + i * 4 + j, none⟩ = some (.int .i64 (f i j)) ∧ (Lit.int .i64 (f i j)).wf = true) →
    (∀ i j, i < m → j < 2 → w.cell? ⟨b', off' + i * 2 + j, none⟩ = some (.int .i64 (g i j)) ∧ (Lit.int .i64 (g i j)).wf = true) →
    (∀ i j, i < k → j < 1 → w.cell? ⟨b'', off'' + i * 1 + j, none⟩ = some (.int .i64 (h i j)) ∧ (Lit.int .i64 (h i j)).wf = true) →
    Calls Tryz.prog 3 #[.agg #[.slice sa n cp, .int .i64 nw], .slice sb m cb, .slice sd k cd] w fun e w' => e = .returned (.bool true) ∧ Below w.heap.size w w'

set_option maxHeartbeats 2000000 in
set_option maxRecDepth 100000 in
theorem lifted (walk : Walk) (os : Os) (started : os.Started) (H : Type) (enc : TypeId × Value → H) :
    ReturnsInHanded {} Tryz.checked os 3 .any (Rows.planYearsSpec.pre6 enc Tryz.prog Tryz.f3 Rows.planYearsRow.domain false) (Rows.planYearsSpec.post enc Tryz.prog Tryz.f3 false true false false) := by
  refine returnsInHanded_of_change (C := Tryz.checked) own started (by kernel_rfl) Tryz.func3
    (ChangeSpec.witness6 (enc := enc) (C := Tryz.checked) false ⟨#[], #[.agg #[.slice none 0 0, .int .i64 0], .slice none 0 0, .slice none 0 0], []⟩ 8 (by kernel_rfl) (by kernel_rfl) (by kernel_rfl) (by kernel_rfl)) ?_
  intro W base args ds gs before hval0 hW hcnd _
  have hval : ∀ (j : Nat) t v, Tryz.f3.params[j]? = some t → args[j]? = some v → Value.okWide Tryz.prog W .any base t v := hval0
  have hW' := hW
  obtain ⟨p, q, hA0, hV, rfl, hfz, hnd⟩ := hW
  have hA : DataW.TrodAll enc Tryz.prog W 0 (fun _ => true) true Tryz.f3.params.toList args.toList ds p := hA0
  rw [Tryz.params3] at hA hval
  obtain ⟨v0, vs0, d0, ds0, p0, q0, hargs, rfl, rfl, h0, r0⟩ := trodAll_cons hA
  obtain ⟨v1, vs1, d1, ds1, p1, q1, rfl, rfl, rfl, h1, r1⟩ := trodAll_cons r0
  obtain ⟨v2, vs2, d2, ds2, p2, q2, rfl, rfl, rfl, h2, r2⟩ := trodAll_cons r1
  obtain ⟨rfl, rfl, rfl⟩ := trodAll_nil r2
  obtain rfl : args = #[v0, v1, v2] := by cases args; simp_all
  obtain ⟨rfl, rfl⟩ := trodVars_none hV
  obtain ⟨c0, rfl⟩ := agg_of Tryz.underlying24 (hval 0 24 v0 rfl rfl)
  have k0 := h0
  have lt0 : ∀ x ∈ p0, x.block < W.heap.size := by obtain ⟨m, hm⟩ := k0; exact DataW.trod_lt m _ _ _ hm
  obtain ⟨m0, h0⟩ := h0
  obtain ⟨nw, sa, n, cp, b, off, f, e0, w0, y0, hc0⟩ := read_sys h0
  obtain rfl : c0 = #[.slice sa n cp, .int .i64 nw] := by cases c0; simp [Value.cells] at e0; simp [e0]
  obtain ⟨sb, m, cb, rfl⟩ := okWide_slice Tryz.underlying25 (hval 1 25 v1 rfl rfl)
  have k1 := h1
  have lt1 : ∀ x ∈ p1, x.block < W.heap.size := by obtain ⟨m, hm⟩ := k1; exact DataW.trod_lt m _ _ _ hm
  obtain ⟨m1, h1⟩ := h1
  obtain ⟨sb', m', cb', b', off', g, hv, y1, _, _, _, hc1⟩ := slice_ints Tryz.underlying25 (c := 2) (by kernel_rfl) (by decide) 8 (by
      intro j hj
      match j, hj with
      | 0, _ => exact ⟨3, by kernel_rfl, Tryz.underlying3⟩
      | 1, _ => exact ⟨3, by kernel_rfl, Tryz.underlying3⟩) h1
  obtain ⟨rfl, rfl, rfl⟩ : sb = sb' ∧ m = m' ∧ cb = cb' := by simpa [Value.cells] using hv
  obtain ⟨sd, k, cd, rfl⟩ := okWide_slice Tryz.underlying26 (hval 2 26 v2 rfl rfl)
  have k2 := h2
  have lt2 : ∀ x ∈ p2, x.block < W.heap.size := by obtain ⟨m, hm⟩ := k2; exact DataW.trod_lt m _ _ _ hm
  obtain ⟨m2, h2⟩ := h2
  obtain ⟨sd', k', cd', b'', off'', h, hv2, y2, _, _, _, hc2⟩ := slice_ints Tryz.underlying26 (c := 1) (by kernel_rfl) (by decide) 8 (by
      intro j hj
      match j, hj with
      | 0, _ => exact ⟨3, by kernel_rfl, Tryz.underlying3⟩) h2
  obtain ⟨rfl, rfl, rfl⟩ : sd = sd' ∧ k = k' ∧ cd = cd' := by simpa [Value.cells] using hv2
  clear hA0 hval0
  refine (walk nw sa sb sd n cp b off m cb b' off' k cd b'' off'' f g h W y0 y1 y2 hc0 hc1 hc2).mono fun e W' ⟨he, bel⟩ => ?_
  subst he
  exact ⟨_, rfl, _, _, _, [], _, [], hW', trodAll_mk1 (shut_bool Tryz.underlying4 _), (trodAll_cons_mk (Below.trod laidOut (by kernel_rfl) (of_decide_eq_true (by kernel_rfl)) k0 bel lt0) (trodAll_cons_mk (Below.trod laidOut (by kernel_rfl) (of_decide_eq_true (by kernel_rfl)) k1 bel lt1) (trodAll_cons_mk (Below.trod laidOut (by kernel_rfl) (of_decide_eq_true (by kernel_rfl)) k2 bel lt2) trodAll_mk0))), rfl, bel.frame _, fun h => by cases h⟩

theorem over (walk : Walk) : Rows.PlanYearsSaid :=
  OpenClaim.holds_of_wide 3 Tryz.f3 rfl rfl rfl rfl rfl rfl rfl ⟨rfl, rfl, rfl, rfl, rfl⟩ rfl rfl rfl rfl rfl (by kernel_rfl) Tryz.func3 (by kernel_rfl)
    (of_decide_eq_true (by kernel_rfl)) (by unfold Func.isWrapper; first | (rw [if_pos (by decide +kernel)]; kernel_rfl) | (rw [if_neg (by decide +kernel)]; exact ⟨rfl, rfl⟩))
    (fun os started H enc _ => lifted walk os started H enc)
end Go.Proofs.YtdejmleboflopaaGreat.PlanYears
