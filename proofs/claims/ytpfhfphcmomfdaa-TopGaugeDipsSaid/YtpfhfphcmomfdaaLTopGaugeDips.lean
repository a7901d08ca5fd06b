/- TopGaugeDips: from the walk to the statement. -/
import Derived.Test.YtpfhfphcmomfdaaOO
import Derived.ChangeOld
import Derived.Below
namespace Go.Proofs.Ytpfhfphcmomfdaa.TopGaugeDips
open Go.ChangeShapes Go.WideShapes Go.ChangeAt Go.RowKit
set_option linter.unusedVariables false

set_option maxRecDepth 100000 in
theorem read_cask {H : Type} {enc : TypeId × Value → H} {w : World} {base : Nat} {spare : Nat → Bool} {held : Bool} {n : Nat} {cs : List Value} {y : DataW H × List MemPlace} (h : DataW.trod enc Try.prog w base spare held n 24 cs = some y) :
    ∃ (s : ByteArray) (u : Int) (sa : Option Addr) (len cap b off : Nat) (f : Nat → Nat → Int), cs = [.string s, .int .i64 u, .slice sa len cap] ∧ (Lit.int .i64 u).wf = true ∧ (0 < len → sa = some ⟨b, off, none⟩) ∧
      ∀ i j, i < len → j < 3 → w.cell? ⟨b, off + i * 3 + j, none⟩ = some (.int .i64 (f i j)) ∧ (Lit.int .i64 (f i j)).wf = true := by
  obtain ⟨ys, m, _, _, hl, _, _⟩ := DataW.trod_struct Try.underlying24 h
  rw [show Try.prog.cellsOf 24 = 3 by kernel_rfl] at hl
  match cs, hl, h with
  | [x0, x1, x2], _, h =>
    obtain ⟨v0, m0, y0, e0, t0⟩ := leaf_read 8 (j := 0) (L := 9) (by kernel_rfl) h
    obtain ⟨s, hs, _, _⟩ := DataW.trod_string Try.underlying9 t0
    obtain ⟨u, rfl, wu⟩ := leaf_int (j := 1) 8 3 (by kernel_rfl) Try.underlying3 h rfl
    obtain ⟨v2, m2, y2, e2, t2⟩ := leaf_read 8 (j := 2) (L := 22) (by kernel_rfl) h
    obtain ⟨sa, len, cap, b, off, f, hv, hb, _, _, _, hc⟩ := slice_ints Try.underlying22 (c := 3) (by kernel_rfl) (by decide) 8 (by
      intro j hj
      match j, hj with
      | 0, _ => exact ⟨3, by kernel_rfl, Try.underlying3⟩
      | 1, _ => exact ⟨3, by kernel_rfl, Try.underlying3⟩
      | 2, _ => exact ⟨3, by kernel_rfl, Try.underlying3⟩) t2
    have e0 : x0 = v0 := by simpa using e0
    have e2 : x2 = v2 := by simpa using e2
    have hs : v0 = .string s := by simpa using hs
    have hv : v2 = .slice sa len cap := by simpa using hv
    exact ⟨s, u, sa, len, cap, b, off, f, by rw [e0, e2, hs, hv], wu, hb, hc⟩
def Walk : Prop := ∀ (s : ByteArray) (u dip : Int) (sa la : Option Addr) (n cp b off nl cl b' off' : Nat) (f g : Nat → Nat → Int) (w : World), (0 < n → sa = some ⟨b, off, none⟩) → (0 < nl → la = some ⟨b', off', none⟩) →
    (∀ i j, i < n → j < 3 → w.cell? ⟨b, off + i * 3 + j, none⟩ = some (.int .i64 (f i j)) ∧ (Lit.int .i64 (f i j)).wf = true) →
    (∀ i j, i < nl → j < 3 → w.cell? ⟨b', off' + i * 3 + j, none⟩ = some (.int .i64 (g i j)) ∧ (Lit.int .i64 (g i j)).wf = true) →
    Calls Try.prog 3 #[.agg #[.string s, .int .i64 u, .slice sa n cp], .int .i64 dip, .slice la nl cl] w fun e w' => e = .returned (.bool true) ∧ Below w.heap.size w w'

set_option maxHeartbeats 2000000 in
set_option maxRecDepth 100000 in
theorem lifted (walk : Walk) (os : Os) (started : os.Started) (H : Type) (enc : TypeId × Value → H) :
    ReturnsInHanded {} Try.checked os 3 .any (Rows.topGaugeDipsSpec.pre6 enc Try.prog Try.f3 Rows.topGaugeDipsRow.domain false) (Rows.topGaugeDipsSpec.post enc Try.prog Try.f3 false true false false) := by
  refine returnsInHanded_of_change (C := Try.checked) own started (by kernel_rfl) Try.func3
    (ChangeSpec.witness6 (enc := enc) (C := Try.checked) false ⟨#[], #[.agg #[.string ⟨#[]⟩, .int .i64 0, .slice none 0 0], .int .i64 0, .slice none 0 0], []⟩ 8 (by kernel_rfl) (by kernel_rfl) (by kernel_rfl) (by kernel_rfl)) ?_
  intro W base args ds gs before hval0 hW hcnd _
  have hval : ∀ (j : Nat) t v, Try.f3.params[j]? = some t → args[j]? = some v → Value.okWide Try.prog W .any base t v := hval0
  have hW' := hW
  obtain ⟨p, q, hA0, hV, rfl, hfz, hnd⟩ := hW
  have hA : DataW.TrodAll enc Try.prog W 0 (fun _ => true) true Try.f3.params.toList args.toList ds p := hA0
  rw [Try.params3] at hA hval
  obtain ⟨v0, vs0, d0, ds0, p0, q0, hargs, rfl, rfl, h0, r0⟩ := trodAll_cons hA
  obtain ⟨v1, vs1, d1, ds1, p1, q1, rfl, rfl, rfl, h1, r1⟩ := trodAll_cons r0
  obtain ⟨v2, vs2, d2, ds2, p2, q2, rfl, rfl, rfl, h2, r2⟩ := trodAll_cons r1
  obtain ⟨rfl, rfl, rfl⟩ := trodAll_nil r2
  obtain rfl : args = #[v0, v1, v2] := by cases args; simp_all
  obtain ⟨rfl, rfl⟩ := trodVars_none hV
  obtain ⟨c0, rfl⟩ := agg_of Try.underlying24 (hval 0 24 v0 rfl rfl)
  have k0 := h0
  have lt0 : ∀ x ∈ p0, x.block < W.heap.size := by obtain ⟨m, hm⟩ := k0; exact DataW.trod_lt m _ _ _ hm
  obtain ⟨m0, h0⟩ := h0
  obtain ⟨s, u, sa, n, cp, b, off, f, e0, w0, y0, hc0⟩ := read_cask h0
  obtain rfl : c0 = #[.string s, .int .i64 u, .slice sa n cp] := by cases c0; simp [Value.cells] at e0; simp [e0]
  obtain ⟨dip, rfl, rfl, rfl, w1⟩ := open_int Try.underlying3 (hval 1 3 v1 rfl rfl) h1
  obtain ⟨la, nl, cl, rfl⟩ := okWide_slice Try.underlying25 (hval 2 25 v2 rfl rfl)
  have k2 := h2
  have lt2 : ∀ x ∈ p2, x.block < W.heap.size := by obtain ⟨m, hm⟩ := k2; exact DataW.trod_lt m _ _ _ hm
  obtain ⟨m2, h2⟩ := h2
  obtain ⟨la', nl', cl', b', off', g, hv, y2, _, _, _, hc2⟩ := slice_ints Try.underlying25 (c := 3) (by kernel_rfl) (by decide) 8 (by
      intro j hj
      match j, hj with
      | 0, _ => exact ⟨3, by kernel_rfl, Try.underlying3⟩
      | 1, _ => exact ⟨3, by kernel_rfl, Try.underlying3⟩
      | 2, _ => exact ⟨3, by kernel_rfl, Try.underlying3⟩) h2
  obtain ⟨rfl, rfl, rfl⟩ : la = la' ∧ nl = nl' ∧ cl = cl' := by simpa [Value.cells] using hv
  clear hA0 hval0
  refine (walk s u dip sa la n cp b off nl cl b' off' f g W y0 y2 hc0 hc2).mono fun e W' ⟨he, bel⟩ => ?_
  subst he
  exact ⟨_, rfl, _, _, _, [], _, [], hW', trodAll_mk1 (shut_bool Try.underlying4 _), (trodAll_cons_mk (Below.trod laidOut (by kernel_rfl) (of_decide_eq_true (by kernel_rfl)) k0 bel lt0) (trodAll_cons_mk (shut_int Try.underlying3 w1) (trodAll_cons_mk (Below.trod laidOut (by kernel_rfl) (of_decide_eq_true (by kernel_rfl)) k2 bel lt2) trodAll_mk0))), rfl, bel.frame _, fun h => by cases h⟩

theorem over (walk : Walk) : Rows.TopGaugeDipsSaid :=
  OpenClaim.holds_of_wide 3 Try.f3 rfl rfl rfl rfl rfl rfl rfl ⟨rfl, rfl, rfl, rfl, rfl⟩ rfl rfl rfl rfl rfl (by kernel_rfl) Try.func3 (by kernel_rfl)
    (of_decide_eq_true (by kernel_rfl)) (by unfold Func.isWrapper; first | (rw [if_pos (by decide +kernel)]; kernel_rfl) | (rw [if_neg (by decide +kernel)]; exact ⟨rfl, rfl⟩))
    (fun os started H enc _ => lifted walk os started H enc)
end Go.Proofs.Ytpfhfphcmomfdaa.TopGaugeDips
