/- A measurement as an argument: how it reads. -/
import Derived.Test.YtcpkoapkmjcigaaO1
namespace Go.Proofs.Ytcpkoapkmjcigaa
open Go.ChangeShapes Go.WideShapes Go.ChangeAt Go.RowKit

set_option maxRecDepth 100000 in
theorem cellsMeasure : Try.prog.cellsOf 65 = 7 := by kernel_rfl
section
variable {H : Type} {enc : TypeId × Value → H} {w : World} {base : Nat} {spare : Nat → Bool} {held : Bool}
set_option maxRecDepth 100000 in
theorem read_measure {n : Nat} {cs : List Value} {y : DataW H × List MemPlace} (h : DataW.trod enc Try.prog w base spare held n 65 cs = some y) :
    ∃ z a b c d e f, cs = [.int .i64 z, .int .i64 a, .int .i64 b, .int .i64 c, .int .i64 d, .int .i64 e, .int .i64 f] ∧ (Lit.int .i64 z).wf = true ∧ (Lit.int .i64 a).wf = true ∧ (Lit.int .i64 b).wf = true ∧ (Lit.int .i64 c).wf = true ∧ (Lit.int .i64 d).wf = true ∧ (Lit.int .i64 e).wf = true ∧ (Lit.int .i64 f).wf = true := by
  obtain ⟨y0, y1, m, _, hl, h0, h1⟩ := trod_struct2 Try.underlying65 h
  rw [cellsMeasure] at hl
  rw [cellsInt] at h0
  rw [cellsWine] at h1
  match cs, hl with
  | [c0, c1, c2, c3, c4, c5, c6], _ =>
    obtain ⟨z, e0, wz⟩ := read_int h0
    obtain ⟨a, b, c, d, e, f, e1, wa, wb, wc, wd, we, wf⟩ := read_wine h1
    simp at e0 e1
    subst e0
    obtain ⟨rfl, rfl, rfl, rfl, rfl, rfl⟩ := e1
    exact ⟨z, a, b, c, d, e, f, rfl, wz, wa, wb, wc, wd, we, wf⟩
end
end Go.Proofs.Ytcpkoapkmjcigaa
