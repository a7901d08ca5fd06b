/- Structs of int pairs as arguments: how they read. -/
import Derived.Test.YtcpkoapkmjcigaaRows
import Derived.WalkKit
import Derived.ProofKit
import Derived.OpenShut
import Derived.Lib.SmallJoins
import Derived.Deep.Strs
namespace Go.Proofs.Ytcpkoapkmjcigaa
open Go.ChangeShapes Go.WideShapes Go.ChangeAt Go.RowKit

theorem own : ownKnob Try.prog.godebug = none := by kernel_rfl
theorem laidOut : laidOutB Try.prog = true := by kernel_rfl
theorem cellsInt : Try.prog.cellsOf 3 = 1 := by kernel_rfl
theorem cellsRange : Try.prog.cellsOf 23 = 2 := by kernel_rfl
theorem cellsWine : Try.prog.cellsOf 25 = 6 := by kernel_rfl
theorem cellsRate : Try.prog.cellsOf 27 = 4 := by kernel_rfl

section
variable {H : Type} {enc : TypeId × Value → H} {w : World} {base : Nat} {spare : Nat → Bool} {held : Bool}

theorem read_int {n : Nat} {cs : List Value} {y : DataW H × List MemPlace} (h : DataW.trod enc Try.prog w base spare held n 3 cs = some y) :
    ∃ a, cs = [.int .i64 a] ∧ (Lit.int .i64 a).wf = true := by
  obtain ⟨a, e, _, wa⟩ := DataW.trod_int Try.underlying3 h
  exact ⟨a, e, wa⟩
theorem read_range {n : Nat} {cs : List Value} {y : DataW H × List MemPlace} (h : DataW.trod enc Try.prog w base spare held n 23 cs = some y) :
    ∃ a b, cs = [.int .i64 a, .int .i64 b] ∧ (Lit.int .i64 a).wf = true ∧ (Lit.int .i64 b).wf = true := by
  obtain ⟨y0, y1, m, _, hl, h0, h1⟩ := trod_struct2 Try.underlying23 h
  rw [cellsRange] at hl
  rw [cellsInt] at h0 h1
  match cs, hl with
  | [c0, c1], _ =>
    obtain ⟨a, e0, wa⟩ := read_int h0
    obtain ⟨b, e1, wb⟩ := read_int h1
    simp at e0 e1
    subst e0 e1
    exact ⟨a, b, rfl, wa, wb⟩
theorem read_two {n T : Nat} {f0 f1 : Field} {cs : List Value} {y : DataW H × List MemPlace} (hT : Try.prog.underlying T = some (.struct #[f0, f1])) (hc : Try.prog.cellsOf T = 4) (t0 : f0.type = 23) (t1 : f1.type = 23) (o0 : f0.offset = 0) (o1 : f1.offset = 2)
    (h : DataW.trod enc Try.prog w base spare held n T cs = some y) :
    ∃ a b c d, cs = [.int .i64 a, .int .i64 b, .int .i64 c, .int .i64 d] ∧ (Lit.int .i64 a).wf = true ∧ (Lit.int .i64 b).wf = true ∧ (Lit.int .i64 c).wf = true ∧ (Lit.int .i64 d).wf = true := by
  obtain ⟨y0, y1, m, _, hl, h0, h1⟩ := trod_struct2 hT h
  rw [hc] at hl
  rw [t0, o0, cellsRange] at h0
  rw [t1, o1, cellsRange] at h1
  match cs, hl with
  | [c0, c1, c2, c3], _ =>
    obtain ⟨a, b, e0, wa, wb⟩ := read_range h0
    obtain ⟨c, d, e1, wc, wd⟩ := read_range h1
    simp at e0 e1
    obtain ⟨rfl, rfl⟩ := e0
    obtain ⟨rfl, rfl⟩ := e1
    exact ⟨a, b, c, d, rfl, wa, wb, wc, wd⟩
theorem read_wine {n : Nat} {cs : List Value} {y : DataW H × List MemPlace} (h : DataW.trod enc Try.prog w base spare held n 25 cs = some y) :
    ∃ a b c d e f, cs = [.int .i64 a, .int .i64 b, .int .i64 c, .int .i64 d, .int .i64 e, .int .i64 f] ∧ (Lit.int .i64 a).wf = true ∧ (Lit.int .i64 b).wf = true ∧ (Lit.int .i64 c).wf = true ∧ (Lit.int .i64 d).wf = true ∧ (Lit.int .i64 e).wf = true ∧ (Lit.int .i64 f).wf = true := by
  obtain ⟨y0, y1, y2, m, _, hl, h0, h1, h2⟩ := Deep.trod_struct3 Try.underlying25 h
  rw [cellsWine] at hl
  rw [cellsRange] at h0 h1 h2
  match cs, hl with
  | [c0, c1, c2, c3, c4, c5], _ =>
    obtain ⟨a, b, e0, wa, wb⟩ := read_range h0
    obtain ⟨c, d, e1, wc, wd⟩ := read_range h1
    obtain ⟨e, f, e2, we, wf⟩ := read_range h2
    simp at e0 e1 e2
    obtain ⟨rfl, rfl⟩ := e0
    obtain ⟨rfl, rfl⟩ := e1
    obtain ⟨rfl, rfl⟩ := e2
    exact ⟨a, b, c, d, e, f, rfl, wa, wb, wc, wd, we, wf⟩
theorem read_pair {n T : Nat} {f0 f1 : Field} {cs : List Value} {y : DataW H × List MemPlace} (hT : Try.prog.underlying T = some (.struct #[f0, f1])) (hc : Try.prog.cellsOf T = 2) (t0 : f0.type = 3) (t1 : f1.type = 3) (o0 : f0.offset = 0) (o1 : f1.offset = 1)
    (h : DataW.trod enc Try.prog w base spare held n T cs = some y) :
    ∃ a b, cs = [.int .i64 a, .int .i64 b] ∧ (Lit.int .i64 a).wf = true ∧ (Lit.int .i64 b).wf = true := by
  obtain ⟨y0, y1, m, _, hl, h0, h1⟩ := trod_struct2 hT h
  rw [hc] at hl
  rw [t0, o0, cellsInt] at h0
  rw [t1, o1, cellsInt] at h1
  match cs, hl with
  | [c0, c1], _ =>
    obtain ⟨a, e0, wa⟩ := read_int h0
    obtain ⟨b, e1, wb⟩ := read_int h1
    simp at e0 e1
    subst e0 e1
    exact ⟨a, b, rfl, wa, wb⟩
end
/-- a struct by value is its cells -/
theorem agg_of {P : Program} {w : World} {r : Reach} {base T : Nat} {fs : Array Field} {v : Value} (hT : P.underlying T = some (.struct fs)) (h : Value.okWide P w r base T v) : ∃ cs, v = .agg cs := by
  obtain ⟨cs, e, _⟩ := okWide_struct hT h
  exact ⟨cs, e⟩
end Go.Proofs.Ytcpkoapkmjcigaa
