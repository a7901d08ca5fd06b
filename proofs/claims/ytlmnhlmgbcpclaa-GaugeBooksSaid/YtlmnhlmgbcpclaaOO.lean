import Derived.Test.YtlmnhlmgbcpclaaRows
import Derived.WalkKit
import Derived.ProofKit
import Derived.OpenShut
import Derived.Lib.SmallJoins
import Derived.Deep.Strs
import Derived.Deep.Slices
/- Structs of int pairs as arguments: how they read. -/
namespace Go.Proofs.Ytlmnhlmgbcpclaa
open Go.ChangeShapes Go.WideShapes Go.ChangeAt Go.RowKit

theorem own : ownKnob Try.prog.godebug = none := by kernel_rfl
theorem laidOut : laidOutB Try.prog = true := by kernel_rfl
theorem cellsInt : Try.prog.cellsOf 3 = 1 := by kernel_rfl
theorem cellsRange : Try.prog.cellsOf 23 = 2 := by kernel_rfl
section
variable {H : Type} {enc : TypeId × Value → H} {w : World} {base : Nat} {spare : Nat → Bool} {held : Bool}

theorem read_int {n : Nat} {cs : List Value} {y : DataW H × List MemPlace} (h : DataW.trod enc Try.prog w base spare held n 3 cs = some y) :
    ∃ a, cs = [.int .i64 a] ∧ (Lit.int .i64 a).wf = true := by
  obtain ⟨a, e, _, wa⟩ := DataW.trod_int Try.underlying3 h
  exact ⟨a, e, wa⟩
theorem read_range {n : Nat} {cs : List Value} {y : DataW H × List MemPlace} (h : DataW.trod enc Try.prog w base spare held n 23 cs = some y) :
    ∃ a b, cs = [.int .i64 a, .int .i64 b] ∧ (Lit.int .i64 a).wf = true ∧ (Lit.int .i64 b).wf = true := by
  obtain ⟨y0, y1, m, _, hl, h0, h1⟩ := trod_struct2 Try.underlying23 h
  rw [cellsRange] at hl
  rw [cellsInt] at h0 h1
  match cs, hl with
  | [c0, c1], _ =>
    obtain ⟨a, e0, wa⟩ := read_int h0
    obtain ⟨b, e1, wb⟩ := read_int h1
    simp at e0 e1
    subst e0 e1
    exact ⟨a, b, rfl, wa, wb⟩
theorem read_two {n T : Nat} {f0 f1 : Field} {cs : List Value} {y : DataW H × List MemPlace} (hT : Try.prog.underlying T = some (.struct #[f0, f1])) (hc : Try.prog.cellsOf T = 4) (t0 : f0.type = 23) (t1 : f1.type = 23) (o0 : f0.offset = 0) (o1 : f1.offset = 2)
    (h : DataW.trod enc Try.prog w base spare held n T cs = some y) :
    ∃ a b c d, cs = [.int .i64 a, .int .i64 b, .int .i64 c, .int .i64 d] ∧ (Lit.int .i64 a).wf = true ∧ (Lit.int .i64 b).wf = true ∧ (Lit.int .i64 c).wf = true ∧ (Lit.int .i64 d).wf = true := by
  obtain ⟨y0, y1, m, _, hl, h0, h1⟩ := trod_struct2 hT h
  rw [hc] at hl
  rw [t0, o0, cellsRange] at h0
  rw [t1, o1, cellsRange] at h1
  match cs, hl with
  | [c0, c1, c2, c3], _ =>
    obtain ⟨a, b, e0, wa, wb⟩ := read_range h0
    obtain ⟨c, d, e1, wc, wd⟩ := read_range h1
    simp at e0 e1
    obtain ⟨rfl, rfl⟩ := e0
    obtain ⟨rfl, rfl⟩ := e1
    exact ⟨a, b, c, d, rfl, wa, wb, wc, wd⟩
theorem read_pair {n T : Nat} {f0 f1 : Field} {cs : List Value} {y : DataW H × List MemPlace} (hT : Try.prog.underlying T = some (.struct #[f0, f1])) (hc : Try.prog.cellsOf T = 2) (t0 : f0.type = 3) (t1 : f1.type = 3) (o0 : f0.offset = 0) (o1 : f1.offset = 1)
    (h : DataW.trod enc Try.prog w base spare held n T cs = some y) :
    ∃ a b, cs = [.int .i64 a, .int .i64 b] ∧ (Lit.int .i64 a).wf = true ∧ (Lit.int .i64 b).wf = true := by
  obtain ⟨y0, y1, m, _, hl, h0, h1⟩ := trod_struct2 hT h
  rw [hc] at hl
  rw [t0, o0, cellsInt] at h0
  rw [t1, o1, cellsInt] at h1
  match cs, hl with
  | [c0, c1], _ =>
    obtain ⟨a, e0, wa⟩ := read_int h0
    obtain ⟨b, e1, wb⟩ := read_int h1
    simp at e0 e1
    subst e0 e1
    exact ⟨a, b, rfl, wa, wb⟩
end
/-- a struct by value is its cells -/
theorem agg_of {P : Program} {w : World} {r : Reach} {base T : Nat} {fs : Array Field} {v : Value} (hT : P.underlying T = some (.struct fs)) (h : Value.okWide P w r base T v) : ∃ cs, v = .agg cs := by
  obtain ⟨cs, e, _⟩ := okWide_struct hT h
  exact ⟨cs, e⟩
end Go.Proofs.Ytlmnhlmgbcpclaa

/- What lies at a cell of an argument of whatever struct or array type: a leaf of the type, read. -/
namespace Go.Proofs.Ytlmnhlmgbcpclaa
open Go.ChangeShapes Go.WideShapes Go.ChangeAt Go.RowKit

/-- the type of the leaf that lies at the cell j of a value of a type -/
def leafOf (P : Program) : Nat → TypeId → Nat → Option TypeId
  | 0, _, _ => none
  | k + 1, T, j => match P.underlying T with
    | some (.struct fs) => fs.toList.findSome? fun f => if f.offset ≤ j ∧ j < f.offset + P.cellsOf f.type then leafOf P k f.type (j - f.offset) else none
    | some (.array n e) => if j < n * P.cellsOf e then leafOf P k e (j % P.cellsOf e) else none
    | some (.int _) => if j = 0 then some T else none
    | some .string => if j = 0 then some T else none
    | some .bool => if j = 0 then some T else none
    | some (.slice _) => if j = 0 then some T else none
    | _ => none
section
variable {H : Type} {enc : TypeId × Value → H} {P : Program} {w : World} {base : Nat} {spare : Nat → Bool} {held : Bool}
theorem leaf_read : ∀ (k : Nat) {T j L fuel : Nat} {cs : List Value} {y : DataW H × List MemPlace}, leafOf P k T j = some L → DataW.trod enc P w base spare held fuel T cs = some y →
    ∃ v m y', cs[j]? = some v ∧ DataW.trod enc P w base spare held m L [v] = some y'
  | 0, _, _, _, _, _, _, h, _ => by simp [leafOf] at h
  | k + 1, T, j, L, fuel, cs, y, h, hy => by
    unfold leafOf at h
    split at h
    · rename_i fs hT
      obtain ⟨f, hf, hh⟩ := List.exists_of_findSome?_eq_some h
      split at hh
      case isFalse => cases hh
      rename_i hc
      obtain ⟨xs, n, _, _, hl, hlen, hall⟩ := DataW.trod_struct hT hy
      obtain ⟨i, hi⟩ := List.getElem?_of_mem hf
      rw [Array.getElem?_toList] at hi
      have hlt : i < xs.length := by rw [hlen]; exact (Array.getElem?_eq_some_iff.1 hi).1
      have h1 := hall i f hi
      rw [List.getElem?_eq_getElem hlt] at h1
      obtain ⟨v, m, y', h2, h3⟩ := leaf_read k hh h1
      refine ⟨v, m, y', ?_, h3⟩
      rw [List.getElem?_take, List.getElem?_drop] at h2
      split at h2
      · rwa [show f.offset + (j - f.offset) = j by omega] at h2
      · cases h2
    · rename_i n e hT
      split at h
      case isFalse => cases h
      rename_i hc
      obtain ⟨xs, m0, _, _, hl, hlen, hall⟩ := DataW.trod_array hT hy
      have hpos : 0 < P.cellsOf e := by rcases Nat.eq_zero_or_pos (P.cellsOf e) with hz | hz; · rw [hz, Nat.mul_zero] at hc; omega
                                        · exact hz
      have hq : j / P.cellsOf e < n := Nat.div_lt_of_lt_mul (by rwa [Nat.mul_comm] at hc)
      have h1 := hall _ hq
      rw [List.getElem?_eq_getElem (by rw [hlen]; exact hq)] at h1
      obtain ⟨v, m, y', h2, h3⟩ := leaf_read k h h1
      refine ⟨v, m, y', ?_, h3⟩
      rw [List.getElem?_take, List.getElem?_drop] at h2
      split at h2
      · rwa [show j / P.cellsOf e * P.cellsOf e + j % P.cellsOf e = j by rw [Nat.mul_comm]; exact Nat.div_add_mod _ _] at h2
      · cases h2
    · rename_i hT
      split at h
      case isFalse => cases h
      rename_i hj
      subst hj
      cases h
      obtain ⟨n, rfl, _, _⟩ := DataW.trod_int hT hy
      exact ⟨_, _, _, rfl, hy⟩
    · rename_i hT
      split at h
      case isFalse => cases h
      rename_i hj
      subst hj
      cases h
      obtain ⟨n, rfl, _, _⟩ := DataW.trod_string hT hy
      exact ⟨_, _, _, rfl, hy⟩
    · rename_i hT
      split at h
      case isFalse => cases h
      rename_i hj
      subst hj
      cases h
      obtain ⟨n, rfl, _⟩ := DataW.trod_bool hT hy
      exact ⟨_, _, _, rfl, hy⟩
    · rename_i e hT
      split at h
      case isFalse => cases h
      rename_i hj
      subst hj
      cases h
      rcases DataW.trod_slice hT hy with ⟨rfl, _⟩ | ⟨a, len, cap, elems, rest, n, _, rfl, _⟩
      · exact ⟨_, _, _, rfl, hy⟩
      · exact ⟨_, _, _, rfl, hy⟩
    · cases h
/-- a leaf that is an int -/
theorem leaf_int {T j fuel : Nat} {cs : List Value} {y : DataW H × List MemPlace} {v : Value} (k L : Nat) (hk : leafOf P k T j = some L) (hL : P.underlying L = some (.int .i64)) (h : DataW.trod enc P w base spare held fuel T cs = some y) (hv : cs[j]? = some v) :
    ∃ n, v = .int .i64 n ∧ (Lit.int .i64 n).wf = true := by
  obtain ⟨u, m, y', h1, h2⟩ := leaf_read k hk h
  obtain ⟨n, e, _, wf⟩ := DataW.trod_int hL h2
  rw [h1] at hv
  cases hv
  cases e
  exact ⟨n, rfl, wf⟩
end
end Go.Proofs.Ytlmnhlmgbcpclaa

/- A slice of structs of ints that came in: its cells. -/
namespace Go.Proofs.Ytlmnhlmgbcpclaa
open Go.ChangeShapes Go.WideShapes Go.ChangeAt Go.RowKit Go.Deep

section
variable {H : Type} {enc : TypeId × Value → H} {P : Program} {w : World} {base : Nat} {spare : Nat → Bool} {held : Bool}
theorem spot_none {a : Addr} {v : Value} (h : w.cell? a = some v) : a.spot = none := by
  unfold World.cell? at h
  split at h
  · split at h
    · cases h
    · rename_i hs; simpa using hs
  · cases h
theorem slice_ints {t e c fuel : Nat} {cs : List Value} {x : DataW H × List MemPlace} (ht : P.underlying t = some (.slice e)) (hc : P.cellsOf e = c) (hpos : 0 < c) (k : Nat)
    (hl : ∀ j, j < c → ∃ L, leafOf P k e j = some L ∧ P.underlying L = some (.int .i64)) (h : DataW.trod enc P w base spare held fuel t cs = some x) :
    ∃ (sa : Option Addr) (len cap b off : Nat) (f : Nat → Nat → Int), cs = [.slice sa len cap] ∧ (0 < len → sa = some ⟨b, off, none⟩) ∧ (sa = none → len = 0 ∧ cap = 0) ∧ len ≤ cap ∧ cap ≤ maxLen ∧
      ∀ i j, i < len → j < c → w.cell? ⟨b, off + i * c + j, none⟩ = some (.int .i64 (f i j)) ∧ (Lit.int .i64 (f i j)).wf = true := by
  rcases open_slice ht h with ⟨rfl, _⟩ | ⟨a, len, cap, m, n, D, Pl, rfl, hb, hl1, hm, hmm, _, hx⟩
  · exact ⟨none, 0, 0, 0, 0, fun _ _ => 0, rfl, fun h => absurd h (by decide), fun _ => ⟨rfl, rfl⟩, Nat.le_refl _, Nat.zero_le _, fun i j hi => absurd hi (Nat.not_lt_zero _)⟩
  · have each : ∀ i j, i < len → j < c → ∃ z, w.cell? ((a.add (i * c)).add j) = some (.int .i64 z) ∧ (Lit.int .i64 z).wf = true := by
      intro i j hi hj
      obtain ⟨cs', h1, h2⟩ := hx i (by rw [hmm]; split <;> omega)
      rw [hc] at h1
      obtain ⟨_, hlen, hcell⟩ := World.cells?_some h1
      obtain ⟨L, hL1, hL2⟩ := hl j hj
      have hlt : j < cs'.length := by omega
      obtain ⟨z, hz, wf⟩ := leaf_int k L hL1 hL2 h2 (List.getElem?_eq_getElem hlt)
      exact ⟨z, by rw [hcell j hj, List.getElem?_eq_getElem hlt, hz], wf⟩
    have hsp : 0 < len → a = ⟨a.block, a.off, none⟩ := fun h0 => by
      obtain ⟨z, hz, _⟩ := each 0 0 h0 hpos
      have : w.cell? a = some (.int .i64 z) := by simpa [Addr.add] using hz
      have hs := spot_none this
      cases a; simp at hs; simp [hs]
    refine ⟨some a, len, cap, a.block, a.off, fun i j => if h : i < len ∧ j < c then (each i j h.1 h.2).choose else 0, rfl, fun h0 => congrArg some (hsp h0), fun h => (nomatch h), hl1, hm, fun i j hi hj => ?_⟩
    have hz := (each i j hi hj).choose_spec
    have ha := hsp (by omega)
    have hq : (a.add (i * c)).add j = ⟨a.block, a.off + i * c + j, none⟩ := by rw [ha, Addr.add_lit, Addr.add_lit]
    show w.cell? _ = some (.int .i64 (if h : i < len ∧ j < c then (each i j h.1 h.2).choose else 0)) ∧ (Lit.int .i64 (if h : i < len ∧ j < c then (each i j h.1 h.2).choose else 0)).wf = true
    rw [dif_pos ⟨hi, hj⟩, ← hq]
    exact hz
end
end Go.Proofs.Ytlmnhlmgbcpclaa
