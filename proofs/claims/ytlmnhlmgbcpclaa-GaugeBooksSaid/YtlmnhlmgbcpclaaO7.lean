/- A slice of structs of ints and strings that came in: its cells. -/
import Derived.Test.YtlmnhlmgbcpclaaOO
namespace Go.Proofs.Ytlmnhlmgbcpclaa
open Go.ChangeShapes Go.WideShapes Go.ChangeAt Go.RowKit Go.Deep

section
variable {H : Type} {enc : TypeId × Value → H} {P : Program} {w : World} {base : Nat} {spare : Nat → Bool} {held : Bool}
/-- a cell's value: a string's or a number's -/
def leafV (kd : Bool) (s : ByteArray) (n : Int) : Value := if kd then .string s else .int .i64 n
/-- what a leaf's type is -/
def leafT (P : Program) (L : TypeId) (kd : Bool) : Prop := if kd then P.underlying L = some .string else P.underlying L = some (.int .i64)
theorem leaf_cell {T j fuel : Nat} {cs : List Value} {y : DataW H × List MemPlace} {v : Value} (k L : Nat) (kd : Bool) (hk : leafOf P k T j = some L) (hL : leafT P L kd) (h : DataW.trod enc P w base spare held fuel T cs = some y) (hv : cs[j]? = some v) : ∃ s n, v = leafV kd s n := by
  obtain ⟨u, m, y', h1, h2⟩ := leaf_read k hk h
  rw [h1] at hv
  cases hv
  cases kd with
  | true =>
    obtain ⟨s, e, _⟩ := DataW.trod_string hL h2
    cases e
    exact ⟨s, 0, rfl⟩
  | false =>
    obtain ⟨n, e, _⟩ := DataW.trod_int hL h2
    cases e
    exact ⟨⟨#[]⟩, n, rfl⟩
theorem slice_leaves {t e c fuel : Nat} {cs : List Value} {x : DataW H × List MemPlace} (kd : Nat → Bool) (ht : P.underlying t = some (.slice e)) (hc : P.cellsOf e = c) (hpos : 0 < c) (k : Nat)
    (hl : ∀ j, j < c → ∃ L, leafOf P k e j = some L ∧ leafT P L (kd j)) (h : DataW.trod enc P w base spare held fuel t cs = some x) :
    ∃ (sa : Option Addr) (len cap b off : Nat) (s : Nat → Nat → ByteArray) (f : Nat → Nat → Int), cs = [.slice sa len cap] ∧ (0 < len → sa = some ⟨b, off, none⟩) ∧
      ∀ i j, i < len → j < c → w.cell? ⟨b, off + i * c + j, none⟩ = some (leafV (kd j) (s i j) (f i j)) := by
  rcases open_slice ht h with ⟨rfl, _⟩ | ⟨a, len, cap, m, n, D, Pl, rfl, hb, hl1, hm, hmm, _, hx⟩
  · exact ⟨none, 0, 0, 0, 0, fun _ _ => ⟨#[]⟩, fun _ _ => 0, rfl, fun h => absurd h (by decide), fun i j hi => absurd hi (Nat.not_lt_zero _)⟩
  · have each : ∀ i j, i < len → j < c → ∃ z : ByteArray × Int, w.cell? ((a.add (i * c)).add j) = some (leafV (kd j) z.1 z.2) := by
      intro i j hi hj
      obtain ⟨cs', h1, h2⟩ := hx i (by rw [hmm]; split <;> omega)
      rw [hc] at h1
      obtain ⟨_, hlen, hcell⟩ := World.cells?_some h1
      obtain ⟨L, hL1, hL2⟩ := hl j hj
      have hlt : j < cs'.length := by omega
      obtain ⟨s, z, hz⟩ := leaf_cell k L (kd j) hL1 hL2 h2 (List.getElem?_eq_getElem hlt)
      exact ⟨(s, z), by rw [hcell j hj, List.getElem?_eq_getElem hlt, hz]⟩
    have hsp : 0 < len → a = ⟨a.block, a.off, none⟩ := fun h0 => by
      obtain ⟨z, hz⟩ := each 0 0 h0 hpos
      have : w.cell? a = some (leafV (kd 0) z.1 z.2) := by simpa [Addr.add] using hz
      have hs := spot_none this
      cases a; simp at hs; simp [hs]
    refine ⟨some a, len, cap, a.block, a.off, fun i j => if h : i < len ∧ j < c then (each i j h.1 h.2).choose.1 else ⟨#[]⟩, fun i j => if h : i < len ∧ j < c then (each i j h.1 h.2).choose.2 else 0, rfl, fun h0 => congrArg some (hsp h0), fun i j hi hj => ?_⟩
    have hz := (each i j hi hj).choose_spec
    have ha := hsp (by omega)
    have hq : (a.add (i * c)).add j = ⟨a.block, a.off + i * c + j, none⟩ := by rw [ha, Addr.add_lit, Addr.add_lit]
    show w.cell? _ = some (leafV (kd j) (if h : i < len ∧ j < c then (each i j h.1 h.2).choose.1 else ⟨#[]⟩) (if h : i < len ∧ j < c then (each i j h.1 h.2).choose.2 else 0))
    rw [dif_pos ⟨hi, hj⟩, dif_pos ⟨hi, hj⟩, ← hq]
    exact hz
end
end Go.Proofs.Ytlmnhlmgbcpclaa
