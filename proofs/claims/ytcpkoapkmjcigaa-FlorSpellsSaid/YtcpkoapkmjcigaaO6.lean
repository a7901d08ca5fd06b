/- A slice of structs of ints that came in: its cells. -/
import Derived.Test.YtcpkoapkmjcigaaO5
import Derived.Deep.Slices
namespace Go.Proofs.Ytcpkoapkmjcigaa
open Go.ChangeShapes Go.WideShapes Go.ChangeAt Go.RowKit Go.Deep

section
variable {H : Type} {enc : TypeId × Value → H} {P : Program} {w : World} {base : Nat} {spare : Nat → Bool} {held : Bool}
theorem spot_none {a : Addr} {v : Value} (h : w.cell? a = some v) : a.spot = none := by
  unfold World.cell? at h
  split at h
  · split at h
    · cases h
    · rename_i hs; simpa using hs
  · cases h
theorem slice_ints {t e c fuel : Nat} {cs : List Value} {x : DataW H × List MemPlace} (ht : P.underlying t = some (.slice e)) (hc : P.cellsOf e = c) (hpos : 0 < c) (k : Nat)
    (hl : ∀ j, j < c → ∃ L, leafOf P k e j = some L ∧ P.underlying L = some (.int .i64)) (h : DataW.trod enc P w base spare held fuel t cs = some x) :
    ∃ (sa : Option Addr) (len cap b off : Nat) (f : Nat → Nat → Int), cs = [.slice sa len cap] ∧ (0 < len → sa = some ⟨b, off, none⟩) ∧ (sa = none → len = 0 ∧ cap = 0) ∧ len ≤ cap ∧ cap ≤ maxLen ∧
      ∀ i j, i < len → j < c → w.cell? ⟨b, off + i * c + j, none⟩ = some (.int .i64 (f i j)) ∧ (Lit.int .i64 (f i j)).wf = true := by
  rcases open_slice ht h with ⟨rfl, _⟩ | ⟨a, len, cap, m, n, D, Pl, rfl, hb, hl1, hm, hmm, _, hx⟩
  · exact ⟨none, 0, 0, 0, 0, fun _ _ => 0, rfl, fun h => absurd h (by decide), fun _ => ⟨rfl, rfl⟩, Nat.le_refl _, Nat.zero_le _, fun i j hi => absurd hi (Nat.not_lt_zero _)⟩
  · have each : ∀ i j, i < len → j < c → ∃ z, w.cell? ((a.add (i * c)).add j) = some (.int .i64 z) ∧ (Lit.int .i64 z).wf = true := by
      intro i j hi hj
      obtain ⟨cs', h1, h2⟩ := hx i (by rw [hmm]; split <;> omega)
      rw [hc] at h1
      obtain ⟨_, hlen, hcell⟩ := World.cells?_some h1
      obtain ⟨L, hL1, hL2⟩ := hl j hj
      have hlt : j < cs'.length := by omega
      obtain ⟨z, hz, wf⟩ := leaf_int k L hL1 hL2 h2 (List.getElem?_eq_getElem hlt)
      exact ⟨z, by rw [hcell j hj, List.getElem?_eq_getElem hlt, hz], wf⟩
    have hsp : 0 < len → a = ⟨a.block, a.off, none⟩ := fun h0 => by
      obtain ⟨z, hz, _⟩ := each 0 0 h0 hpos
      have : w.cell? a = some (.int .i64 z) := by simpa [Addr.add] using hz
      have hs := spot_none this
      cases a; simp at hs; simp [hs]
    refine ⟨some a, len, cap, a.block, a.off, fun i j => if h : i < len ∧ j < c then (each i j h.1 h.2).choose else 0, rfl, fun h0 => congrArg some (hsp h0), fun h => (nomatch h), hl1, hm, fun i j hi hj => ?_⟩
    have hz := (each i j hi hj).choose_spec
    have ha := hsp (by omega)
    have hq : (a.add (i * c)).add j = ⟨a.block, a.off + i * c + j, none⟩ := by rw [ha, Addr.add_lit, Addr.add_lit]
    show w.cell? _ = some (.int .i64 (if h : i < len ∧ j < c then (each i j h.1 h.2).choose else 0)) ∧ (Lit.int .i64 (if h : i < len ∧ j < c then (each i j h.1 h.2).choose else 0)).wf = true
    rw [dif_pos ⟨hi, hj⟩, ← hq]
    exact hz
end
end Go.Proofs.Ytcpkoapkmjcigaa
