/- Small lemmas on worlds, for walks with results that lie in memory. -/
import Derived.Test.YtlmnhlmgbcpclaaD1
namespace Go.Proofs.Ytlmnhlmgbcpclaa
open Go.RowKit
theorem setNone {W : World} {p : Addr} {v : Value} (h : W.cell? p = none) : (W.setCell p v).cell? p = none := by
  cases hc : (W.setCell p v).cell? p with
  | none => rfl
  | some x =>
    exfalso
    simp only [World.setCell, World.cell?, Array.getElem?_modify, ↓reduceIte] at h hc
    cases hh : W.heap[p.block]? with
    | none => simp [hh] at hc
    | some o =>
      cases o <;> simp [hh] at h hc
      cases hs : p.spot with
      | some _ => simp [hs] at hc
      | none =>
        simp [hs] at h hc
        rw [Array.getElem?_setIfInBounds] at hc
        simp [Nat.not_lt.2 h] at hc
theorem setSome {W : World} {p : Addr} {v x : Value} (h : (W.setCell p v).cell? p = some x) : (W.setCell p v).cell? p = some v := by
  cases hc : W.cell? p with
  | none => rw [setNone hc] at h; cases h
  | some u => exact World.cell?_setCell_same _ _ _ hc
theorem setOff {W : World} {b i k : Nat} {v : Value} (h : i ≠ k) : (W.setCell ⟨b, i, none⟩ v).cell? ⟨b, k, none⟩ = W.cell? ⟨b, k, none⟩ :=
  World.cell?_setCell_other _ _ _ _ (by intro e; cases e; exact h rfl)
theorem res2 {W : World} {b : Nat} {x0 u0 : Value} {x1 u1 : Value} (h0 : ((W.setCell ⟨b, 0, none⟩ x0).setCell ⟨b, 1, none⟩ x1).cell? ⟨b, 0, none⟩ = some u0) (h1 : ((W.setCell ⟨b, 0, none⟩ x0).setCell ⟨b, 1, none⟩ x1).cell? ⟨b, 1, none⟩ = some u1) :
    ((W.setCell ⟨b, 0, none⟩ x0).setCell ⟨b, 1, none⟩ x1).cell? ⟨b, 0, none⟩ = some x0 ∧ ((W.setCell ⟨b, 0, none⟩ x0).setCell ⟨b, 1, none⟩ x1).cell? ⟨b, 1, none⟩ = some x1 := by
  refine ⟨?_, ?_⟩
  · rw [setOff (by decide)] at h0 ⊢; exact setSome h0
  · exact setSome h1
theorem res6 {W : World} {b : Nat} {x0 u0 : Value} {x1 u1 : Value} {x2 u2 : Value} {x3 u3 : Value} {x4 u4 : Value} {x5 u5 : Value} (h0 : ((((((W.setCell ⟨b, 0, none⟩ x0).setCell ⟨b, 1, none⟩ x1).setCell ⟨b, 2, none⟩ x2).setCell ⟨b, 3, none⟩ x3).setCell ⟨b, 4, none⟩ x4).setCell ⟨b, 5, none⟩ x5).cell? ⟨b, 0, none⟩ = some u0) (h1 : ((((((W.setCell ⟨b, 0, none⟩ x0).setCell ⟨b, 1, none⟩ x1).setCell ⟨b, 2, none⟩ x2).setCell ⟨b, 3, none⟩ x3).setCell ⟨b, 4, none⟩ x4).setCell ⟨b, 5, none⟩ x5).cell? ⟨b, 1, none⟩ = some u1) (h2 : ((((((W.setCell ⟨b, 0, none⟩ x0).setCell ⟨b, 1, none⟩ x1).setCell ⟨b, 2, none⟩ x2).setCell ⟨b, 3, none⟩ x3).setCell ⟨b, 4, none⟩ x4).setCell ⟨b, 5, none⟩ x5).cell? ⟨b, 2, none⟩ = some u2) (h3 : ((((((W.setCell ⟨b, 0, none⟩ x0).setCell ⟨b, 1, none⟩ x1).setCell ⟨b, 2, none⟩ x2).setCell ⟨b, 3, none⟩ x3).setCell ⟨b, 4, none⟩ x4).setCell ⟨b, 5, none⟩ x5).cell? ⟨b, 3, none⟩ = some u3) (h4 : ((((((W.setCell ⟨b, 0, none⟩ x0).setCell ⟨b, 1, none⟩ x1).setCell ⟨b, 2, none⟩ x2).setCell ⟨b, 3, none⟩ x3).setCell ⟨b, 4, none⟩ x4).setCell ⟨b, 5, none⟩ x5).cell? ⟨b, 4, none⟩ = some u4) (h5 : ((((((W.setCell ⟨b, 0, none⟩ x0).setCell ⟨b, 1, none⟩ x1).setCell ⟨b, 2, none⟩ x2).setCell ⟨b, 3, none⟩ x3).setCell ⟨b, 4, none⟩ x4).setCell ⟨b, 5, none⟩ x5).cell? ⟨b, 5, none⟩ = some u5) :
    ((((((W.setCell ⟨b, 0, none⟩ x0).setCell ⟨b, 1, none⟩ x1).setCell ⟨b, 2, none⟩ x2).setCell ⟨b, 3, none⟩ x3).setCell ⟨b, 4, none⟩ x4).setCell ⟨b, 5, none⟩ x5).cell? ⟨b, 0, none⟩ = some x0 ∧ ((((((W.setCell ⟨b, 0, none⟩ x0).setCell ⟨b, 1, none⟩ x1).setCell ⟨b, 2, none⟩ x2).setCell ⟨b, 3, none⟩ x3).setCell ⟨b, 4, none⟩ x4).setCell ⟨b, 5, none⟩ x5).cell? ⟨b, 1, none⟩ = some x1 ∧ ((((((W.setCell ⟨b, 0, none⟩ x0).setCell ⟨b, 1, none⟩ x1).setCell ⟨b, 2, none⟩ x2).setCell ⟨b, 3, none⟩ x3).setCell ⟨b, 4, none⟩ x4).setCell ⟨b, 5, none⟩ x5).cell? ⟨b, 2, none⟩ = some x2 ∧ ((((((W.setCell ⟨b, 0, none⟩ x0).setCell ⟨b, 1, none⟩ x1).setCell ⟨b, 2, none⟩ x2).setCell ⟨b, 3, none⟩ x3).setCell ⟨b, 4, none⟩ x4).setCell ⟨b, 5, none⟩ x5).cell? ⟨b, 3, none⟩ = some x3 ∧ ((((((W.setCell ⟨b, 0, none⟩ x0).setCell ⟨b, 1, none⟩ x1).setCell ⟨b, 2, none⟩ x2).setCell ⟨b, 3, none⟩ x3).setCell ⟨b, 4, none⟩ x4).setCell ⟨b, 5, none⟩ x5).cell? ⟨b, 4, none⟩ = some x4 ∧ ((((((W.setCell ⟨b, 0, none⟩ x0).setCell ⟨b, 1, none⟩ x1).setCell ⟨b, 2, none⟩ x2).setCell ⟨b, 3, none⟩ x3).setCell ⟨b, 4, none⟩ x4).setCell ⟨b, 5, none⟩ x5).cell? ⟨b, 5, none⟩ = some x5 := by
  refine ⟨?_, ?_, ?_, ?_, ?_, ?_⟩
  · rw [setOff (by decide), setOff (by decide), setOff (by decide), setOff (by decide), setOff (by decide)] at h0 ⊢; exact setSome h0
  · rw [setOff (by decide), setOff (by decide), setOff (by decide), setOff (by decide)] at h1 ⊢; exact setSome h1
  · rw [setOff (by decide), setOff (by decide), setOff (by decide)] at h2 ⊢; exact setSome h2
  · rw [setOff (by decide), setOff (by decide)] at h3 ⊢; exact setSome h3
  · rw [setOff (by decide)] at h4 ⊢; exact setSome h4
  · exact setSome h5
theorem set2 {W : World} {b : Nat} {u0 : Value} {u1 : Value} (h0 : W.cell? ⟨b, 0, none⟩ = some u0) (h1 : W.cell? ⟨b, 1, none⟩ = some u1) (x0 : Value) (x1 : Value) :
    ((W.setCell ⟨b, 0, none⟩ x0).setCell ⟨b, 1, none⟩ x1).cell? ⟨b, 0, none⟩ = some x0 ∧ ((W.setCell ⟨b, 0, none⟩ x0).setCell ⟨b, 1, none⟩ x1).cell? ⟨b, 1, none⟩ = some x1 := by
  refine ⟨?_, ?_⟩
  · rw [setOff (by decide)]; exact World.cell?_setCell_same _ _ _ (by exact h0)
  · exact World.cell?_setCell_same _ _ _ (by rw [setOff (by decide)]; exact h1)
theorem set6 {W : World} {b : Nat} {u0 : Value} {u1 : Value} {u2 : Value} {u3 : Value} {u4 : Value} {u5 : Value} (h0 : W.cell? ⟨b, 0, none⟩ = some u0) (h1 : W.cell? ⟨b, 1, none⟩ = some u1) (h2 : W.cell? ⟨b, 2, none⟩ = some u2) (h3 : W.cell? ⟨b, 3, none⟩ = some u3) (h4 : W.cell? ⟨b, 4, none⟩ = some u4) (h5 : W.cell? ⟨b, 5, none⟩ = some u5) (x0 : Value) (x1 : Value) (x2 : Value) (x3 : Value) (x4 : Value) (x5 : Value) :
    ((((((W.setCell ⟨b, 0, none⟩ x0).setCell ⟨b, 1, none⟩ x1).setCell ⟨b, 2, none⟩ x2).setCell ⟨b, 3, none⟩ x3).setCell ⟨b, 4, none⟩ x4).setCell ⟨b, 5, none⟩ x5).cell? ⟨b, 0, none⟩ = some x0 ∧ ((((((W.setCell ⟨b, 0, none⟩ x0).setCell ⟨b, 1, none⟩ x1).setCell ⟨b, 2, none⟩ x2).setCell ⟨b, 3, none⟩ x3).setCell ⟨b, 4, none⟩ x4).setCell ⟨b, 5, none⟩ x5).cell? ⟨b, 1, none⟩ = some x1 ∧ ((((((W.setCell ⟨b, 0, none⟩ x0).setCell ⟨b, 1, none⟩ x1).setCell ⟨b, 2, none⟩ x2).setCell ⟨b, 3, none⟩ x3).setCell ⟨b, 4, none⟩ x4).setCell ⟨b, 5, none⟩ x5).cell? ⟨b, 2, none⟩ = some x2 ∧ ((((((W.setCell ⟨b, 0, none⟩ x0).setCell ⟨b, 1, none⟩ x1).setCell ⟨b, 2, none⟩ x2).setCell ⟨b, 3, none⟩ x3).setCell ⟨b, 4, none⟩ x4).setCell ⟨b, 5, none⟩ x5).cell? ⟨b, 3, none⟩ = some x3 ∧ ((((((W.setCell ⟨b, 0, none⟩ x0).setCell ⟨b, 1, none⟩ x1).setCell ⟨b, 2, none⟩ x2).setCell ⟨b, 3, none⟩ x3).setCell ⟨b, 4, none⟩ x4).setCell ⟨b, 5, none⟩ x5).cell? ⟨b, 4, none⟩ = some x4 ∧ ((((((W.setCell ⟨b, 0, none⟩ x0).setCell ⟨b, 1, none⟩ x1).setCell ⟨b, 2, none⟩ x2).setCell ⟨b, 3, none⟩ x3).setCell ⟨b, 4, none⟩ x4).setCell ⟨b, 5, none⟩ x5).cell? ⟨b, 5, none⟩ = some x5 := by
  refine ⟨?_, ?_, ?_, ?_, ?_, ?_⟩
  · rw [setOff (by decide)]; rw [setOff (by decide)]; rw [setOff (by decide)]; rw [setOff (by decide)]; rw [setOff (by decide)]; exact World.cell?_setCell_same _ _ _ (by exact h0)
  · rw [setOff (by decide)]; rw [setOff (by decide)]; rw [setOff (by decide)]; rw [setOff (by decide)]; exact World.cell?_setCell_same _ _ _ (by rw [setOff (by decide)]; exact h1)
  · rw [setOff (by decide)]; rw [setOff (by decide)]; rw [setOff (by decide)]; exact World.cell?_setCell_same _ _ _ (by rw [setOff (by decide)]; rw [setOff (by decide)]; exact h2)
  · rw [setOff (by decide)]; rw [setOff (by decide)]; exact World.cell?_setCell_same _ _ _ (by rw [setOff (by decide)]; rw [setOff (by decide)]; rw [setOff (by decide)]; exact h3)
  · rw [setOff (by decide)]; exact World.cell?_setCell_same _ _ _ (by rw [setOff (by decide)]; rw [setOff (by decide)]; rw [setOff (by decide)]; rw [setOff (by decide)]; exact h4)
  · exact World.cell?_setCell_same _ _ _ (by rw [setOff (by decide)]; rw [setOff (by decide)]; rw [setOff (by decide)]; rw [setOff (by decide)]; rw [setOff (by decide)]; exact h5)
end Go.Proofs.Ytlmnhlmgbcpclaa
