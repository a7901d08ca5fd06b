/- Contract of the reference of chapter 3: Drawn. -/
import Derived.Test.YtlmnhlmgbcpclaaR2
namespace Go.Proofs.Ytlmnhlmgbcpclaa
open Go.RowKit

theorem firstE_zero {a b c : Int} : firstE a b c = 0 ↔ a = 0 ∧ b = 0 ∧ c = 0 := by
  unfold firstE
  by_cases ha : a = 0 <;> by_cases hb : b = 0 <;> simp [ha, hb]
theorem rangeE_zero {lo hi most : Int} : rangeE lo hi most = 0 ↔ 0 ≤ lo ∧ lo ≤ hi ∧ hi ≤ most := by
  unfold rangeE
  constructor
  · intro h
    split at h
    · rename_i hc
      simp only [Bool.and_eq_true, inB_iff] at hc
      split at h
      · omega
      · omega
    · omega
  · intro h
    rw [if_pos (by simp only [Bool.and_eq_true, inB_iff]; omega), if_neg (by omega)]
theorem wineE_zero {v0 v1 s0 s1 c0 c1 : Int} : wineE v0 v1 s0 s1 c0 c1 = 0 ↔ (0 ≤ v0 ∧ v0 ≤ v1 ∧ v1 ≤ 100000) ∧ (0 ≤ s0 ∧ s0 ≤ s1 ∧ s1 ≤ 10000) ∧ (0 ≤ c0 ∧ c0 ≤ c1 ∧ c1 ≤ 100000) := by
  rw [wineE, firstE_zero, rangeE_zero, rangeE_zero, rangeE_zero]
theorem newHeld {Wp w1 : World} {cs : Array Value} {t : TypeId} (hb : Below (Wp.alloc (.cells cs t)).heap.size (Wp.alloc (.cells cs t)) w1) (i : Nat) (v : Value) (hv : cs[i]? = some v) :
    w1.cell? ⟨Wp.heap.size, i, none⟩ = some v ∧ w1.frozen? ⟨Wp.heap.size, i, none⟩ = false := by
  have h1 : (Wp.alloc (.cells cs t)).cell? ⟨Wp.heap.size, i, none⟩ = some v := by simp [World.cell?_alloc_new, hv]
  refine ⟨keepC hb h1, ?_⟩
  rw [hb.frozen (World.block_lt_of_cell? _ _ h1)]
  exact World.frozen?_alloc_at (w := Wp) cs t _ i rfl
def drA (v0 v1 s0 s1 c0 c1 u0 u1 : Int) : Int := firstE (wineE v0 v1 s0 s1 c0 c1) (rangeE u0 u1 100000) 0
end Go.Proofs.Ytlmnhlmgbcpclaa
