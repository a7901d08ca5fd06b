/- GaugeVolumes of any cask and dip. -/
import Derived.Test.YtpidgcmdimjkoaaRJ
set_option linter.unusedVariables false
set_option linter.unusedSimpArgs false
namespace Go.Proofs.Ytpidgcmdimjkoaa
open Go.RowKit
namespace Sy
open Go.RowKit

theorem winAt_of {b off n : Nat} {g : Nat → Int} {w : World} (h0 : 0 < n) (hx : ∀ k, k < n → w.cell? ⟨b, off + k, none⟩ = some (.int .i64 (g k))) : WinAt b off ((List.range n).map g) w := by
  have h := hx 0 h0
  have hcell : ∃ c e fr, w.heap[b]? = some (.cells c e fr) := by
    unfold World.cell? at h
    split at h
    · rename_i c e fr hb
      exact ⟨c, e, fr, hb⟩
    · cases h
  obtain ⟨c, e, fr, hb⟩ := hcell
  refine ⟨c, e, fr, hb, ?_⟩
  have hc : ∀ k, k < n → c[off + k]? = some (.int .i64 (g k)) := fun k hk => by rw [← cell_of_row w b (off + k) c e fr hb]; exact hx k hk
  apply List.ext_getElem?
  intro i
  rw [List.getElem?_take, List.length_map, List.length_range]
  by_cases hi : i < n
  · rw [if_pos hi, List.getElem?_drop, Array.getElem?_toList, hc i hi]
    simp [hi]
  · rw [if_neg hi, List.getElem?_eq_none (by simp; omega)]
theorem small_N {s : ByteArray} {N : Nat} {bung : Int} (h : smallB s N bung = true) : N = 0 ∨ N = 1 ∨ N = 2 ∨ N = 3 ∨ N = 4 ∨ N = 13 ∨ N = 14 := by
  simp only [smallB, Bool.and_eq_true, Bool.or_eq_true, decide_eq_true_eq] at h
  omega
end Sy
end Go.Proofs.Ytpidgcmdimjkoaa
