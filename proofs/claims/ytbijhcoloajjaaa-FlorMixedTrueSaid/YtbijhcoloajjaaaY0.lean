/- The reference's CopyWines. -/
import Derived.Test.YtbijhcoloajjaaaZD
import Derived.WalkKit
import Derived.OwnWalk
import Derived.Laws.OwnMore
import Derived.Deep.AppendLies
import Derived.ArgAppend
namespace Go.Proofs.Ytbijhcoloajjaaa
open Go.RowKit

theorem copyWines_anyInfo : (Try.prog.info? 27).map (fun i => (i.zero, i.size, i.bytes)) = some (some (.agg #[.int .i64 0, .int .i64 0, .int .i64 0, .int .i64 0, .int .i64 0, .int .i64 0]), 6, 48) := by kernel_rfl
theorem copyWines_any (sa : Option Addr) (n cp b off : Nat) (f : Nat → Nat → Int) (w : World) (hsa : 0 < n → sa = some ⟨b, off, none⟩) (hz : sa = none → n = 0 ∧ cp = 0) (hn : n ≤ 1000)
    (hc : ∀ i j, i < n → j < 6 → w.cell? ⟨b, off + i * 6 + j, none⟩ = some (.int .i64 (f i j))) :
    Calls Try.prog 10 #[.slice sa n cp] w fun e w' => (∃ (sb : Option Addr) (cb g : Nat), e = .returned (.slice sb n cb) ∧ (0 < n → sb = some ⟨g, 0, none⟩) ∧ ∀ i j, i < n → j < 6 → w'.cell? ⟨g, 0 + i * 6 + j, none⟩ = some (.int .i64 (f i j))) ∧ Below w.heap.size w w' := by
  obtain ⟨i0, hi, hz0, hz1, hz2⟩ := info_parts copyWines_anyInfo
  have HC := Lib.hid hc
  clear hc
  by_cases h0 : 0 < n
  · obtain rfl := hsa h0
    go_enter Try.func10, Try.ntmps10
    go_wp2_with (at_builtin; refine wpList_append_grows _ rfl (.tmp 3) (.tmp 4) 22 rfl 27 i0 (.agg #[.int .i64 0, .int .i64 0, .int .i64 0, .int .i64 0, .int .i64 0, .int .i64 0]) 6 48 Try.underlying22 hi hz0 hz1 hz2 rfl (by decide) (some ⟨w.heap.size, 0, none⟩) 0 0 [] rfl (fun h => by cases h) rfl (by intro _ _ _ _ h; simp at h) ⟨b, off, none⟩ n cp ((List.range (n * 6)).map fun t => Value.int .i64 (f (t / 6) (t % 6))) rfl (by simp) ?c1 ?c2 (by omega) (by unfold maxLen; omega) (by omega) ?grow)
    case c1 =>
      intro j u hj
      have hl : j < n * 6 := by have := (List.getElem?_eq_some_iff.1 hj).1; simpa using this
      rw [List.getElem?_range hl] at hj
      obtain rfl := Option.some.inj hj
      have := HC.out (j / 6) (j % 6) (by omega) (by omega)
      rw [show off + j / 6 * 6 + j % 6 = off + j by omega] at this
      exact keepC ((Below.refl _ w).alloc (Nat.le_refl _) _) this
    case c2 =>
      intro u hu
      rfl
    case grow =>
      intro v' w' hown hgrow
      obtain ⟨g, cb, rfl⟩ : ∃ g cap, v' = .slice (some ⟨g, 0, none⟩) n cap := by
        rcases hown.2 with ⟨_, h⟩ | ⟨g, cap, _, e, _⟩
        · omega
        · exact ⟨g, cap, e⟩
      go_wp2
      go_ret
      refine ⟨⟨_, _, g, rfl, fun _ => rfl, fun i j hi hj => ?_⟩, ?_⟩
      · have hl : i * 6 + j < n * 6 := by omega
        rw [Nat.zero_add, hown.cellAt _ hl, List.getElem?_map, List.getElem?_range hl]
        show some (Value.int .i64 (f ((i * 6 + j) / 6) ((i * 6 + j) % 6))) = _
        rw [show (i * 6 + j) / 6 = i by omega, show (i * 6 + j) % 6 = j by omega]
      · exact ((Below.refl _ w).alloc (Nat.le_refl _) _).grown hgrow (by simp) (fun k e => by cases e)
  · obtain rfl : n = 0 := by omega
    have hown := World.ownsRow_lit (base := w.heap.size) (e := 27) (size := 6) w #[] 0 (Nat.le_refl _) (by decide) rfl
    have hB0 : Below w.heap.size w (w.alloc (.cells #[] 27)) := (Below.refl _ w).alloc (Nat.le_refl _) _
    go_enter Try.func10, Try.ntmps10
    go_wp2_with (at_builtin; refine wpList_append_fits_any _ rfl (.tmp 3) (.tmp 4) 22 rfl w.heap.size 27 i0 6 Try.underlying22 hi hz1 w.heap.size 0 0 [] rfl hown sa 0 cp [] rfl (by simp) hz (by intro _ _ _ _ h; simp at h) (by simp) (by omega) ?grow)
    case grow =>
      intro w' hown' hgrow
      go_wp2
      go_ret
      exact ⟨⟨_, _, 0, rfl, fun h => by omega, fun i j hi => by omega⟩, hB0.grown hgrow hB0.size (fun k e => by cases e; exact Nat.le_refl _)⟩
end Go.Proofs.Ytbijhcoloajjaaa
