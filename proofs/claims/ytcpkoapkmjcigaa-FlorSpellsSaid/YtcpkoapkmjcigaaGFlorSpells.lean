/- FOR EVERY INPUT THE LAW FlorSpells ANSWERS TRUE: the program's Over answers as the reference's for every wine and every list of at most 22 spells. No condition. -/
import Derived.Test.YtcpkoapkmjcigaaG0
import Derived.Test.YtcpkoapkmjcigaaV3
import Derived.Test.YtcpkoapkmjcigaaLFlorSpells
namespace Go.Proofs.Ytcpkoapkmjcigaa
open Go.RowKit

def spOf (f : Nat → Nat → Int) (k : Nat) : Sp := ⟨f k 0, f k 1, f k 2, f k 3, f k 4⟩
theorem spOf_at (f : Nat → Nat → Int) (k j : Nat) (h : j < 5) : (spOf f k).at j = f k j := by
  match j, h with
  | 0, _ => rfl
  | 1, _ => rfl
  | 2, _ => rfl
  | 3, _ => rfl
  | 4, _ => rfl
theorem ov_shape (f : Nat → Sp) (n : Nat) (x : Wn) : ∃ (y : Wn) (N E : Int), ovVal f n x = .tuple #[y.val, .int .i64 N, .int .i64 E] := by
  unfold ovVal
  split
  · exact ⟨_, _, _, rfl⟩
  · exact ⟨_, _, _, rfl⟩
set_option maxRecDepth 100000 in
set_option maxHeartbeats 8000000 in
theorem spells_all (v0 v1 s0 s1 c0 c1 : Int) (sa : Option Addr) (n cp b off : Nat) (f : Nat → Nat → Int) (w : World) (hsa : 0 < n → sa = some ⟨b, off, none⟩) (hz : sa = none → n = 0 ∧ cp = 0) (hc : ∀ i j, i < n → j < 5 → w.cell? ⟨b, off + i * 5 + j, none⟩ = some (.int .i64 (f i j)) ∧ (Lit.int .i64 (f i j)).wf = true) :
    Calls Try.prog 11 #[.agg #[.int .i64 v0, .int .i64 v1, .int .i64 s0, .int .i64 s1, .int .i64 c0, .int .i64 c1], .slice sa n cp] w fun e w' => e = .returned (.bool true) ∧ Below w.heap.size w w' := by
  by_cases hm : (22 : Int) < n
  · exact spells_long awake_any v0 v1 s0 s1 c0 c1 sa n cp b off w hm
  have hn : n ≤ 1000 := by omega
  have hcl : ∀ k j, k < n → j < 5 → w.cell? ⟨b, off + k * 5 + j, none⟩ = some (.int .i64 ((spOf f k).at j)) := fun k j hk hj => by rw [spOf_at f k j hj]; exact (hc k j hk hj).1
  obtain ⟨⟨e0, e1, e2, e3, e4, e5⟩, N, E, hv⟩ := ov_shape (spOf f) n ⟨v0, v1, s0, s1, c0, c1⟩
  refine spells_same awake_any v0 v1 s0 s1 c0 c1 sa n cp b off w (spOf f) e0 e1 e2 e3 e4 e5 N E (by omega) ?_ ?_ ?_
  · intro W hB
    exact copySpells_any sa n cp b off (fun k j => (spOf f k).at j) W hsa hz hn (fun k j hk hj => keepC hB (hcl k j hk hj))
  · intro sb cb g W hsb hcb
    have := over_any (spOf f) ⟨v0, v1, s0, s1, c0, c1⟩ sb n cb g 0 W hsb hn hcb
    rw [hv] at this
    exact this
  · intro W hB
    have := rover_any (spOf f) ⟨v0, v1, s0, s1, c0, c1⟩ sa n cp b off W hsa (fun k j hk hj => keepC hB (hcl k j hk hj))
    rw [hv] at this
    exact this
theorem florSpells_holds : Rows.FlorSpellsSaid :=
  FlorSpells.over (fun v0 v1 s0 s1 c0 c1 sa n cp b off f w _ hsa hz _ _ hc => spells_all v0 v1 s0 s1 c0 c1 sa n cp b off f w hsa hz hc)
end Go.Proofs.Ytcpkoapkmjcigaa
