/- FOR EVERY INPUT THE LAW FlorFollows ANSWERS TRUE: the program's Followed answers as the reference's for every rate and every list of measurements (at most 6, or too many), and each narrowed wine lies within its measurement. No condition. -/
import Derived.Test.YtpccfjdgnmmfoaaG0
import Derived.Test.YtpccfjdgnmmfoaaW10
import Derived.Test.YtpccfjdgnmmfoaaLFlorFollows
namespace Go.Proofs.Ytpccfjdgnmmfoaa
open Go.RowKit

def msOf (f : Nat → Nat → Int) (k : Nat) : Ms := ⟨f k 0, f k 1, f k 2, f k 3, f k 4, f k 5, f k 6⟩
theorem msOf_at (f : Nat → Nat → Int) (k j : Nat) (h : j < 7) : (msOf f k).at j = f k j := by
  match j, h with
  | 0, _ => rfl
  | 1, _ => rfl
  | 2, _ => rfl
  | 3, _ => rfl
  | 4, _ => rfl
  | 5, _ => rfl
  | 6, _ => rfl
theorem follows_all (r : Sp) (sa : Option Addr) (n cp b off : Nat) (f : Nat → Nat → Int) (w : World) (hsa : 0 < n → sa = some ⟨b, off, none⟩) (hz : sa = none → n = 0 ∧ cp = 0) (hc : ∀ i j, i < n → j < 7 → w.cell? ⟨b, off + i * 7 + j, none⟩ = some (.int .i64 (f i j)) ∧ (Lit.int .i64 (f i j)).wf = true) :
    Calls Try.prog 7 #[.agg #[.int .i64 r.a0, .int .i64 r.a1, .int .i64 r.g0, .int .i64 r.g1], .slice sa n cp] w fun e w' => e = .returned (.bool true) ∧ Below w.heap.size w w' := by
  have hcl : ∀ k j, k < n → j < 7 → w.cell? ⟨b, off + k * 7 + j, none⟩ = some (.int .i64 ((msOf f k).at j)) := fun k j hk hj => by rw [msOf_at f k j hj]; exact (hc k j hk hj).1
  obtain ⟨hLn, hcom⟩ := FL_in r (msOf f) n
  by_cases hbig : 42 < n
  · exact follows_long awake_any r (msOf f) sa n cp b off w (by omega) (by omega) (by omega)
  by_cases hmid : 6 < n ∧ n ≤ 40
  · exact follows_some awake_any r (msOf f) sa n cp b off w (by omega) (by omega)
  have hCP : ∀ W, Below w.heap.size w W → Calls Try.prog 26 #[.slice sa n cp] W fun e w' => (∃ (sb : Option Addr) (cb g : Nat), e = .returned (.slice sb n cb) ∧ (0 < n → sb = some ⟨g, 0, none⟩) ∧ (∀ k j, k < n → j < 7 → w'.cell? ⟨g, 0 + k * 7 + j, none⟩ = some (.int .i64 ((msOf f k).at j)))) ∧ Below W.heap.size W w' := by
    have := fun W (hW : Below w.heap.size w W) => copyMeasures_any sa n cp b off (fun k j => (msOf f k).at j) W hsa hz (by omega) (fun k j hk hj => keepC hW (hcl k j hk hj))
    revert this
    generalize msOf f = g
    exact fun h => h
  have hFO : ∀ (sb : Option Addr) (cb g : Nat) (W : World), (0 < n → sb = some ⟨g, 0, none⟩) → (∀ k j, k < n → j < 7 → W.cell? ⟨g, 0 + k * 7 + j, none⟩ = some (.int .i64 ((msOf f k).at j))) → Calls Try.prog 25 #[.agg #[.int .i64 r.a0, .int .i64 r.a1, .int .i64 r.g0, .int .i64 r.g1], .slice sb n cb] W fun e w' => (∃ (sx : Option Addr) (cx gx : Nat), e = .returned (.tuple #[.slice sx (FL r (msOf f) n).length cx, .int .i64 (FN r (msOf f) n), .int .i64 (FE r (msOf f) n)]) ∧ Lies (FL r (msOf f) n) sx gx w') ∧ Below W.heap.size W w' :=
    fun sb cb g W hsb hcb => followed_any r (msOf f) sb n cb g 0 W hsb hcb
  have hRF : ∀ W, Below w.heap.size w W → Calls Try.prog 27 #[.agg #[.int .i64 r.a0, .int .i64 r.a1, .int .i64 r.g0, .int .i64 r.g1], .slice sa n cp] W fun e w' => (∃ (sx : Option Addr) (cx gx : Nat), e = .returned (.tuple #[.slice sx (FL r (msOf f) n).length cx, .int .i64 (FN r (msOf f) n), .int .i64 (FE r (msOf f) n)]) ∧ Lies (FL r (msOf f) n) sx gx w') ∧ Below W.heap.size W w' :=
    fun W hW => rfollowed_any r (msOf f) sa n cp b off W hsa (fun k j hk hj => keepC hW (hcl k j hk hj))
  have hSW := fun (sx sy : Option Addr) (cx cy gx gy : Nat) (W : World) (h1 : Lies (FL r (msOf f) n) sx gx W) (h2 : Lies (FL r (msOf f) n) sy gy W) => sameWines_yes (FL r (msOf f) n) sx sy cx cy gx gy W h1 h2 (by omega)
  by_cases hfew : n ≤ 6
  · exact follows_few awake_any r (msOf f) sa n cp b off w (by omega) _ _ _ hLn hsa hcl hcom hCP hFO hRF hSW
  · exact follows_two awake_any r (msOf f) sa n cp b off w (by omega) (by omega) (by omega) _ _ _ hLn hsa hcl hcom hCP hFO hRF hSW
theorem florFollows_holds : Rows.FlorFollowsSaid :=
  FlorFollows.over (fun a0 a1 g0 g1 sa n cp b off f w _ hsa hz _ _ hc => follows_all ⟨a0, a1, g0, g1, 0⟩ sa n cp b off f w hsa hz hc)
end Go.Proofs.Ytpccfjdgnmmfoaa
