/- Contracts of the reference of chapter 3: After. -/
import Derived.Test.YtbijhcoloajjaaaR3
namespace Go.Proofs.Ytbijhcoloajjaaa
open Go.RowKit

theorem newKept {Wp w1 : World} {cs : Array Value} {t : TypeId} (hb : Below (Wp.alloc (.cells cs t)).heap.size (Wp.alloc (.cells cs t)) w1) (i : Nat) (v : Value) (hv : cs[i]? = some v) :
    w1.cell? ⟨Wp.heap.size, i, none⟩ = some v ∧ w1.frozen? ⟨Wp.heap.size, i, none⟩ = false := by
  have h1 : (Wp.alloc (.cells cs t)).cell? ⟨Wp.heap.size, i, none⟩ = some v := by simp [World.cell?_alloc_new, hv]
  refine ⟨keepC hb h1, ?_⟩
  rw [hb.frozen (World.block_lt_of_cell? _ _ h1)]
  exact World.frozen?_alloc_at (w := Wp) cs t _ i rfl
theorem newKeptD {Wp w1 : World} {cs : Array Value} {t : TypeId} (hb : Below (Wp.alloc (.cells cs t)).drew.heap.size (Wp.alloc (.cells cs t)).drew w1) (i : Nat) (v : Value) (hv : cs[i]? = some v) :
    w1.cell? ⟨Wp.heap.size, i, none⟩ = some v ∧ w1.frozen? ⟨Wp.heap.size, i, none⟩ = false := by
  have hb' : Below (Wp.alloc (.cells cs t)).heap.size (Wp.alloc (.cells cs t)) w1 := ((Below.refl _ _).drew).trans hb
  exact newKept hb' i v hv
/-- what After returns of a right wine -/
def aftR (v0 v1 s0 s1 c0 c1 a0 a1 g0 g1 days : Int) : Value := if 10000 < ce (s1 * lft g0 days) (lft a1 days) ∨ 100000 < ce (c1 * 1000000) (lft a1 days) then .tuple #[.agg #[.int .i64 0, .int .i64 0, .int .i64 0, .int .i64 0, .int .i64 0, .int .i64 0], .int .i64 8] else .tuple #[.agg #[.int .i64 (fl (v0 * lft a1 days) 1000000), .int .i64 (ce (v1 * lft a0 days) 1000000), .int .i64 (fl (s0 * lft g1 days) (lft a0 days)), .int .i64 (ce (s1 * lft g0 days) (lft a1 days)), .int .i64 (fl (c0 * 1000000) (lft a0 days)), .int .i64 (ce (c1 * 1000000) (lft a1 days))], .int .i64 0]
end Go.Proofs.Ytbijhcoloajjaaa
