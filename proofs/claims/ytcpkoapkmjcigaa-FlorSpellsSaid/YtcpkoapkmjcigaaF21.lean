/- flor's Over, in one contract. -/
import Derived.Test.YtcpkoapkmjcigaaF20
import Derived.Test.YtcpkoapkmjcigaaF7
namespace Go.Proofs.Ytcpkoapkmjcigaa
open Go.RowKit

theorem aft_any : AftC := fun x r w => by
  have := florAfter_any x.v0 x.v1 x.s0 x.s1 x.c0 x.c1 r.a0 r.a1 r.g0 r.g1 r.d w
  rw [aft_val] at this
  exact this
def ovErr (x : Wn) (n : Nat) : Int := firstE x.err (unlE (decide ((n : Int) ≤ 20)) 8) 0
def ovVal (f : Nat → Sp) (n : Nat) (x : Wn) : Value := if (ovErr x n != 0) = true then .tuple #[Wn.zero.val, .int .i64 0, .int .i64 (ovErr x n)] else .tuple #[(overW f n 0 x).val, .int .i64 (overN f n 0 x), .int .i64 (overE f n 0 x)]
theorem over_any (f : Nat → Sp) (x : Wn) (sa : Option Addr) (n cp b off : Nat) (w : World) (hsa : 0 < n → sa = some ⟨b, off, none⟩) (hn : n ≤ 1000) (hc : ∀ k j, k < n → j < 5 → w.cell? ⟨b, off + k * 5 + j, none⟩ = some (.int .i64 ((f k).at j))) :
    Calls Try.prog 44 #[x.val, .slice sa n cp] w fun e w' => e = .returned (ovVal f n x) ∧ Below w.heap.size w w' := by
  obtain ⟨v0, v1, s0, s1, c0, c1⟩ := x
  by_cases h : (ovErr ⟨v0, v1, s0, s1, c0, c1⟩ n != 0) = true
  · rw [ovVal, if_pos h]
    exact over_err v0 v1 s0 s1 c0 c1 sa n cp b off w h
  · rw [ovVal, if_neg h]
    exact over_ok v0 v1 s0 s1 c0 c1 sa n cp b off w hsa hn aft_any f ((Bool.not_eq_true _).mp h) hc
end Go.Proofs.Ytcpkoapkmjcigaa
