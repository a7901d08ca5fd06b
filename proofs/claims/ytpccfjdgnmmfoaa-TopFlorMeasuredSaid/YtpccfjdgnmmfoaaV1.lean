/- The reference's Over: a loop over spells. -/
import Derived.Test.YtpccfjdgnmmfoaaU2
import Derived.Test.YtpccfjdgnmmfoaaR4
import Derived.Test.YtpccfjdgnmmfoaaE3
namespace Go.Proofs.Ytpccfjdgnmmfoaa
open Go.RowKit

theorem aftR_val (x : Wn) (r : Sp) (h : x.task r = 0) : aftR x.v0 x.v1 x.s0 x.s1 x.c0 x.c1 r.a0 r.a1 r.g0 r.g1 r.d = .tuple #[(aftWin x r).val, .int .i64 (aftErr x r)] := by
  rw [← aft_val]
  have h2 : ¬ (taskE x.v0 x.v1 x.s0 x.s1 x.c0 x.c1 r.a0 r.a1 r.g0 r.g1 r.d != 0) = true := by
    have h3 : taskE x.v0 x.v1 x.s0 x.s1 x.c0 x.c1 r.a0 r.a1 r.g0 r.g1 r.d = 0 := h
    rw [h3]; decide
  rw [aftF, if_neg h2]
theorem raft_any (x : Wn) (r : Sp) (h : x.task r = 0) (w : World) :
    Calls Try.prog 70 #[x.val, .agg #[.int .i64 r.a0, .int .i64 r.a1, .int .i64 r.g0, .int .i64 r.g1], .int .i64 r.d] w fun e w' => e = .returned (.tuple #[(aftWin x r).val, .int .i64 (aftErr x r)]) ∧ Below w.heap.size w w' := by
  obtain ⟨⟨⟨V0, V1, V2⟩, ⟨S0, S1, S2⟩, ⟨C0, C1, C2⟩⟩, ⟨⟨A0, A1, A2⟩, ⟨G0, G1, G2⟩⟩, D0, D1⟩ := task_zero h
  have := after_any x.v0 x.v1 x.s0 x.s1 x.c0 x.c1 r.a0 r.a1 r.g0 r.g1 r.d w (by omega) (by omega) (by omega) (by omega) (by omega) (by omega) (by omega) (by omega) (by omega) (by omega) (by omega) (by omega) (by omega) (by omega) (by omega) (by omega) (by omega) (by omega) (by omega) (by omega) (by omega) (by omega)
  rw [aftR_val x r h] at this
  exact this
end Go.Proofs.Ytpccfjdgnmmfoaa
