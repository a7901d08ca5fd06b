/- TopGaugeTurned of any cask and dip. -/
import Derived.Test.YtlfminpccpecfaaTA
set_option linter.unusedVariables false
set_option linter.unusedSimpArgs false
namespace Go.Proofs.Ytlfminpccpecfaa
open Go.RowKit
namespace Sy
open Go.RowKit

set_option maxRecDepth 100000 in
set_option maxHeartbeats 4000000 in
theorem turn_big (s : ByteArray) (bung dip : Int) (sa : Option Addr) (N cap : Nat) (w : World) (hs : smallB s N bung = false) :
    Calls Try.prog 3 #[.agg #[.string s, .int .i64 bung, .slice sa N cap], .int .i64 dip] w fun e w' => e = .returned (.bool true) ∧ Below w.heap.size w w' := by
  have HA := Lib.hid awakeT
  have HS := Lib.hid (fun w => small_any s bung sa N cap w)
  rw [hs] at HS
  clear hs
  go_enter Try.func3, Try.ntmps3
  go_wp2_with (first | (go_at_call 4; (with_reducible refine Calls.mono (HA.out _) ?_); rintro e w1 ⟨rfl, hb1⟩; have y0 : w1.cell? ⟨w.heap.size, 0, none⟩ = some (.string s) := (newBoth rfl hb1 0 _ rfl).1; have y1 : w1.cell? ⟨w.heap.size, 1, none⟩ = some (.int .i64 bung) := (newBoth rfl hb1 1 _ rfl).1; have y2 : w1.cell? ⟨w.heap.size, 2, none⟩ = some (.slice sa N cap) := (newBoth rfl hb1 2 _ rfl).1) | (go_at_call 5; (with_reducible refine Calls.mono (HS.out _) ?_); rintro e w2 ⟨rfl, hb2⟩))
  go_ret
  exact ⟨rfl, belowSeq2 (belowSeq2 ((Below.refl _ w).alloc (Nat.le_refl _) _) hb1) hb2⟩
theorem turn_any (s : ByteArray) (bung dip : Int) (sa : Option Addr) (N cap b off : Nat) (f : Nat → Nat → Int) (w : World) (hs : 0 < N → sa = some ⟨b, off, none⟩) (hx : ∀ i j, i < N → j < 3 → w.cell? ⟨b, off + i * 3 + j, none⟩ = some (.int .i64 (f i j))) :
    Calls Try.prog 3 #[.agg #[.string s, .int .i64 bung, .slice sa N cap], .int .i64 dip] w fun e w' => e = .returned (.bool true) ∧ Below w.heap.size w w' := by
  cases hsm : smallB s N bung with
  | false => exact turn_big s bung dip sa N cap w hsm
  | true =>
    have hN := small_N hsm
    by_cases h0 : N = 0
    · subst h0
      exact turn_none s bung dip sa cap w hsm
    · rw [hs (by omega)]
      refine turn_win s bung dip ((List.range (N * 3)).map fun k => f (k / 3) (k % 3)) N b off cap w (by omega) (by simp) (winAt_of (by omega) fun k hk => ?_) hsm
      have := hx (k / 3) (k % 3) (by omega) (by omega)
      rwa [show off + k / 3 * 3 + k % 3 = off + k by omega] at this
end Sy
end Go.Proofs.Ytlfminpccpecfaa
