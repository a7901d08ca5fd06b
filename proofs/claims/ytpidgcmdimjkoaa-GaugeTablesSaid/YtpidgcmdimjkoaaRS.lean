/- Contracts: Small of a cask, the area up to any level as the reference has it. -/
import Derived.Test.YtpidgcmdimjkoaaSD
import Derived.Test.YtpidgcmdimjkoaaJ4
set_option linter.unusedVariables false
set_option linter.unusedSimpArgs false
namespace Go.Proofs.Ytpidgcmdimjkoaa
open Go.RowKit
namespace Sy
open Go.RowKit

def smallB (s : ByteArray) (N : Nat) (bung : Int) : Bool := decide (s.size ≤ 20) && ((decide (N ≤ 4) || (decide (12 < N) && decide (N ≤ 14))) && (decide (bung ≤ 60) || decide (800 < bung)))
set_option maxRecDepth 100000 in
set_option maxHeartbeats 4000000 in
theorem small_any (s : ByteArray) (bung : Int) (sa : Option Addr) (N cap : Nat) (w : World) : Calls Try.prog 8 #[.agg #[.string s, .int .i64 bung, .slice sa N cap]] w fun e w' => e = .returned (.bool (smallB s N bung)) ∧ Below w.heap.size w w' := by
  obtain ⟨z, hz⟩ : ∃ z, smallB s N bung = z := ⟨_, rfl⟩
  rw [hz]
  unfold smallB at hz
  by_cases h1 : s.size ≤ 20
  · have a1 : (s.size : Int) ≤ 20 := by omega
    by_cases h2 : N ≤ 4
    · have a2 : (N : Int) ≤ 4 := by omega
      by_cases h3 : bung ≤ 60
      · have hz : z = true := by rw [← hz]; simp [h1, h2, h3]
        subst hz
        clear h1 h2
        go_enter Try.func8, Try.ntmps8
        go_wp2_with fail
        go_ret
        exact ⟨rfl, by go_grown⟩
      · by_cases h4 : 800 < bung
        · have hz : z = true := by rw [← hz]; simp [h1, h2, h3, h4]
          subst hz
          clear h1 h2
          go_enter Try.func8, Try.ntmps8
          go_wp2_with fail
          go_ret
          exact ⟨rfl, by go_grown⟩
        · have hz : z = false := by rw [← hz]; simp [h1, h2, h3, h4]
          subst hz
          clear h1 h2
          go_enter Try.func8, Try.ntmps8
          go_wp2_with fail
          go_ret
          exact ⟨rfl, by go_grown⟩
    · have a2 : ¬ (N : Int) ≤ 4 := by omega
      by_cases h5 : 12 < N
      · have a5 : 12 < (N : Int) := by omega
        by_cases h6 : N ≤ 14
        · have a6 : (N : Int) ≤ 14 := by omega
          by_cases h3 : bung ≤ 60
          · have hz : z = true := by rw [← hz]; simp [h1, h2, h3, h5, h6]
            subst hz
            clear h1 h2 h5 h6
            go_enter Try.func8, Try.ntmps8
            go_wp2_with fail
            go_ret
            exact ⟨rfl, by go_grown⟩
          · by_cases h4 : 800 < bung
            · have hz : z = true := by rw [← hz]; simp [h1, h2, h3, h4, h5, h6]
              subst hz
              clear h1 h2 h5 h6
              go_enter Try.func8, Try.ntmps8
              go_wp2_with fail
              go_ret
              exact ⟨rfl, by go_grown⟩
            · have hz : z = false := by rw [← hz]; simp [h1, h2, h3, h4, h5, h6]
              subst hz
              clear h1 h2 h5 h6
              go_enter Try.func8, Try.ntmps8
              go_wp2_with fail
              go_ret
              exact ⟨rfl, by go_grown⟩
        · have a6 : ¬ (N : Int) ≤ 14 := by omega
          have hz : z = false := by rw [← hz]; simp [h1, h2, h5, h6]
          subst hz
          clear h1 h2 h5 h6
          go_enter Try.func8, Try.ntmps8
          go_wp2_with fail
          go_ret
          exact ⟨rfl, by go_grown⟩
      · have a5 : ¬ 12 < (N : Int) := by omega
        have hz : z = false := by rw [← hz]; simp [h1, h2, h5]
        subst hz
        clear h1 h2 h5
        go_enter Try.func8, Try.ntmps8
        go_wp2_with fail
        go_ret
        exact ⟨rfl, by go_grown⟩
  · have a1 : ¬ (s.size : Int) ≤ 20 := by omega
    have hz : z = false := by rw [← hz]; simp [h1]
    subst hz
    clear h1
    go_enter Try.func8, Try.ntmps8
    go_wp2_with fail
    go_ret
    exact ⟨rfl, by go_grown⟩
set_option maxRecDepth 100000 in
set_option maxHeartbeats 4000000 in
theorem rarea_all (ρ : Nat) (L : Int) (w : World) (h8 : ρ ≤ 800) (h0 : -10000 ≤ L) (h1 : L ≤ 10000) :
    Calls Try.prog 54 #[.int .i64 (ρ : Int), .int .i64 L] w fun e w' => e = .returned (.agg #[.int .i64 (arLo (ρ : Int) (clampJ (ρ : Int) L)), .int .i64 (arHi (ρ : Int) (clampJ (ρ : Int) L))]) ∧ Below w.heap.size w w' := by
  have u0 : IntKind.i64.wrap (-(ρ : Int)) = -(ρ : Int) := IntWalk.i64_in _ (by omega)
  have hk : ((clampJ (ρ : Int) L : Nat) : Int) = min (max 0 ((ρ : Int) + L)) (2 * (ρ : Int)) := by unfold clampJ; omega
  obtain ⟨K, hK⟩ : ∃ K, clampJ (ρ : Int) L = K := ⟨_, rfl⟩
  rw [hK] at hk ⊢
  have hlv : (if -(ρ : Int) < if L < (ρ : Int) then L else (ρ : Int) then if L < (ρ : Int) then L else (ρ : Int) else -(ρ : Int)) = -(ρ : Int) + (K : Int) := by split <;> split at * <;> omega
  have HA := Lib.hid (fun w => rArea_any ρ (-(ρ : Int) + (K : Int)) K w h8 rfl (by omega))
  rw [← hlv] at HA
  obtain ⟨A, hA⟩ : ∃ z, arLo (ρ : Int) K = z := ⟨_, rfl⟩
  obtain ⟨H, hH⟩ : ∃ z, arHi (ρ : Int) K = z := ⟨_, rfl⟩
  rw [hA, hH] at HA ⊢
  clear hlv hk
  obtain ⟨B0, hB0⟩ : ∃ B, w.heap.size = B := ⟨_, rfl⟩
  go_enter Try.func54, Try.ntmps54
  go_upto_region 1 with fail
  refine nameWorld (fun w' => w'.cell? ⟨B0, 0, none⟩ = some (.int .i64 0) ∧ w'.cell? ⟨B0, 1, none⟩ = some (.int .i64 0) ∧ w'.frozen? ⟨B0, 0, none⟩ = false ∧ w'.frozen? ⟨B0, 1, none⟩ = false ∧ Below B0 w w') ?_ (fun wc hc => ?_)
  · rw [← hB0]
    exact ⟨(newBoth rfl (Below.refl _ _) 0 _ rfl).1, (newBoth rfl (Below.refl _ _) 1 _ rfl).1, (newBoth rfl (Below.refl _ _) 0 _ rfl).2, (newBoth rfl (Below.refl _ _) 1 _ rfl).2, by go_grown⟩
  obtain ⟨r0, r1, rz0, rz1, hB⟩ := hc
  go_wp2_with (go_at_call 73; (with_reducible refine Calls.mono (HA.out _) ?_); rintro e w2 ⟨rfl, hb2⟩; have y0 := keepC hb2 r0; have y1 := keepC hb2 r1; have z0 := keepF hb2 r0 rz0; have z1 := keepF hb2 r1 rz1; obtain ⟨c0, c1⟩ := set2 y0 y1 (.int .i64 A) (.int .i64 H))
  all_goals
    have hB2 := hB.trans (hb2.mono (Nat.le_of_lt (World.block_lt_of_cell? wc _ r0)))
    (with_reducible refine bodyPost_ret (v := .agg #[.int .i64 A, .int .i64 H]) ?_ rfl ?_)
    · simp [results, Try.results54, go_sem, c0, c1]
    · exact ⟨rfl, (hB2.setCell (Nat.le_refl _) _).setCell (Nat.le_refl _) _⟩
end Sy
end Go.Proofs.Ytpidgcmdimjkoaa
