import Derived.Test.YtlmnhlmgbcpclaaJ2
import Derived.Test.YtlmnhlmgbcpclaaQQ
/- Areas up to a level: gauge's upTo and AreaTo, the reference's AreaErr and AreaTo. -/
namespace Go.Proofs.Ytlmnhlmgbcpclaa
open Go.RowKit

set_option linter.unusedVariables false in
set_option linter.unusedSimpArgs false in
set_option maxRecDepth 100000 in
set_option maxHeartbeats 4000000 in
theorem upTo_any (ρ : Nat) (g off n cap j : Nat) (level A H : Int) (w : World) (h10 : 10 ≤ ρ) (h8 : ρ ≤ 800) (hn : n = 2 * ρ + 1) (l0 : -10000 ≤ level) (l1 : level ≤ 10000) (hj : (j : Int) = min (max 0 ((ρ : Int) + level)) (2 * (ρ : Int)))
    (h0 : w.cell? ⟨g, off + j * 2, none⟩ = some (.int .i64 A)) (h1 : w.cell? ⟨g, off + j * 2 + 1, none⟩ = some (.int .i64 H)) :
    Calls Try.prog 70 #[.slice (some ⟨g, off, none⟩) n cap, .int .i64 level] w fun e w' => e = .returned (.agg #[.int .i64 A, .int .i64 H]) ∧ Below w.heap.size w w' := by
  obtain ⟨T, hT⟩ : ∃ T : Int, 2 * (ρ : Int) = T := ⟨_, rfl⟩
  obtain ⟨P, hP⟩ : ∃ P : Int, (ρ : Int) = P := ⟨_, rfl⟩
  have hb : g < w.heap.size := World.block_lt_of_cell? w _ h0
  have u0 : IntKind.i64.wrap ((n : Int) - 1) = T := by rw [show (n : Int) - 1 = T by omega]; exact IntWalk.i64_in _ (by omega)
  have u2 : IntKind.i64.wrap (T.tdiv 2) = P := by rw [Int.tdiv_eq_ediv_of_nonneg (by omega), show T / 2 = P by omega]; exact IntWalk.i64_in _ (by omega)
  have u1 : IntKind.i64.wrap (P + level) = P + level := IntWalk.i64_in _ (by omega)
  obtain ⟨a, hmx⟩ : ∃ z, (if 0 < P + level then P + level else 0) = z := ⟨_, rfl⟩
  have hmn : (if T < a then T else a) = (j : Int) := by rw [← hmx, ← max_if, ← min_if, ← hT, ← hP]; exact hj.symm
  have hj0 : (0 : Int) ≤ (j : Int) := by omega
  have hj1 : (j : Int) < (n : Int) := by rw [hj]; omega
  clear hj hn hT hP l0 l1 h10 h8
  go_enter Try.func70, Try.ntmps70
  have c0 := keepC ((Below.refl w.heap.size w).alloc (Nat.le_refl _) (.cells #[.int .i64 0, .int .i64 0] 23)) h0
  have c1 := keepC ((Below.refl w.heap.size w).alloc (Nat.le_refl _) (.cells #[.int .i64 0, .int .i64 0] 23)) h1
  go_wp2_with fail
  go_returns
  exact ⟨rfl, by go_grown⟩
theorem newCell1 {W : World} {o : Obj} {cs : Array Value} {t : TypeId} (i : Nat) (v : Value) (hv : cs[i]? = some v) : ((W.alloc o).alloc (.cells cs t)).cell? ⟨W.heap.size + 1, i, none⟩ = some v := by
  have := newCell (W := W.alloc o) (cs := cs) (t := t) i v hv
  rwa [World.size_alloc] at this
set_option linter.unusedVariables false in
set_option linter.unusedSimpArgs false in
set_option maxRecDepth 100000 in
set_option maxHeartbeats 4000000 in
theorem gArea_wrong (R level nr : Int) (w : World) (u0 : IntKind.i64.wrap (-R) = nr) (hd : (firstE (numE R 10 800) (numE level nr R) 0 != 0) = true) :
    Calls Try.prog 32 #[.int .i64 R, .int .i64 level] w fun e w' => e = .returned (.tuple #[.agg #[.int .i64 0, .int .i64 0], .int .i64 (firstE (numE R 10 800) (numE level nr R) 0)]) ∧ Below w.heap.size w w' := by
  go_enter Try.func32, Try.ntmps32
  go_wp2_with (first | (go_at_call 68; refine (number_any _ _ _ _).mono ?_; rintro e w1 ⟨rfl, rfl⟩) | (go_at_call 36; with_reducible first | (refine Calls.mono (first2_any _ _ _ _ (newCell 0 _ rfl) (newCell 1 _ rfl)) ?_; rintro e w4 ⟨rfl, rfl⟩) | (refine Calls.mono (first2_any _ _ _ _ (newCellD 0 _ rfl) (newCellD 1 _ rfl)) ?_; rintro e w4 ⟨rfl, rfl⟩) | (refine Calls.mono (first2_any _ _ _ _ (newCell1 0 _ rfl) (newCell1 1 _ rfl)) ?_; rintro e w4 ⟨rfl, rfl⟩)))
  go_returns
  exact ⟨rfl, by go_grown⟩
set_option linter.unusedVariables false in
set_option linter.unusedSimpArgs false in
set_option maxRecDepth 100000 in
set_option maxHeartbeats 4000000 in
theorem gArea_fine (ρ : Nat) (level : Int) (j : Nat) (w : World) (h10 : 10 ≤ ρ) (h8 : ρ ≤ 800) (l0 : -(ρ : Int) ≤ level) (l1 : level ≤ (ρ : Int)) (hj : (j : Int) = (ρ : Int) + level) :
    Calls Try.prog 32 #[.int .i64 (ρ : Int), .int .i64 level] w fun e w' => e = .returned (.tuple #[.agg #[.int .i64 (arLo (ρ : Int) j), .int .i64 (arHi (ρ : Int) j)], .int .i64 0]) ∧ Below w.heap.size w w' := by
  have u0 : IntKind.i64.wrap (-(ρ : Int)) = -(ρ : Int) := IntWalk.i64_in _ (by omega)
  have hd : (firstE (numE (ρ : Int) 10 800) (numE level (-(ρ : Int)) (ρ : Int)) 0 != 0) = false := by
    rw [numE_val, numE_val, inB_yes (by omega) (by omega), inB_yes l0 l1]; rfl
  have HAO := Lib.hid (fun w => areasOf_any ρ w h10 h8)
  have HUP := Lib.hid (fun (g cap : Nat) (w : World) (hc : ∀ j, j ≤ 2 * ρ → w.cell? ⟨g, 0 + j * 2, none⟩ = some (.int .i64 (arLo (ρ : Int) j)) ∧ w.cell? ⟨g, 0 + j * 2 + 1, none⟩ = some (.int .i64 (arHi (ρ : Int) j))) => upTo_any ρ g 0 (2 * ρ + 1) cap j level _ _ w h10 h8 rfl (by omega) (by omega) (by omega) (hc j (by omega)).1 (hc j (by omega)).2)
  clear l0 l1 hj
  obtain ⟨A, hA⟩ : ∃ z, arLo (ρ : Int) j = z := ⟨_, rfl⟩
  obtain ⟨H, hH⟩ : ∃ z, arHi (ρ : Int) j = z := ⟨_, rfl⟩
  rw [hA, hH] at HUP ⊢
  go_enter Try.func32, Try.ntmps32
  go_upto_region 4 with (first | (go_at_call 68; refine (number_any _ _ _ _).mono ?_; rintro e w1 ⟨rfl, rfl⟩) | (go_at_call 36; with_reducible first | (refine Calls.mono (first2_any _ _ _ _ (newCell 0 _ rfl) (newCell 1 _ rfl)) ?_; rintro e w4 ⟨rfl, rfl⟩) | (refine Calls.mono (first2_any _ _ _ _ (newCellD 0 _ rfl) (newCellD 1 _ rfl)) ?_; rintro e w4 ⟨rfl, rfl⟩) | (refine Calls.mono (first2_any _ _ _ _ (newCell1 0 _ rfl) (newCell1 1 _ rfl)) ?_; rintro e w4 ⟨rfl, rfl⟩)))
  obtain ⟨B0, hB0⟩ : ∃ B, w.heap.size = B := ⟨_, rfl⟩
  rw [hB0]
  refine nameWorld (fun w' => w'.cell? ⟨B0, 0, none⟩ = some (.int .i64 0) ∧ w'.cell? ⟨B0, 1, none⟩ = some (.int .i64 0) ∧ w'.frozen? ⟨B0, 0, none⟩ = false ∧ w'.frozen? ⟨B0, 1, none⟩ = false ∧ Below B0 w w') ?_ (fun wc hc => ?_)
  · rw [← hB0]
    have ha := (Below.refl _ (w.alloc (.cells #[.int .i64 0, .int .i64 0] 23))).alloc (Nat.le_refl _) (.cells #[.int .i64 (numE (ρ : Int) 10 800), .int .i64 (numE level (-(ρ : Int)) (ρ : Int))] 33)
    exact ⟨(newBoth rfl ha 0 _ rfl).1, (newBoth rfl ha 1 _ rfl).1, (newBoth rfl ha 0 _ rfl).2, (newBoth rfl ha 1 _ rfl).2, by go_grown⟩
  obtain ⟨r0, r1, z0, z1, hB⟩ := hc
  have hsc : B0 < wc.heap.size := World.block_lt_of_cell? wc _ r0
  go_wp2_with (first | (go_at_call 69; (with_reducible refine Calls.mono (HAO.out _) ?_); rintro e w2 ⟨⟨g, cap, rfl, hcells⟩, hb2⟩; have z0 := keepF hb2 r0 z0; have z1 := keepF hb2 r1 z1; have r0 := keepC hb2 r0; have r1 := keepC hb2 r1; have hcc := Lib.hid hcells; clear hcells) | (go_at_call 70; (with_reducible refine Calls.mono (HUP.out _ _ _ hcc.out) ?_); rintro e w3 ⟨rfl, hb3⟩; have z0 := keepF hb3 r0 z0; have z1 := keepF hb3 r1 z1; have r0 := keepC hb3 r0; have r1 := keepC hb3 r1))
  obtain ⟨c0, c1⟩ := set2 r0 r1 (.int .i64 A) (.int .i64 H)
  (with_reducible refine bodyPost_ret (v := .tuple #[.agg #[.int .i64 A, .int .i64 H], .int .i64 0]) ?_ rfl ?_)
  · simp [results, Try.results32, go_sem, c0, c1]
  · exact ⟨rfl, by rw [hB0]; exact ((hB.trans ((belowSeq2 hb2 hb3).mono (by omega))).setCell (Nat.le_refl _) _).setCell (Nat.le_refl _) _⟩
end Go.Proofs.Ytlmnhlmgbcpclaa

/- The reference's AreaTo. -/
namespace Go.Proofs.Ytlmnhlmgbcpclaa
open Go.RowKit

end Go.Proofs.Ytlmnhlmgbcpclaa

/- GaugeAreas' walk, out of the examples. -/
namespace Go.Proofs.Ytlmnhlmgbcpclaa
open Go.RowKit

theorem rtUp_bd2 {n M : Int} (h0 : 0 ≤ n) (h1 : n ≤ M * M) (hM : 0 ≤ M) : 0 ≤ rtUp n ∧ rtUp n ≤ M := by
  have h := rt_bd h0 h1 hM
  have hr := isRt_rt h0
  unfold rtUp
  split
  · omega
  · rename_i e
    refine ⟨by omega, ?_⟩
    rcases Int.lt_or_eq_of_le h.2 with h2 | h2
    · omega
    · exfalso
      have := hr.2.1
      rw [h2] at this e
      omega
theorem rt_le_up (n : Int) : rt n ≤ rtUp n := by unfold rtUp; split <;> omega
theorem ar_le (R : Int) : ∀ i, arLo R i ≤ arHi R i
  | 0 => Int.le_refl _
  | i + 1 => by
    have h1 := ar_le R i
    have h2 := rt_le_up (sqW R (-R + i))
    have h3 := rt_le_up (sqW R (-R + i + 1))
    rw [arLo, arHi]
    omega
theorem ar_step {R : Int} (hR : 0 ≤ R) (i : Nat) (hi : (i : Int) < 2 * R) : (0 ≤ arLo R (i + 1) - arLo R i ∧ arLo R (i + 1) - arLo R i ≤ 2 * R) ∧ (0 ≤ arHi R (i + 1) - arHi R i ∧ arHi R (i + 1) - arHi R i ≤ 2 * R) := by
  have b0 := sqW_bd (y := -R + i) hR (by omega) (by omega)
  have b1 := sqW_bd (y := -R + i + 1) hR (by omega) (by omega)
  have e : 4 * (R * R) = (2 * R) * (2 * R) := by rw [Int.mul_assoc 2 R, Int.mul_left_comm R 2 R, ← Int.mul_assoc 2 2]; rfl
  rw [e] at b0 b1
  have c0 := rt_bd b0.1 b0.2 (by omega)
  have c1 := rt_bd b1.1 b1.2 (by omega)
  have d0 := rtUp_bd2 b0.1 b0.2 (by omega)
  have d1 := rtUp_bd2 b1.1 b1.2 (by omega)
  rw [arLo, arHi]
  omega
end Go.Proofs.Ytlmnhlmgbcpclaa
