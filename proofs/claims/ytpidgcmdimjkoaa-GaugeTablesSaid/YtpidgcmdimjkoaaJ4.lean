/- The reference's AreaTo. -/
import Derived.Test.YtpidgcmdimjkoaaJ3
namespace Go.Proofs.Ytpidgcmdimjkoaa
open Go.RowKit

set_option linter.unusedVariables false in
set_option linter.unusedSimpArgs false in
set_option maxRecDepth 100000 in
set_option maxHeartbeats 4000000 in
theorem rArea_any (ρ : Nat) (level : Int) (K : Nat) (w : World) (h8 : ρ ≤ 800) (hK : level = -(ρ : Int) + (K : Int)) (hK2 : K ≤ 2 * ρ) :
    Calls Try.prog 73 #[.int .i64 (ρ : Int), .int .i64 level] w fun e w' => e = .returned (.agg #[.int .i64 (arLo (ρ : Int) K), .int .i64 (arHi (ρ : Int) K)]) ∧ Below w.heap.size w w' := by
  have u0 : IntKind.i64.wrap (-(ρ : Int)) = -(ρ : Int) := IntWalk.i64_in _ (by omega)
  have HK := Lib.hid hK
  clear hK
  go_enter Try.func73, Try.ntmps73
  go_upto_region 2 with fail
  obtain ⟨B0, hB0⟩ : ∃ B, w.heap.size = B := ⟨_, rfl⟩
  rw [hB0]
  refine nameWorld (fun w' => w'.cell? ⟨B0, 0, none⟩ = some (.int .i64 0) ∧ w'.cell? ⟨B0, 1, none⟩ = some (.int .i64 0) ∧ w'.frozen? ⟨B0, 0, none⟩ = false ∧ w'.frozen? ⟨B0, 1, none⟩ = false ∧ w'.cell? ⟨B0 + 1, 0, none⟩ = some (.int .i64 0) ∧ w'.cell? ⟨B0 + 1, 1, none⟩ = some (.int .i64 0) ∧ w'.frozen? ⟨B0 + 1, 0, none⟩ = false ∧ w'.frozen? ⟨B0 + 1, 1, none⟩ = false ∧ B0 + 1 < w'.heap.size ∧ Below B0 w w') ?_ (fun wc hc => ?_)
  · rw [← hB0]
    have ha := (Below.refl _ (w.alloc (.cells #[.int .i64 0, .int .i64 0] 32))).alloc (Nat.le_refl _) (.cells #[.int .i64 0, .int .i64 0] 32)
    exact ⟨(newBoth rfl ha 0 _ rfl).1, (newBoth rfl ha 1 _ rfl).1, (newBoth rfl ha 0 _ rfl).2, (newBoth rfl ha 1 _ rfl).2, (newBoth (by rw [World.size_alloc]) (Below.refl _ _) 0 _ rfl).1, (newBoth (by rw [World.size_alloc]) (Below.refl _ _) 1 _ rfl).1, (newBoth (by rw [World.size_alloc]) (Below.refl _ _) 0 _ rfl).2, (newBoth (by rw [World.size_alloc]) (Below.refl _ _) 1 _ rfl).2, by rw [World.size_alloc, World.size_alloc]; omega, by go_grown⟩
  obtain ⟨r0, r1, rz0, rz1, p0, p1, pz0, pz1, hsz, hB⟩ := hc
  go_wp2_with fail
  go_loopw [6] (fun i wr => ∃ (k : Nat), (k ≤ K ∧ i = .int .i64 (-(ρ : Int) + (k : Int))) ∧ wr.cell? ⟨B0, 0, none⟩ = some (.int .i64 0) ∧ wr.cell? ⟨B0, 1, none⟩ = some (.int .i64 0) ∧ wr.frozen? ⟨B0, 0, none⟩ = false ∧ wr.frozen? ⟨B0, 1, none⟩ = false ∧ wr.cell? ⟨B0 + 1, 0, none⟩ = some (.int .i64 (arLo (ρ : Int) k)) ∧ wr.cell? ⟨B0 + 1, 1, none⟩ = some (.int .i64 (arHi (ρ : Int) k)) ∧ wr.frozen? ⟨B0 + 1, 0, none⟩ = false ∧ wr.frozen? ⟨B0 + 1, 1, none⟩ = false ∧ B0 + 1 < wr.heap.size ∧ Below B0 w wr)
    (fun i _ => (1000 - intOf i).toNat)
  case atStart => exact ⟨0, ⟨Nat.zero_le _, by rw [show -(ρ : Int) + ((0 : Nat) : Int) = -(ρ : Int) by omega]⟩, r0, r1, rz0, rz1, p0, p1, pz0, pz1, hsz, hB⟩
  case round =>
    clear r0 r1 rz0 rz1 p0 p1 pz0 pz1 hsz hB
    obtain ⟨k, ⟨hk, rfl⟩, r0, r1, rz0, rz1, p0, p1, pz0, pz1, hsz, hB⟩ := hrel
    by_cases hlt : k < K
    · have HW0 := Lib.hid (fun w => rwidth_any (ρ : Int) (-(ρ : Int) + (k : Int)) w (by omega) (by omega) (by omega) (by omega))
      have HW1 := Lib.hid (fun w => rwidth_any (ρ : Int) (-(ρ : Int) + (k : Int) + 1) w (by omega) (by omega) (by omega) (by omega))
      have b0 := sqW_bd (R := (ρ : Int)) (y := -(ρ : Int) + (k : Int)) (by omega) (by omega) (by omega)
      have b1 := sqW_bd (R := (ρ : Int)) (y := -(ρ : Int) + (k : Int) + 1) (by omega) (by omega) (by omega)
      have hq := sq_bd (x := (ρ : Int)) (M := 800) (by omega) (by omega)
      have HSL : Hid (arLo (ρ : Int) (k + 1) = arLo (ρ : Int) k + min (rt (sqW (ρ : Int) (-(ρ : Int) + (k : Int)))) (rt (sqW (ρ : Int) (-(ρ : Int) + (k : Int) + 1)))) := Lib.hid rfl
      have HSH : Hid (arHi (ρ : Int) (k + 1) = arHi (ρ : Int) k + max (rtUp (sqW (ρ : Int) (-(ρ : Int) + (k : Int)))) (rtUp (sqW (ρ : Int) (-(ρ : Int) + (k : Int) + 1)))) := Lib.hid rfl
      rw [← rt_min b0.1 b1.1] at HSL
      rw [← rtUp_max b0.1 b1.1] at HSH
      have hb2 := ar_bd2 (R := (ρ : Int)) (by omega) (by omega) (k + 1) (by omega)
      obtain ⟨sa, hsa⟩ : ∃ z, sqW (ρ : Int) (-(ρ : Int) + (k : Int)) = z := ⟨_, rfl⟩
      obtain ⟨sb, hsb⟩ : ∃ z, sqW (ρ : Int) (-(ρ : Int) + (k : Int) + 1) = z := ⟨_, rfl⟩
      rw [hsa] at b0 HW0
      rw [hsb] at b1 HW1
      rw [hsa, hsb, min_if] at HSL
      rw [hsa, hsb, max_if] at HSH
      obtain ⟨mi, hmi⟩ : ∃ z, (if sb < sa then sb else sa) = z := ⟨_, rfl⟩
      obtain ⟨ma, hma⟩ : ∃ z, (if sa < sb then sb else sa) = z := ⟨_, rfl⟩
      rw [hmi] at HSL
      rw [hma] at HSH
      have hmb : (0 ≤ mi ∧ mi ≤ 4 * ((ρ : Int) * (ρ : Int))) ∧ (0 ≤ ma ∧ ma ≤ 4 * ((ρ : Int) * (ρ : Int))) := by rw [← hmi, ← hma]; refine ⟨?_, ?_⟩ <;> split <;> omega
      have HR := Lib.hid (fun w => still_call (root_any mi w hmb.1.1 (by omega)))
      have HU := Lib.hid (fun w => still_call (rootUp_any ma w hmb.2.1 (by omega)))
      obtain ⟨A, hA⟩ : ∃ z, arLo (ρ : Int) k = z := ⟨_, rfl⟩
      obtain ⟨H, hH⟩ : ∃ z, arHi (ρ : Int) k = z := ⟨_, rfl⟩
      obtain ⟨A2, hA2⟩ : ∃ z, arLo (ρ : Int) (k + 1) = z := ⟨_, rfl⟩
      obtain ⟨H2, hH2⟩ : ∃ z, arHi (ρ : Int) (k + 1) = z := ⟨_, rfl⟩
      obtain ⟨ri, hri⟩ : ∃ z, rt mi = z := ⟨_, rfl⟩
      obtain ⟨ra, hra⟩ : ∃ z, rtUp ma = z := ⟨_, rfl⟩
      rw [hA2, hA, hri] at HSL
      rw [hH2, hH, hra] at HSH
      rw [hA2, hH2] at hb2
      rw [hA] at p0
      rw [hH] at p1
      rw [hri] at HR
      rw [hra] at HU
      have e2 := HSL.out
      have e3 := HSH.out
      have v0 : IntKind.i64.wrap (A + ri) = A2 := by rw [← e2]; exact IntWalk.i64_in _ (by omega)
      have v1 : IntKind.i64.wrap (H + ra) = H2 := by rw [← e3]; exact IntWalk.i64_in _ (by omega)
      obtain ⟨y1, hy1⟩ : ∃ z, -(ρ : Int) + (k : Int) + 1 = z := ⟨_, rfl⟩
      have v2 : IntKind.i64.wrap (-(ρ : Int) + (k : Int) + 1) = y1 := by rw [hy1]; exact IntWalk.i64_in _ (by omega)
      have HY : Hid (y1 = -(ρ : Int) + ((k + 1 : Nat) : Int)) := Lib.hid (by omega)
      have hle : -(ρ : Int) + (k : Int) < level := by rw [HK.out]; omega
      rw [hy1] at HW1
      have HX := Lib.hid (And.intro hA2 hH2)
      have hmm := Lib.hid (And.intro hmi hma)
      clear b0 b1 hq hb2 hmb e2 e3 hA hH hA2 hH2 hri hra hsa hsb hy1
      go_upto_region 6 with (go_at_call 90; first | ((with_reducible refine Calls.mono (HW0.out _) ?_); rintro e w1 ⟨rfl, rfl⟩) | ((with_reducible refine Calls.mono (HW1.out _) ?_); rintro e w1 ⟨rfl, rfl⟩))
      clear HW0 HW1
      refine regionX 15 0 [] [] (by kernel_rfl) (by kernel_rfl) (by kernel_rfl) (by kernel_rfl) (by decide) (fun _ _ d _ _ h => by cases d <;> exact h) ?_
      intro R hR
      simp only [List.take_succ_cons, List.take_zero]
      iterate 15 (first | (refine headP_val ?_ (by rfl) (by rfl) (fun w' hw' => ?_) ?_; rotate_left; (focus (have y0 := keepC hw' p0; have y1 := keepC hw' p1; first | (refine onlyMakes_val ?_; first | (go_simp; done) | (go_simp; with_reducible rfl)) | (apply onlyMakes_call; (first | (go_simp; done) | (go_simp; exact ⟨rfl, rfl⟩) | (go_simp; with_reducible rfl)); first | (with_reducible exact HR.out _) | (with_reducible exact HU.out _)))); (try dsimp only); (try simp only [Act.put, List.setIfInBounds_toArray, List.set_cons_zero, List.set_cons_succ])) | (refine headP_pure ?_ (by rfl) (by rfl) (fun w' => ?_) ?_; rotate_left; (focus ((first | (go_simp; done) | (go_simp; with_reducible rfl)))); (try dsimp only); (try simp only [Act.put, List.setIfInBounds_toArray, List.set_cons_zero, List.set_cons_succ])) | (refine headP_skip (by rfl) ?_; (try dsimp only); (try simp only [Act.put, List.setIfInBounds_toArray, List.set_cons_zero, List.set_cons_succ])))
      refine headP_nil (hR.out _ ?_)
      refine AnyZ.last 15 (by kernel_rfl) (by decide) (fun w2 hw2 => ?_)
      refine wpAny_one 15 (by kernel_rfl) rfl rfl ?_
      have gr0 := keepC hw2 r0
      have gr1 := keepC hw2 r1
      have gp0 := keepC hw2 p0
      have gp1 := keepC hw2 p1
      have grz0 := keepF hw2 r0 rz0
      have grz1 := keepF hw2 r1 rz1
      have gpz0 := keepF hw2 p0 pz0
      have gpz1 := keepF hw2 p1 pz1
      have hB2 := hB.trans (hw2.mono (by omega))
      have hs2 := Nat.lt_of_lt_of_le hsz hw2.size
      clear hR hw2 r0 r1 rz0 rz1 p0 p1 pz0 pz1 hsz hB
      (try simp only [List.getElem_toArray, List.getElem_cons_succ, List.getElem_cons_zero])
      (try simp only [Act.put, List.setIfInBounds_toArray, List.set_cons_succ, List.set_cons_zero])
      unfold Oper.wp
      go_simp
      refine wpAny_done (by kernel_rfl) ?_
      go_wp2_with fail
      go_roundw
      case rel =>
        obtain ⟨c0, c1⟩ := set2 gp0 gp1 (.int .i64 A2) (.int .i64 H2)
        have o0 := HX.out
        refine ⟨k + 1, ⟨by omega, by rw [HY.out]⟩, (World.cell?_setCell_other _ _ _ _ (by intro e; injection e with e1 e2; omega)).trans ((World.cell?_setCell_other _ _ _ _ (by intro e; injection e with e1 e2; omega)).trans gr0), (World.cell?_setCell_other _ _ _ _ (by intro e; injection e with e1 e2; omega)).trans ((World.cell?_setCell_other _ _ _ _ (by intro e; injection e with e1 e2; omega)).trans gr1), by rw [World.frozen?_setCell, World.frozen?_setCell]; exact grz0, by rw [World.frozen?_setCell, World.frozen?_setCell]; exact grz1, by rw [o0.1]; exact c0, by rw [o0.2]; exact c1, by rw [World.frozen?_setCell, World.frozen?_setCell]; exact gpz0, by rw [World.frozen?_setCell, World.frozen?_setCell]; exact gpz1, by rw [World.size_setCell, World.size_setCell]; exact hs2, (hB2.setCell (by show B0 ≤ B0 + 1; omega) _).setCell (by show B0 ≤ B0 + 1; omega) _⟩
      case measure => have h9 := HY.out; simp [intOf]; omega
    · obtain rfl : k = K := by omega
      have hge : ¬ -(ρ : Int) + (k : Int) < level := by rw [HK.out]; omega
      obtain ⟨A, hA⟩ : ∃ z, arLo (ρ : Int) k = z := ⟨_, rfl⟩
      obtain ⟨H, hH⟩ : ∃ z, arHi (ρ : Int) k = z := ⟨_, rfl⟩
      rw [hA] at p0
      rw [hH] at p1
      have HX := Lib.hid (And.intro hA hH)
      clear hA hH hlt hk
      obtain ⟨c0, c1⟩ := set2 r0 r1 (.int .i64 A) (.int .i64 H)
      go_wp2_with fail
      (with_reducible refine bodyPost_ret (v := .agg #[.int .i64 A, .int .i64 H]) ?_ rfl ?_)
      · simp [results, Try.results73, go_sem, c0, c1]
      · exact ⟨by rw [HX.out.1, HX.out.2], by first | exact (hB.setCell (Nat.le_refl _) _).setCell (Nat.le_refl _) _ | (rw [hB0]; exact (hB.setCell (Nat.le_refl _) _).setCell (Nat.le_refl _) _)⟩
end Go.Proofs.Ytpidgcmdimjkoaa
