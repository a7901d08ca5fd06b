/- The law GaugeHalves answers true for every input: put together. -/
import Derived.Test.YtagpaoglcjcaeaaSJ
import Derived.Test.YtagpaoglcjcaeaaSE
set_option linter.unusedVariables false
set_option linter.unusedSimpArgs false
namespace Go.Proofs.Ytagpaoglcjcaeaa
open Go.RowKit
namespace Sy
open Go.RowKit

def out1 : List Fact := [(2, .int .i64 10, rH, false)]
def out2 : List Fact := [(2, .int .i64 10, rH, true), (2, rH, .int .i64 60, false)]
def out3 : List Fact := [(2, .int .i64 10, rH, true), (2, rH, .int .i64 60, true), (2, .int .i64 1, lH, false)]
def out4 : List Fact := [(2, .int .i64 10, rH, true), (2, rH, .int .i64 60, true), (2, .int .i64 1, lH, true), (2, lH, .int .i64 3000, false)]
section
variable (r L : Int)
theorem outRun1 (ok) : fstO (evDS (pgH r L out1 ok) (spTrue 15) 2000 60 (.fn 9) [rH, lH] .leaf 0) = some (.bool true) := by kernel_rfl
theorem outRun2 (ok) : fstO (evDS (pgH r L out2 ok) (spTrue 15) 2000 60 (.fn 9) [rH, lH] .leaf 0) = some (.bool true) := by kernel_rfl
theorem outRun3 (ok) : fstO (evDS (pgH r L out3 ok) (spTrue 15) 2000 60 (.fn 9) [rH, lH] .leaf 0) = some (.bool true) := by kernel_rfl
theorem outRun4 (ok) : fstO (evDS (pgH r L out4 ok) (spTrue 15) 2000 60 (.fn 9) [rH, lH] .leaf 0) = some (.bool true) := by kernel_rfl
end
section
variable {r L : Int}
theorem argsH (l ok) (M : Mp) : LRel (pgH r L l ok) M [rH, lH] (#[Value.int .i64 r, Value.int .i64 L] : Array Value).toList :=
  LRel.cons (Dv.vrel (P := pgH r L l ok) dR) (LRel.cons (Dv.vrel (P := pgH r L l ok) dL) (LRel.nil M))
theorem okSpH (h0 : 10 ≤ r) (h1 : r ≤ 60) (l ok) : CallOk (pgH r L l ok) spH := by
  refine ok_spOr (ok_spTrue awake04) (ok_spOr (ok_spNum (ok_numsG rfl rfl)) (ok_spOr (ok_spList (ok_listG rfl rfl)) (ok_spOr (ok_spAreas rfl rfl fun x hx => ?_)
    (ok_spOr (ok_spUp rfl rfl (L := 0) dLv1 (by decide) (by decide)) (ok_spOr (ok_spUp rfl rfl (dLv2 h0 h1) (by omega) (by omega)) (ok_spCask rfl rfl isLit_rel))))))
  have hr : ((r.toNat : Nat) : Int) = r := by omega
  simp only [List.mem_cons, List.not_mem_nil, or_false] at hx
  rcases hx with rfl | rfl
  · exact ⟨r.toNat, by rw [hr]; exact dIn, by omega, by omega⟩
  · exact ⟨r.toNat, by rw [hr]; exact dOut, by omega, by omega⟩
theorem half_in (h0 : 10 ≤ r) (h1 : r ≤ 60) (hL0 : 1 ≤ L) (hL1 : L ≤ 3000) (w : World) : Calls Try.prog 9 #[.int .i64 r, .int .i64 L] w fun e w' => e = .returned (.bool true) ∧ Below w.heap.size w w' := by
  obtain ⟨R, rfl⟩ : ∃ R : Nat, r = (R : Int) := ⟨r.toNat, by omega⟩
  obtain ⟨q1, q2, q3⟩ := half_areas (R := R) (by omega) (by omega)
  have c1 : clampJ (R : Int) 0 = R := by unfold clampJ; omega
  have c2 : clampJ (R : Int) (R : Int) = 2 * R := by unfold clampJ; omega
  have a1 := ar_bd2 (R := (R : Int)) (by omega) (by omega) R (by omega)
  have a2 := ar_bd2 (R := (R : Int)) (by omega) (by omega) (2 * R) (by omega)
  have a3 := (ar_bd (R := (R : Int)) (by omega) (2 * R) (by omega)).1.2
  have e3 : (2 * (R : Int)) * ((2 * R : Nat) : Int) = 4 * (R : Int) * (R : Int) := by
    have e : ((2 * R : Nat) : Int) = 2 * (R : Int) := by omega
    rw [e, Int.mul_assoc 2 (R : Int) (2 * (R : Int)), Int.mul_left_comm (R : Int) 2 (R : Int), ← Int.mul_assoc 2 2, Int.mul_assoc 4]
    rfl
  rw [e3] at a3
  have d1 := dLoS (r := (R : Int)) (L := L) (lv := lv1) dLv1 (by rw [c1]; omega) (by rw [c1]; omega) hL0 hL1
  have d2 := dLoS (r := (R : Int)) (L := L) (lv := lv2) (dLv2 h0 h1) (by rw [c2]; omega) (by rw [c2]; omega) hL0 hL1
  have d3 := dHiS (r := (R : Int)) (L := L) (lv := lv1) dLv1 (by rw [c1]; omega) (by rw [c1]; omega) hL0 hL1
  have d4 := dHiS (r := (R : Int)) (L := L) (lv := lv2) (dLv2 h0 h1) (by rw [c2]; omega) (by rw [c2]; omega) hL0 hL1
  rw [c1] at d1 d3
  rw [c2] at d2 d4
  have m3 := dM (r := (R : Int)) (L := L) (k := 3) (by decide) (by decide) h0 h1 hL0 hL1
  have m4 := dM (r := (R : Int)) (L := L) (k := 4) (by decide) (by decide) h0 h1 hL0 hL1
  -- the products, under letters
  obtain ⟨X1, hX1⟩ : ∃ z, L * arLo (R : Int) R = z := ⟨_, rfl⟩
  obtain ⟨X2, hX2⟩ : ∃ z, L * arLo (R : Int) (2 * R) = z := ⟨_, rfl⟩
  obtain ⟨Y1, hY1⟩ : ∃ z, L * arHi (R : Int) R = z := ⟨_, rfl⟩
  obtain ⟨Y2, hY2⟩ : ∃ z, L * arHi (R : Int) (2 * R) = z := ⟨_, rfl⟩
  obtain ⟨N3, hN3⟩ : ∃ z, 3 * (R : Int) * (R : Int) * L = z := ⟨_, rfl⟩
  obtain ⟨N4, hN4⟩ : ∃ z, 4 * (R : Int) * (R : Int) * L = z := ⟨_, rfl⟩
  have p1 : 2 * X1 ≤ X2 := by rw [← hX1, ← hX2, ← Int.mul_assoc, Int.mul_comm 2 L, Int.mul_assoc]; exact Int.mul_le_mul_of_nonneg_left q1 (by omega)
  have p2 : Y2 ≤ 2 * Y1 := by rw [← hY1, ← hY2, ← Int.mul_assoc, Int.mul_comm 2 L, Int.mul_assoc]; exact Int.mul_le_mul_of_nonneg_left q2 (by omega)
  have p3 : N3 ≤ Y2 := by rw [← hN3, ← hY2, Int.mul_comm]; exact Int.mul_le_mul_of_nonneg_left q3 (by omega)
  have p4 : X2 ≤ N4 := by rw [← hN4, ← hX2, Int.mul_comm (4 * (R : Int) * (R : Int)) L]; exact Int.mul_le_mul_of_nonneg_left a3 (by omega)
  have x1 : 0 ≤ X1 := by rw [← hX1]; exact Int.mul_nonneg (by omega) a1.1.1
  have y1 : 0 ≤ Y1 ∧ Y1 ≤ 3000 * 2561600 := by rw [← hY1]; exact ⟨Int.mul_nonneg (by omega) a1.2.1, Int.mul_le_mul hL1 a1.2.2 a1.2.1 (by omega)⟩
  have x2 : X2 ≤ 3000 * 2561600 := by rw [← hX2]; exact Int.mul_le_mul hL1 a2.1.2 a2.1.1 (by omega)
  have rr : (R : Int) * (R : Int) ≤ 60 * 60 := Int.mul_le_mul h1 h1 (by omega) (by omega)
  have rr0 : 0 ≤ (R : Int) * (R : Int) := Int.mul_nonneg (by omega) (by omega)
  have n3 : 0 ≤ N3 ∧ N3 ≤ 10800 * 3000 := by rw [← hN3, Int.mul_assoc 3]; exact ⟨Int.mul_nonneg (by omega) (by omega), Int.mul_le_mul (by omega) hL1 (by omega) (by omega)⟩
  have n4 : N4 ≤ 14400 * 3000 := by rw [← hN4, Int.mul_assoc 4]; exact Int.mul_le_mul (by omega) hL1 (by omega) (by omega)
  rw [hX1] at d1
  rw [hX2] at d2
  rw [hY1] at d3
  rw [hY2] at d4
  rw [hN3] at m3
  rw [hN4] at m4
  have hbase := okBase h0 h1 hL0 hL1 d1 d2 d3 d4 (by omega) (by omega) (by omega) (by omega)
  have all : ∀ {u2 u3 v1 v3 : Bool}, decide (N3 / 100000 < -((-Y2) / 100000)) = u2 → decide (N3 % 100000 = 0) = u3 → decide (X2 / 100000 < N4 / 100000) = v1 → decide (N4 % 100000 = 0) = v3 →
      ∀ f ∈ factsH false u2 u3 v1 false v3, ∃ x y, Dv (DH (R : Int) L) f.2.1 x ∧ Dv (DH (R : Int) L) f.2.2.1 y ∧ cmpN f.1 x y = f.2.2.2 := by
    intro u2 u3 v1 v3 g1 g2 g3 g4 f hf
    unfold factsH at hf
    rcases List.mem_append.1 hf with hf | hf
    · exact hbase f hf
    rcases List.mem_append.1 hf with hf | hf
    · exact okCmp d4 m3 (by omega) (by omega) (by omega) (by omega) (by simp; omega) g1 g2 f hf
    · exact okCmp d2 m4 (by omega) (by omega) (by omega) (by omega) g3 (by simp; omega) g4 f hf
  have go : ∀ {u2 u3 v1 v3 : Bool}, decide (N3 / 100000 < -((-Y2) / 100000)) = u2 → decide (N3 % 100000 = 0) = u3 → decide (X2 / 100000 < N4 / 100000) = v1 → decide (N4 % 100000 = 0) = v3 →
      (∀ ok, fstO (evDS (pgH (R : Int) L (factsH false u2 u3 v1 false v3) ok) spH 2000 60 (.fn 9) [rH, lH] .leaf 0) = some (.bool true)) →
      Calls Try.prog 9 #[.int .i64 (R : Int), .int .i64 L] w fun e w' => e = .returned (.bool true) ∧ Below w.heap.size w w' :=
    fun g1 g2 g3 g4 hrun => run_true rfl (by kernel_rfl) (okSpH h0 h1 _ (all g1 g2 g3 g4)) (hrun _) (argsH _ _) w
  by_cases s1 : N3 / 100000 < -((-Y2) / 100000)
  · by_cases s2 : X2 / 100000 < N4 / 100000
    · by_cases s3 : N3 % 100000 = 0 <;> by_cases s4 : N4 % 100000 = 0
      · exact go (decide_eq_true s1) (decide_eq_true s3) (decide_eq_true s2) (decide_eq_true s4) (halfRun1 _ _)
      · exact go (decide_eq_true s1) (decide_eq_true s3) (decide_eq_true s2) (decide_eq_false s4) (halfRun7 _ _)
      · exact go (decide_eq_true s1) (decide_eq_false s3) (decide_eq_true s2) (decide_eq_true s4) (halfRun8 _ _)
      · exact go (decide_eq_true s1) (decide_eq_false s3) (decide_eq_true s2) (decide_eq_false s4) (halfRun9 _ _)
    · by_cases s3 : N3 % 100000 = 0 <;> by_cases s4 : N4 % 100000 = 0
      · exact go (decide_eq_true s1) (decide_eq_true s3) (decide_eq_false s2) (decide_eq_true s4) (halfRun2 _ _)
      · exact go (decide_eq_true s1) (decide_eq_true s3) (decide_eq_false s2) (decide_eq_false s4) (halfRun3 _ _)
      · exact go (decide_eq_true s1) (decide_eq_false s3) (decide_eq_false s2) (decide_eq_true s4) (halfRun10 _ _)
      · exact go (decide_eq_true s1) (decide_eq_false s3) (decide_eq_false s2) (decide_eq_false s4) (halfRun11 _ _)
  · have s3 : N3 % 100000 = 0 := by omega
    by_cases s2 : X2 / 100000 < N4 / 100000 <;> by_cases s4 : N4 % 100000 = 0
    · exact go (decide_eq_false s1) (decide_eq_true s3) (decide_eq_true s2) (decide_eq_true s4) (halfRun4 _ _)
    · exact go (decide_eq_false s1) (decide_eq_true s3) (decide_eq_true s2) (decide_eq_false s4) (halfRun12 _ _)
    · exact go (decide_eq_false s1) (decide_eq_true s3) (decide_eq_false s2) (decide_eq_true s4) (halfRun5 _ _)
    · exact go (decide_eq_false s1) (decide_eq_true s3) (decide_eq_false s2) (decide_eq_false s4) (halfRun6 _ _)
theorem half_any (r L : Int) (w : World) : Calls Try.prog 9 #[.int .i64 r, .int .i64 L] w fun e w' => e = .returned (.bool true) ∧ Below w.heap.size w w' := by
  have one : ∀ {n : Nat} {c : Bool} {a b : Value} {x y : Int}, Dv (DH r L) a x → Dv (DH r L) b y → cmpN n x y = c → ∃ x y, Dv (DH r L) a x ∧ Dv (DH r L) b y ∧ cmpN n x y = c := fun h1 h2 h3 => ⟨_, _, h1, h2, h3⟩
  have f1 : ∀ c, decide (10 ≤ r) = c → ∃ x y, Dv (DH r L) (.int .i64 10) x ∧ Dv (DH r L) rH y ∧ cmpN 2 x y = c := fun c h => one (.lit 10) dR h
  have f2 : ∀ c, decide (r ≤ 60) = c → ∃ x y, Dv (DH r L) rH x ∧ Dv (DH r L) (.int .i64 60) y ∧ cmpN 2 x y = c := fun c h => one dR (.lit 60) h
  have f3 : ∀ c, decide (1 ≤ L) = c → ∃ x y, Dv (DH r L) (.int .i64 1) x ∧ Dv (DH r L) lH y ∧ cmpN 2 x y = c := fun c h => one (.lit 1) dL h
  have f4 : ∀ c, decide (L ≤ 3000) = c → ∃ x y, Dv (DH r L) lH x ∧ Dv (DH r L) (.int .i64 3000) y ∧ cmpN 2 x y = c := fun c h => one dL (.lit 3000) h
  by_cases h0 : 10 ≤ r
  · by_cases h1 : r ≤ 60
    · by_cases hL0 : 1 ≤ L
      · by_cases hL1 : L ≤ 3000
        · exact half_in h0 h1 hL0 hL1 w
        · refine run_true rfl (by kernel_rfl) (ok_spTrue awake04) (outRun4 r L fun f hf => ?_) (argsH _ _) w
          simp only [out4, List.mem_cons, List.not_mem_nil, or_false] at hf
          rcases hf with rfl | rfl | rfl | rfl
          · exact f1 _ (decide_eq_true h0)
          · exact f2 _ (decide_eq_true h1)
          · exact f3 _ (decide_eq_true hL0)
          · exact f4 _ (decide_eq_false hL1)
      · refine run_true rfl (by kernel_rfl) (ok_spTrue awake04) (outRun3 r L fun f hf => ?_) (argsH _ _) w
        simp only [out3, List.mem_cons, List.not_mem_nil, or_false] at hf
        rcases hf with rfl | rfl | rfl
        · exact f1 _ (decide_eq_true h0)
        · exact f2 _ (decide_eq_true h1)
        · exact f3 _ (decide_eq_false hL0)
    · refine run_true rfl (by kernel_rfl) (ok_spTrue awake04) (outRun2 r L fun f hf => ?_) (argsH _ _) w
      simp only [out2, List.mem_cons, List.not_mem_nil, or_false] at hf
      rcases hf with rfl | rfl
      · exact f1 _ (decide_eq_true h0)
      · exact f2 _ (decide_eq_false h1)
  · refine run_true rfl (by kernel_rfl) (ok_spTrue awake04) (outRun1 r L fun f hf => ?_) (argsH _ _) w
    simp only [out1, List.mem_cons, List.not_mem_nil, or_false] at hf
    subst hf
    exact f1 _ (decide_eq_false h0)
end
end Sy
end Go.Proofs.Ytagpaoglcjcaeaa
