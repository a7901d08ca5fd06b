/- The law GaugeHalves answers true for every input. -/
import Derived.Test.YtpidgcmdimjkoaaSH
import Derived.Test.YtpidgcmdimjkoaaSI
set_option linter.unusedVariables false
set_option linter.unusedSimpArgs false
namespace Go.Proofs.Ytpidgcmdimjkoaa
open Go.RowKit
namespace Sy
open Go.RowKit

theorem firstL_all0 : ∀ (l : List Int), (∀ x ∈ l, x = 0) → firstL l = 0
  | [], _ => rfl
  | x :: l, h => by
    unfold firstL
    rw [if_neg (by simp [h x List.mem_cons_self])]
    exact firstL_all0 l fun y hy => h y (List.mem_cons_of_mem _ hy)
theorem numE_in {n lo hi : Int} (h0 : lo ≤ n) (h1 : n ≤ hi) : numE n lo hi = 0 := by unfold numE; rw [if_pos (inB_yes h0 h1)]
theorem floorP_eq {n : Int} (h0 : -1000000000000000 ≤ n) (h1 : n ≤ 1000000000000000) : floorP n = n / 100000 := by
  unfold floorP
  by_cases hn : 0 ≤ n
  · rw [Int.tdiv_eq_ediv_of_nonneg hn, Int.tmod_eq_emod_of_nonneg hn, if_neg (by omega), IntWalk.wrap64_in _ (by omega)]
  · obtain ⟨e1, e2⟩ := tdiv_neg_facts n 100000 (by omega)
    rw [e1, e2]
    split
    · rw [IntWalk.wrap64_in (-(-n / 100000)) (by omega), IntWalk.wrap64_in _ (by omega)]; omega
    · rw [IntWalk.wrap64_in _ (by omega)]; omega
theorem ceilP_eq {n : Int} (h0 : -1000000000000000 ≤ n) (h1 : n ≤ 1000000000000000) : ceilP n = -((-n) / 100000) := by
  unfold ceilP
  rw [IntWalk.i64_in _ (by omega), floorP_eq (by omega) (by omega), IntWalk.wrap64_in _ (by omega)]
theorem name_c : nameB cName = true := by decide +kernel

abbrev DH (r L : Int) : Dn := denG cName (holeH r L) (fun _ => False)
section
variable {r L : Int}
theorem dR : Dv (DH r L) rH r := .hole rfl
theorem dL : Dv (DH r L) lH L := .hole rfl
theorem dIn : Dv (DH r L) inH r := by have h : Dv (DH r L) inH (binN 4 r r) := .bin (t := 4) (by decide) dR dR; rwa [show binN 4 r r = r from Int.min_self r] at h
theorem dOut : Dv (DH r L) outH r := by have h : Dv (DH r L) outH (binN 5 r r) := .bin (t := 5) (by decide) dR dR; rwa [show binN 5 r r = r from Int.max_self r] at h
theorem dTop (h0 : 10 ≤ r) (h1 : r ≤ 60) : Dv (DH r L) topH (2 * r) := by
  have h : Dv (DH r L) topH (binN 3 2 r) := .bin (t := 3) (by decide) (.lit 2) dR
  rwa [show binN 3 2 r = 2 * r from IntWalk.i64_in _ (by omega)] at h
theorem dLv1 : Dv (DH r L) lv1 0 := by
  have h : Dv (DH r L) lv1 (binN 2 r r) := .bin (t := 2) (by decide) dR dR
  rwa [show binN 2 r r = 0 from by show IntKind.i64.wrap (r - r) = 0; rw [Int.sub_self]; exact IntWalk.i64_in _ (by omega)] at h
theorem dLv2 (h0 : 10 ≤ r) (h1 : r ≤ 60) : Dv (DH r L) lv2 r := by
  have h : Dv (DH r L) lv2 (binN 2 (2 * r) r) := .bin (t := 2) (by decide) (dTop h0 h1) dR
  rwa [show binN 2 (2 * r) r = r from by show IntKind.i64.wrap (2 * r - r) = r; rw [IntWalk.i64_in _ (by omega)]; omega] at h
/-- a sum of one stretch -/
theorem dSum {lv : Value} {l A : Int} {a : Value} (ha : Dv (DH r L) a A) (hA0 : 0 ≤ A) (hA1 : A ≤ 2561600) (hL0 : 1 ≤ L) (hL1 : L ≤ 3000) :
    Dv (DH r L) (.iface 1 (.tuple #[.int .i64 0, .iface 3 (.tuple #[.iface 2 (.tuple #[lH, .int .i64 0]), a])])) (L * A) := by
  have hLA : 0 ≤ L * A ∧ L * A ≤ 3000 * 2561600 := ⟨Int.mul_nonneg (by omega) hA0, Int.mul_le_mul hL1 hA1 hA0 (by omega)⟩
  have h : Dv (DH r L) (.iface 1 (.tuple #[.int .i64 0, .iface 3 (.tuple #[.iface 2 (.tuple #[lH, .int .i64 0]), a])])) (binN 1 0 (binN 3 (binN 2 L 0) A)) :=
    .bin (t := 1) (by decide) (.lit 0) (.bin (t := 3) (by decide) (.bin (t := 2) (by decide) dL (.lit 0)) ha)
  rwa [show binN 1 0 (binN 3 (binN 2 L 0) A) = L * A from by
    show IntKind.i64.wrap (0 + IntKind.i64.wrap (IntKind.i64.wrap (L - 0) * A)) = L * A
    rw [Int.sub_zero, IntWalk.i64_in L (by omega), IntWalk.i64_in (L * A) (by omega), Int.zero_add, IntWalk.i64_in (L * A) (by omega)]] at h
theorem dLoS {lv : Value} {l : Int} (hl : Dv (DH r L) lv l) (hA0 : 0 ≤ arLo r (clampJ r l)) (hA1 : arLo r (clampJ r l) ≤ 2561600) (hL0 : 1 ≤ L) (hL1 : L ≤ 3000) : Dv (DH r L) (loS lv) ((L * arLo r (clampJ r l)) / 100000) := by
  have hLA : 0 ≤ L * arLo r (clampJ r l) ∧ L * arLo r (clampJ r l) ≤ 3000 * 2561600 := ⟨Int.mul_nonneg (by omega) hA0, Int.mul_le_mul hL1 hA1 hA0 (by omega)⟩
  have h := app1 (t := 105) (by decide) (dSum (lv := lv) (l := l) (app2 (t := 101) (by decide) (dIn (r := r) (L := L)) hl) hA0 hA1 hL0 hL1)
  rw [← floorP_eq (by omega) (by omega)]
  exact h
theorem dHiS {lv : Value} {l : Int} (hl : Dv (DH r L) lv l) (hA0 : 0 ≤ arHi r (clampJ r l)) (hA1 : arHi r (clampJ r l) ≤ 2561600) (hL0 : 1 ≤ L) (hL1 : L ≤ 3000) : Dv (DH r L) (hiS lv) (-((-(L * arHi r (clampJ r l))) / 100000)) := by
  have hLA : 0 ≤ L * arHi r (clampJ r l) ∧ L * arHi r (clampJ r l) ≤ 3000 * 2561600 := ⟨Int.mul_nonneg (by omega) hA0, Int.mul_le_mul hL1 hA1 hA0 (by omega)⟩
  have h := app1 (t := 106) (by decide) (dSum (lv := lv) (l := l) (app2 (t := 102) (by decide) (dOut (r := r) (L := L)) hl) hA0 hA1 hL0 hL1)
  rw [← ceilP_eq (by omega) (by omega)]
  exact h
theorem dM {k : Int} (hk0 : 3 ≤ k) (hk1 : k ≤ 4) (h0 : 10 ≤ r) (h1 : r ≤ 60) (hL0 : 1 ≤ L) (hL1 : L ≤ 3000) : Dv (DH r L) (mH k) (k * r * r * L) := by
  have b1 : 0 ≤ k * r ∧ k * r ≤ 4 * 60 := ⟨Int.mul_nonneg (by omega) (by omega), Int.mul_le_mul hk1 h1 (by omega) (by omega)⟩
  have b2 : 0 ≤ k * r * r ∧ k * r * r ≤ 240 * 60 := ⟨Int.mul_nonneg b1.1 (by omega), Int.mul_le_mul b1.2 h1 (by omega) (by omega)⟩
  have b3 : 0 ≤ k * r * r * L ∧ k * r * r * L ≤ 14400 * 3000 := ⟨Int.mul_nonneg b2.1 (by omega), Int.mul_le_mul b2.2 hL1 (by omega) (by omega)⟩
  have h : Dv (DH r L) (mH k) (binN 3 (binN 3 (binN 3 k r) r) L) := .bin (t := 3) (by decide) (.bin (t := 3) (by decide) (.bin (t := 3) (by decide) (.lit k) dR) dR) dL
  rwa [show binN 3 (binN 3 (binN 3 k r) r) L = k * r * r * L from by
    show IntKind.i64.wrap (IntKind.i64.wrap (IntKind.i64.wrap (k * r) * r) * L) = _
    rw [IntWalk.i64_in (k * r) (by omega), IntWalk.i64_in (k * r * r) (by omega), IntWalk.i64_in _ (by omega)]] at h
theorem caskH (h0 : 10 ≤ r) (h1 : r ≤ 60) (hL0 : 1 ≤ L) (hL1 : L ≤ 3000) : (caskS cName r [0, r, r, L, r, r]).2 = 0 := by
  have hlen : [0, r, r, L, r, r].length / 3 = 2 := by simp
  have hc : caskE cName r 2 = 0 := by
    refine firstL_all0 _ fun x hx => ?_
    simp only [List.mem_cons, List.not_mem_nil, or_false] at hx
    rcases hx with rfl | rfl | rfl | rfl
    · rw [name_c]; rfl
    · exact numE_in h0 (by omega)
    · decide
    · decide
  unfold caskS
  rw [hlen, if_neg (by rw [hc]; simp)]
  have st : ∀ i, i < 2 → snE r (snOf [0, r, r, L, r, r]) i = 0 := by
    intro i hi
    refine firstL_all0 _ fun x hx => ?_
    simp only [List.mem_cons, List.not_mem_nil, or_false] at hx
    rcases hx with rfl | rfl
    · refine firstL_all0 _ fun x hx => ?_
      simp only [List.mem_cons, List.not_mem_nil, or_false] at hx
      match i, hi with
      | 0, _ =>
        rcases hx with rfl | rfl | rfl | rfl
        · exact numE_in (n := (0 : Int)) (by decide) (by decide)
        · exact numE_in h0 (Int.le_refl _)
        · exact numE_in h0 (Int.le_refl _)
        · show unlE (decide (r ≤ r)) 9 = 0; simp [unlE]
      | 1, _ =>
        rcases hx with rfl | rfl | rfl | rfl
        · exact numE_in (n := L) (by omega) (by omega)
        · exact numE_in h0 (Int.le_refl _)
        · exact numE_in h0 (Int.le_refl _)
        · show unlE (decide (r ≤ r)) 9 = 0; simp [unlE]
    · match i, hi with
      | 0, _ => rfl
      | 1, _ =>
        show unlE (decide (1 = 0) || decide ((0 : Int) < L)) 9 = 0
        rw [decide_eq_true (show (0 : Int) < L by omega)]
        rfl
  show (eachF (snE r (snOf [0, r, r, L, r, r])) 2 0).2 = 0
  simp only [eachF, st 0 (by decide), st 1 (by decide), if_true]
theorem dErrH : Dv (DH r L) errH (caskS cName r [0, r, r, L, r, r]).2 :=
  .app (t := 121) (xs := [r, 0, r, r, L, r, r]) (by decide) rfl (fun i v x hv hx => by
    match i with
    | 0 => simp [rowH] at hv hx; subst hv hx; exact dR
    | 1 => simp [rowH] at hv hx; subst hv hx; exact .lit 0
    | 2 => simp [rowH] at hv hx; subst hv hx; exact dR
    | 3 => simp [rowH] at hv hx; subst hv hx; exact dR
    | 4 => simp [rowH] at hv hx; subst hv hx; exact dL
    | 5 => simp [rowH] at hv hx; subst hv hx; exact dR
    | 6 => simp [rowH] at hv hx; subst hv hx; exact dR
    | i + 7 => simp [rowH] at hv)
theorem dDipH {d : Value} {z : Int} (hd : Dv (DH r L) d z) (h0 : 10 ≤ r) (h1 : r ≤ 60) : Dv (DH r L) (dipH d) (firstL [0, numE z 0 (2 * r)]) :=
  app2 (t := 104) (by decide) (.lit 0) (app3 (t := 103) (by decide) hd (.lit 0) (dTop h0 h1))

/-- everything that the reckoning takes as known, but for how the two numbers compare -/
theorem okBase (h0 : 10 ≤ r) (h1 : r ≤ 60) (hL0 : 1 ≤ L) (hL1 : L ≤ 3000) {lo1 lo2 hi1 hi2 : Int} (d1 : Dv (DH r L) (loS lv1) lo1) (d2 : Dv (DH r L) (loS lv2) lo2) (d3 : Dv (DH r L) (hiS lv1) hi1) (d4 : Dv (DH r L) (hiS lv2) hi2)
    (b1 : 0 ≤ lo1 ∧ lo1 ≤ 1000000) (b3 : 0 ≤ hi1 ∧ hi1 ≤ 1000000) (hlo : 2 * lo1 ≤ lo2) (hhi : hi2 ≤ 2 * hi1) : ∀ f ∈ baseF, ∃ x y, Dv (DH r L) f.2.1 x ∧ Dv (DH r L) f.2.2.1 y ∧ cmpN f.1 x y = f.2.2.2 := by
  intro f hf
  have two : ∀ {a : Value} {z : Int}, Dv (DH r L) a z → 0 ≤ z → z ≤ 1000000 → Dv (DH r L) (.iface 3 (.tuple #[.int .i64 2, a])) (2 * z) := by
    intro a z ha z0 z1
    have h : Dv (DH r L) (.iface 3 (.tuple #[.int .i64 2, a])) (binN 3 2 z) := .bin (t := 3) (by decide) (.lit 2) ha
    rwa [show binN 3 2 z = 2 * z from IntWalk.i64_in _ (by omega)] at h
  simp only [baseF, List.mem_cons, List.not_mem_nil, or_false] at hf
  rcases hf with rfl | rfl | rfl | rfl | rfl | rfl | rfl | rfl | rfl
  · exact ⟨10, r, .lit 10, dR, decide_eq_true h0⟩
  · exact ⟨r, 60, dR, .lit 60, decide_eq_true h1⟩
  · exact ⟨1, L, .lit 1, dL, decide_eq_true hL0⟩
  · exact ⟨L, 3000, dL, .lit 3000, decide_eq_true hL1⟩
  · exact ⟨_, 0, dErrH, .lit 0, by rw [caskH h0 h1 hL0 hL1]; rfl⟩
  · exact ⟨_, 0, dDipH dR h0 h1, .lit 0, by rw [firstL_all0 _ (by intro x hx; simp at hx; rcases hx with rfl | rfl <;> first | rfl | exact numE_in (by omega) (by omega))]; rfl⟩
  · exact ⟨_, 0, dDipH (dTop h0 h1) h0 h1, .lit 0, by rw [firstL_all0 _ (by intro x hx; simp at hx; rcases hx with rfl | rfl <;> first | rfl | exact numE_in (by omega) (by omega))]; rfl⟩
  · exact ⟨2 * lo1, lo2, two d1 b1.1 b1.2, d2, decide_eq_true hlo⟩
  · exact ⟨hi2, 2 * hi1, d4, two d3 b3.1 b3.2, decide_eq_true hhi⟩
/-- how a number compares with a part of a hundred thousand of another one -/
theorem okCmp {a m : Value} {x y : Int} (ha : Dv (DH r L) a x) (hm : Dv (DH r L) m y) (x0 : 0 ≤ x) (x1 : x ≤ 100000000) (y0 : 0 ≤ y) (y1 : y ≤ 1000000000) {c1 c2 c3 : Bool} (h1 : decide (x < y / 100000) = c1) (h2 : decide (y / 100000 < x) = c2) (h3 : decide (y % 100000 = 0) = c3) :
    ∀ f ∈ cmpF a m c1 c2 c3, ∃ x y, Dv (DH r L) f.2.1 x ∧ Dv (DH r L) f.2.2.1 y ∧ cmpN f.1 x y = f.2.2.2 := by
  intro f hf
  have dp : Dv (DH r L) (pC a) x := by
    have h : Dv (DH r L) (pC a) (binN 6 x 1) := .bin (t := 6) (by decide) ha (.lit 1)
    rwa [show binN 6 x 1 = x from by show IntKind.i64.wrap (x.tdiv 1) = x; rw [Int.tdiv_one, IntWalk.i64_in _ (by omega)]] at h
  have dq : Dv (DH r L) (qC m) (y / 100000) := by
    have h := app1 (t := 105) (by decide) hm
    rw [← floorP_eq (by omega) (by omega)]
    exact h
  have drem : Dv (DH r L) (.iface 7 (.tuple #[a, .int .i64 1])) 0 := by
    have h : Dv (DH r L) (.iface 7 (.tuple #[a, .int .i64 1])) (binN 7 x 1) := .bin (t := 7) (by decide) ha (.lit 1)
    rwa [show binN 7 x 1 = 0 from Int.tmod_one x] at h
  have dn : Dv (DH r L) (.iface 2 (.tuple #[a, .iface 3 (.tuple #[pC a, .int .i64 1])])) 0 := by
    have h : Dv (DH r L) (.iface 2 (.tuple #[a, .iface 3 (.tuple #[pC a, .int .i64 1])])) (binN 2 x (binN 3 x 1)) := .bin (t := 2) (by decide) ha (.bin (t := 3) (by decide) dp (.lit 1))
    rwa [show binN 2 x (binN 3 x 1) = 0 from by show IntKind.i64.wrap (x - IntKind.i64.wrap (x * 1)) = 0; rw [Int.mul_one, IntWalk.i64_in x (by omega), Int.sub_self, IntWalk.i64_in _ (by omega)]] at h
  have dm : Dv (DH r L) (.iface 2 (.tuple #[m, .iface 3 (.tuple #[qC m, .int .i64 100000])])) (y % 100000) := by
    have h : Dv (DH r L) (.iface 2 (.tuple #[m, .iface 3 (.tuple #[qC m, .int .i64 100000])])) (binN 2 y (binN 3 (y / 100000) 100000)) := .bin (t := 2) (by decide) hm (.bin (t := 3) (by decide) dq (.lit 100000))
    rwa [show binN 2 y (binN 3 (y / 100000) 100000) = y % 100000 from by show IntKind.i64.wrap (y - IntKind.i64.wrap (y / 100000 * 100000)) = _; rw [IntWalk.i64_in (y / 100000 * 100000) (by omega), IntWalk.i64_in _ (by omega)]; omega] at h
  simp only [cmpF, List.mem_cons, List.not_mem_nil, or_false] at hf
  rcases hf with rfl | rfl | rfl | rfl | rfl
  · exact ⟨0, 0, drem, .lit 0, rfl⟩
  · exact ⟨x, _, dp, dq, h1⟩
  · exact ⟨_, x, dq, dp, h2⟩
  · exact ⟨0, 0, dn, .lit 0, rfl⟩
  · exact ⟨_, 0, dm, .lit 0, h3⟩
end
end Sy
end Go.Proofs.Ytpidgcmdimjkoaa
