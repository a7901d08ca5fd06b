/- Areas of circles: they do not fall with the level nor with the radius, and what is above is what is below; sums over a cask. -/
import Derived.Test.YtpfhfphcmomfdaaSD
import Derived.Test.YtpfhfphcmomfdaaJA
import Derived.Test.YtpfhfphcmomfdaaSO
set_option linter.unusedVariables false
set_option linter.unusedSimpArgs false
namespace Go.Proofs.Ytpfhfphcmomfdaa
open Go.RowKit
namespace Sy
open Go.RowKit

theorem sum_sym {S g : Nat → Int} (h0 : S 0 = 0) (hS : ∀ k, S (k + 1) = S k + g k) {M : Nat} (hg : ∀ k, k < M → g (M - 1 - k) = g k) : ∀ K, K ≤ M → S K + S (M - K) = S M
  | 0, _ => by rw [h0, Nat.sub_zero]; omega
  | K + 1, hK => by
    have h1 := sum_sym h0 hS hg K (by omega)
    have h2 := hS (M - (K + 1))
    rw [show M - (K + 1) + 1 = M - K by omega, show M - (K + 1) = M - 1 - K by omega, hg K (by omega)] at h2
    rw [hS K, show M - (K + 1) = M - 1 - K by omega]
    omega
theorem sqW_neg (R y : Int) : sqW R (-y) = sqW R y := by unfold sqW; rw [Int.neg_mul_neg]
theorem turn_at {R k : Nat} (hk : k < 2 * R) : sqW (R : Int) (-(R : Int) + ((2 * R - 1 - k : Nat) : Int)) = sqW (R : Int) (-(R : Int) + (k : Int) + 1) ∧ sqW (R : Int) (-(R : Int) + ((2 * R - 1 - k : Nat) : Int) + 1) = sqW (R : Int) (-(R : Int) + (k : Int)) := by
  refine ⟨?_, ?_⟩
  · rw [← sqW_neg (R : Int) (-(R : Int) + (k : Int) + 1)]; congr 1; omega
  · rw [← sqW_neg (R : Int) (-(R : Int) + (k : Int))]; congr 1; omega
theorem arLo_turn (R : Nat) {K : Nat} (hK : K ≤ 2 * R) : arLo (R : Int) K + arLo (R : Int) (2 * R - K) = arLo (R : Int) (2 * R) :=
  sum_sym (S := arLo (R : Int)) (g := fun k => min (rt (sqW (R : Int) (-(R : Int) + (k : Int)))) (rt (sqW (R : Int) (-(R : Int) + (k : Int) + 1)))) rfl (fun k => rfl) (M := 2 * R) (fun k hk => by
    show min _ _ = min _ _
    rw [(turn_at hk).1, (turn_at hk).2, Int.min_comm]) K hK
theorem arHi_turn (R : Nat) {K : Nat} (hK : K ≤ 2 * R) : arHi (R : Int) K + arHi (R : Int) (2 * R - K) = arHi (R : Int) (2 * R) :=
  sum_sym (S := arHi (R : Int)) (g := fun k => max (rtUp (sqW (R : Int) (-(R : Int) + (k : Int)))) (rtUp (sqW (R : Int) (-(R : Int) + (k : Int) + 1)))) rfl (fun k => rfl) (M := 2 * R) (fun k hk => by
    show max _ _ = max _ _
    rw [(turn_at hk).1, (turn_at hk).2, Int.max_comm]) K hK
/-- at levels as far above the middle as below it -/
theorem clamp_turn {r L : Int} (hr : 0 ≤ r) : clampJ r L ≤ 2 * r.toNat ∧ clampJ r (-L) = 2 * r.toNat - clampJ r L := by unfold clampJ; omega
theorem clamp_all {r L : Int} (hr : 0 ≤ r) (hL : r ≤ L) : clampJ r L = 2 * r.toNat := by unfold clampJ; omega
theorem area_turn {r L B : Int} (hr : 0 ≤ r) (hB : r ≤ B) : arLo r (clampJ r L) + arLo r (clampJ r (-L)) = arLo r (clampJ r B) ∧ arHi r (clampJ r L) + arHi r (clampJ r (-L)) = arHi r (clampJ r B) := by
  obtain ⟨h1, h2⟩ := clamp_turn (L := L) hr
  rw [h2, clamp_all hr hB]
  have e : r = ((r.toNat : Nat) : Int) := by omega
  have a := arLo_turn r.toNat h1
  have b := arHi_turn r.toNat h1
  rw [← e] at a b
  exact ⟨a, b⟩
/-- deeper is not less -/
theorem ar_up {R : Int} (hR : 0 ≤ R) : ∀ (d i : Nat), ((i + d : Nat) : Int) ≤ 2 * R → arLo R i ≤ arLo R (i + d) ∧ arHi R i ≤ arHi R (i + d)
  | 0, i, _ => ⟨Int.le_refl _, Int.le_refl _⟩
  | d + 1, i, h => by
    have h1 := ar_up hR d i (by omega)
    have h2 := ar_step hR (i + d) (by omega)
    rw [show i + (d + 1) = i + d + 1 by omega]
    omega
theorem ar_le_of {R : Int} (hR : 0 ≤ R) {i j : Nat} (h : i ≤ j) (hj : (j : Int) ≤ 2 * R) : arLo R i ≤ arLo R j ∧ arHi R i ≤ arHi R j := by
  have := ar_up hR (j - i) i (by omega)
  rwa [show i + (j - i) = j by omega] at this
theorem area_deeper {r L M : Int} (hr : 0 ≤ r) (h : L ≤ M) : arLo r (clampJ r L) ≤ arLo r (clampJ r M) ∧ arHi r (clampJ r L) ≤ arHi r (clampJ r M) :=
  ar_le_of hr (by unfold clampJ; omega) (by unfold clampJ; omega)
/-- wider is not less -/
theorem sqW_wider {R y : Int} (hR : 0 ≤ R) : sqW R y ≤ sqW (R + 1) y := by
  unfold sqW
  have : R * R ≤ (R + 1) * (R + 1) := Int.mul_le_mul (by omega) (by omega) hR (by omega)
  omega
theorem ar_wider1 {R : Int} (hR : 0 ≤ R) : ∀ (j : Nat), (j : Int) ≤ 2 * R → arLo R j ≤ arLo (R + 1) (j + 1) ∧ arHi R j ≤ arHi (R + 1) (j + 1)
  | 0, _ => by
    have := ar_up (R := R + 1) (by omega) 1 0 (by omega)
    exact this
  | j + 1, h => by
    obtain ⟨h1, h2⟩ := ar_wider1 hR j (by omega)
    have b0 := sqW_bd (R := R) (y := -R + (j : Int)) hR (by omega) (by omega)
    have b1 := sqW_bd (R := R) (y := -R + (j : Int) + 1) hR (by omega) (by omega)
    have e0 : -(R + 1) + ((j + 1 : Nat) : Int) = -R + (j : Int) := by omega
    have m0 := rt_mono b0.1 (sqW_wider (y := -R + (j : Int)) hR)
    have m1 := rt_mono b1.1 (sqW_wider (y := -R + (j : Int) + 1) hR)
    have u0 := rtUp_mono b0.1 (sqW_wider (y := -R + (j : Int)) hR)
    have u1 := rtUp_mono b1.1 (sqW_wider (y := -R + (j : Int) + 1) hR)
    rw [arLo, arHi, arLo, arHi, e0]
    omega
theorem area_wider1 {r L : Int} (hr : 0 ≤ r) : arLo r (clampJ r L) ≤ arLo (r + 1) (clampJ (r + 1) L) ∧ arHi r (clampJ r L) ≤ arHi (r + 1) (clampJ (r + 1) L) := by
  by_cases h : 0 ≤ r + L
  · have h1 := ar_wider1 hr (clampJ r L) (by unfold clampJ; omega)
    have h2 := ar_le_of (R := r + 1) (by omega) (i := clampJ r L + 1) (j := clampJ (r + 1) L) (by unfold clampJ; omega) (by unfold clampJ; omega)
    omega
  · have e : clampJ r L = 0 := by unfold clampJ; omega
    rw [e]
    have h2 := ar_le_of (R := r + 1) (by omega) (i := 0) (j := clampJ (r + 1) L) (by omega) (by unfold clampJ; omega)
    exact h2
theorem area_wider {L : Int} : ∀ (d : Nat) {r : Int}, 0 ≤ r → arLo r (clampJ r L) ≤ arLo (r + d) (clampJ (r + d) L) ∧ arHi r (clampJ r L) ≤ arHi (r + d) (clampJ (r + d) L)
  | 0, r, _ => by rw [show r + ((0 : Nat) : Int) = r by omega]; exact ⟨Int.le_refl _, Int.le_refl _⟩
  | d + 1, r, hr => by
    have h1 := area_wider (L := L) d hr
    have h2 := area_wider1 (r := r + d) (L := L) (by omega)
    rw [show r + ((d + 1 : Nat) : Int) = r + d + 1 by omega]
    omega
theorem area_wide {r t L : Int} (hr : 0 ≤ r) (h : r ≤ t) : arLo r (clampJ r L) ≤ arLo t (clampJ t L) ∧ arHi r (clampJ r L) ≤ arHi t (clampJ t L) := by
  have := area_wider (L := L) (t - r).toNat hr
  rwa [show r + ((t - r).toNat : Int) = t by omega] at this
/-! Sums over a cask, as they are. -/
def rIn (xs : List Int) (k : Nat) : Int := min (xs.getD (k * 3 + 1) 0) (xs.getD ((k + 1) * 3 + 1) 0)
def rOut (xs : List Int) (k : Nat) : Int := max (xs.getD (k * 3 + 2) 0) (xs.getD ((k + 1) * 3 + 2) 0)
def dAt (xs : List Int) (k : Nat) : Int := xs.getD ((k + 1) * 3) 0 - xs.getD (k * 3) 0
def loP (L : Int) (xs : List Int) : Nat → Int
  | 0 => 0
  | k + 1 => loP L xs k + dAt xs k * arLo (rIn xs k) (clampJ (rIn xs k) L)
def hiP (L : Int) (xs : List Int) : Nat → Int
  | 0 => 0
  | k + 1 => hiP L xs k + dAt xs k * arHi (rOut xs k) (clampJ (rOut xs k) L)
structure Seg (bung : Int) (xs : List Int) (k : Nat) : Prop where
  d0 : 1 ≤ dAt xs k
  d1 : dAt xs k ≤ 3000
  i0 : 10 ≤ rIn xs k
  i1 : rIn xs k ≤ bung
  o0 : 10 ≤ rOut xs k
  o1 : rOut xs k ≤ bung
theorem seg_of {bung : Int} {xs : List Int} {N k : Nat} (hc : CaskOk bung xs N) (hk : k + 1 < N) : Seg bung xs k := by
  obtain ⟨a1, a2, a3, a4, a5, a6, a7⟩ := hc.st k (by omega)
  obtain ⟨b1, b2, b3, b4, b5, b6, b7⟩ := hc.st (k + 1) hk
  have hu := hc.up (k + 1) (by omega) hk
  rw [show k + 1 - 1 = k by omega] at hu
  refine ⟨?_, ?_, ?_, ?_, ?_, ?_⟩ <;> simp only [dAt, rIn, rOut] <;> omega
theorem sums_bd {bung L : Int} {xs : List Int} {N : Nat} (hc : CaskOk bung xs N) : ∀ k, k < N → (loZ L xs k = loP L xs k ∧ hiZ L xs k = hiP L xs k) ∧ (0 ≤ loP L xs k ∧ loP L xs k ≤ k * 7684800000) ∧ (0 ≤ hiP L xs k ∧ hiP L xs k ≤ k * 7684800000)
  | 0, _ => ⟨⟨rfl, rfl⟩, ⟨by simp [loP], by simp [loP]⟩, ⟨by simp [hiP], by simp [hiP]⟩⟩
  | k + 1, hk => by
    obtain ⟨⟨e1, e2⟩, ⟨p0, p1⟩, ⟨q0, q1⟩⟩ := sums_bd (L := L) hc k (by omega)
    have s := seg_of hc hk
    have h8 := hc.hi
    have h12 := hc.twelve
    have bi := (ar_bd2 (R := rIn xs k) (by have := s.i0; omega) (by have := s.i1; omega) (clampJ (rIn xs k) L) (by have := s.i0; unfold clampJ; omega)).1
    have bo := (ar_bd2 (R := rOut xs k) (by have := s.o0; omega) (by have := s.o1; omega) (clampJ (rOut xs k) L) (by have := s.o0; unfold clampJ; omega)).2
    have mi : 0 ≤ dAt xs k * arLo (rIn xs k) (clampJ (rIn xs k) L) ∧ dAt xs k * arLo (rIn xs k) (clampJ (rIn xs k) L) ≤ 3000 * 2561600 := ⟨Int.mul_nonneg (by have := s.d0; omega) bi.1, Int.mul_le_mul s.d1 bi.2 bi.1 (by omega)⟩
    have mo : 0 ≤ dAt xs k * arHi (rOut xs k) (clampJ (rOut xs k) L) ∧ dAt xs k * arHi (rOut xs k) (clampJ (rOut xs k) L) ≤ 3000 * 2561600 := ⟨Int.mul_nonneg (by have := s.d0; omega) bo.1, Int.mul_le_mul s.d1 bo.2 bo.1 (by omega)⟩
    have d0 := s.d0
    have d1 := s.d1
    have ed : IntKind.i64.wrap (xs.getD ((k + 1) * 3 + 0) 0 - xs.getD (k * 3 + 0) 0) = dAt xs k := IntWalk.i64_in _ (by have : xs.getD ((k + 1) * 3 + 0) 0 - xs.getD (k * 3 + 0) 0 = dAt xs k := rfl; omega)
    refine ⟨⟨?_, ?_⟩, ⟨?_, ?_⟩, ⟨?_, ?_⟩⟩
    · show IntKind.i64.wrap (loZ L xs k + IntKind.i64.wrap (IntKind.i64.wrap (xs.getD ((k + 1) * 3 + 0) 0 - xs.getD (k * 3 + 0) 0) * arLo (rIn xs k) (clampJ (rIn xs k) L))) = loP L xs k + dAt xs k * arLo (rIn xs k) (clampJ (rIn xs k) L)
      rw [ed, e1, IntWalk.i64_in (dAt xs k * _) (by omega), IntWalk.i64_in _ (by omega)]
    · show IntKind.i64.wrap (hiZ L xs k + IntKind.i64.wrap (IntKind.i64.wrap (xs.getD ((k + 1) * 3 + 0) 0 - xs.getD (k * 3 + 0) 0) * arHi (rOut xs k) (clampJ (rOut xs k) L))) = hiP L xs k + dAt xs k * arHi (rOut xs k) (clampJ (rOut xs k) L)
      rw [ed, e2, IntWalk.i64_in (dAt xs k * _) (by omega), IntWalk.i64_in _ (by omega)]
    all_goals first | (show 0 ≤ loP L xs k + _; omega) | (show loP L xs k + _ ≤ _; omega) | (show 0 ≤ hiP L xs k + _; omega) | (show hiP L xs k + _ ≤ _; omega)
/-- what is above is what is below -/
theorem sums_turn {bung L : Int} {xs : List Int} {N : Nat} (hc : CaskOk bung xs N) : ∀ k, k < N → loP L xs k + loP (-L) xs k = loP bung xs k ∧ hiP L xs k + hiP (-L) xs k = hiP bung xs k
  | 0, _ => ⟨rfl, rfl⟩
  | k + 1, hk => by
    obtain ⟨h1, h2⟩ := sums_turn (L := L) hc k (by omega)
    have s := seg_of hc hk
    have a1 := (area_turn (r := rIn xs k) (L := L) (B := bung) (by have := s.i0; omega) s.i1).1
    have a2 := (area_turn (r := rOut xs k) (L := L) (B := bung) (by have := s.o0; omega) s.o1).2
    refine ⟨?_, ?_⟩
    · show loP L xs k + dAt xs k * _ + (loP (-L) xs k + dAt xs k * _) = loP bung xs k + dAt xs k * _
      rw [← a1, Int.mul_add, ← h1]
      omega
    · show hiP L xs k + dAt xs k * _ + (hiP (-L) xs k + dAt xs k * _) = hiP bung xs k + dAt xs k * _
      rw [← a2, Int.mul_add, ← h2]
      omega
theorem sums_deeper {bung L M : Int} {xs : List Int} {N : Nat} (hc : CaskOk bung xs N) (h : L ≤ M) : ∀ k, k < N → loP L xs k ≤ loP M xs k ∧ hiP L xs k ≤ hiP M xs k
  | 0, _ => ⟨Int.le_refl _, Int.le_refl _⟩
  | k + 1, hk => by
    obtain ⟨h1, h2⟩ := sums_deeper hc h k (by omega)
    have s := seg_of hc hk
    have a1 := Int.mul_le_mul_of_nonneg_left (area_deeper (r := rIn xs k) (by have := s.i0; omega) h).1 (show 0 ≤ dAt xs k by have := s.d0; omega)
    have a2 := Int.mul_le_mul_of_nonneg_left (area_deeper (r := rOut xs k) (by have := s.o0; omega) h).2 (show 0 ≤ dAt xs k by have := s.d0; omega)
    exact ⟨Int.add_le_add h1 a1, Int.add_le_add h2 a2⟩
/-- the ends of volumes, turned round -/
theorem ends_turn {bung L : Int} {xs : List Int} {N : Nat} (hc : CaskOk bung xs N) : (0 ≤ floorP (loZ bung xs (N - 1)) - floorP (loZ L xs (N - 1)) - floorP (loZ (-L) xs (N - 1)) ∧ floorP (loZ bung xs (N - 1)) - floorP (loZ L xs (N - 1)) - floorP (loZ (-L) xs (N - 1)) ≤ 1) ∧
    (0 ≤ ceilP (hiZ L xs (N - 1)) + ceilP (hiZ (-L) xs (N - 1)) - ceilP (hiZ bung xs (N - 1)) ∧ ceilP (hiZ L xs (N - 1)) + ceilP (hiZ (-L) xs (N - 1)) - ceilP (hiZ bung xs (N - 1)) ≤ 1) := by
  have h2 := hc.two
  have h12 := hc.twelve
  obtain ⟨⟨e1, e2⟩, p, q⟩ := sums_bd (L := L) hc (N - 1) (by omega)
  obtain ⟨⟨e3, e4⟩, p2, q2⟩ := sums_bd (L := -L) hc (N - 1) (by omega)
  obtain ⟨⟨e5, e6⟩, p3, q3⟩ := sums_bd (L := bung) hc (N - 1) (by omega)
  obtain ⟨t1, t2⟩ := sums_turn (L := L) hc (N - 1) (by omega)
  rw [e1, e2, e3, e4, e5, e6, floorP_eq (by omega) (by omega), floorP_eq (by omega) (by omega), floorP_eq (by omega) (by omega), ceilP_eq (by omega) (by omega), ceilP_eq (by omega) (by omega), ceilP_eq (by omega) (by omega)]
  omega
/-- a cask with wider curves -/
def Wider (xs ys : List Int) (N : Nat) : Prop := ∀ i, i < N → ys.getD (i * 3) 0 = xs.getD (i * 3) 0 ∧ ys.getD (i * 3 + 1) 0 ≤ xs.getD (i * 3 + 1) 0 ∧ xs.getD (i * 3 + 2) 0 ≤ ys.getD (i * 3 + 2) 0
theorem sums_wider {bung L : Int} {xs ys : List Int} {N : Nat} (hc : CaskOk bung xs N) (hd : CaskOk bung ys N) (hw : Wider xs ys N) : ∀ k, k < N → loP L ys k ≤ loP L xs k ∧ hiP L xs k ≤ hiP L ys k
  | 0, _ => ⟨Int.le_refl _, Int.le_refl _⟩
  | k + 1, hk => by
    obtain ⟨h1, h2⟩ := sums_wider (L := L) hc hd hw k (by omega)
    have s := seg_of hc hk
    have t := seg_of hd hk
    obtain ⟨w1, w2, w3⟩ := hw k (by omega)
    obtain ⟨v1, v2, v3⟩ := hw (k + 1) hk
    have ed : dAt ys k = dAt xs k := by simp only [dAt]; rw [w1, v1]
    have ri : rIn ys k ≤ rIn xs k := by simp only [rIn]; omega
    have ro : rOut xs k ≤ rOut ys k := by simp only [rOut]; omega
    have a1 := Int.mul_le_mul_of_nonneg_left (area_wide (L := L) (by have := t.i0; omega) ri).1 (show 0 ≤ dAt xs k by have := s.d0; omega)
    have a2 := Int.mul_le_mul_of_nonneg_left (area_wide (L := L) (by have := s.o0; omega) ro).2 (show 0 ≤ dAt xs k by have := s.d0; omega)
    refine ⟨?_, ?_⟩
    · show loP L ys k + dAt ys k * _ ≤ loP L xs k + dAt xs k * _
      rw [ed]; exact Int.add_le_add h1 a1
    · show hiP L xs k + dAt xs k * _ ≤ hiP L ys k + dAt ys k * _
      rw [ed]; exact Int.add_le_add h2 a2
theorem sums_lohi {bung L : Int} {xs : List Int} {N : Nat} (hc : CaskOk bung xs N) : ∀ k, k < N → loP L xs k ≤ hiP L xs k
  | 0, _ => Int.le_refl _
  | k + 1, hk => by
    have h1 := sums_lohi (L := L) hc k (by omega)
    have s := seg_of hc hk
    obtain ⟨a1, a2, a3, a4, a5, a6, a7⟩ := hc.st k (by omega)
    have ri : rIn xs k ≤ rOut xs k := by simp only [rIn, rOut]; omega
    have a := (area_wide (L := L) (by have := s.i0; omega) ri).1
    have b := ar_le (rOut xs k) (clampJ (rOut xs k) L)
    exact Int.add_le_add h1 (Int.mul_le_mul_of_nonneg_left (Int.le_trans a b) (show 0 ≤ dAt xs k by have := s.d0; omega))
/-- the ends of volumes: deeper, wider, the less beside the greater -/
theorem ends_deeper {bung L M : Int} {xs ys : List Int} {N : Nat} (hc : CaskOk bung xs N) (hd : CaskOk bung ys N) (hw : Wider xs ys N) (h : L ≤ M) :
    floorP (loZ L xs (N - 1)) ≤ ceilP (hiZ L xs (N - 1)) ∧ floorP (loZ L xs (N - 1)) ≤ floorP (loZ M xs (N - 1)) ∧ ceilP (hiZ L xs (N - 1)) ≤ ceilP (hiZ M xs (N - 1)) ∧ floorP (loZ M ys (N - 1)) ≤ floorP (loZ M xs (N - 1)) ∧ ceilP (hiZ M xs (N - 1)) ≤ ceilP (hiZ M ys (N - 1)) := by
  have h2 := hc.two
  have h12 := hc.twelve
  obtain ⟨⟨e1, e2⟩, p, q⟩ := sums_bd (L := L) hc (N - 1) (by omega)
  obtain ⟨⟨e3, e4⟩, p2, q2⟩ := sums_bd (L := M) hc (N - 1) (by omega)
  obtain ⟨⟨e5, e6⟩, p3, q3⟩ := sums_bd (L := M) hd (N - 1) (by omega)
  have t1 := sums_deeper hc h (N - 1) (by omega)
  have t2 := sums_wider (L := M) hc hd hw (N - 1) (by omega)
  have t3 := sums_lohi (L := L) hc (N - 1) (by omega)
  rw [e1, e2, e3, e4, e5, e6]
  simp only [floorP_eq (show -1000000000000000 ≤ loP L xs (N - 1) by omega) (by omega), floorP_eq (show -1000000000000000 ≤ loP M xs (N - 1) by omega) (by omega), floorP_eq (show -1000000000000000 ≤ loP M ys (N - 1) by omega) (by omega),
    ceilP_eq (show -1000000000000000 ≤ hiP L xs (N - 1) by omega) (by omega), ceilP_eq (show -1000000000000000 ≤ hiP M xs (N - 1) by omega) (by omega), ceilP_eq (show -1000000000000000 ≤ hiP M ys (N - 1) by omega) (by omega)]
  omega
end Sy
end Go.Proofs.Ytpfhfphcmomfdaa
