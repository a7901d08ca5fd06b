/- Roots and areas, as plain numbers: no Go in sight. -/
import Derived.Test.YtlmnhlmgbcpclaaF1
namespace Go.Proofs.Ytlmnhlmgbcpclaa

/-- r is the root of n, rounded down -/
def isRt (r n : Int) : Prop := 0 ≤ r ∧ r * r ≤ n ∧ n < (r + 1) * (r + 1)
theorem isRt_le {r n x : Int} (h : isRt r n) (hx : 0 ≤ x) : x * x ≤ n ↔ x ≤ r := by
  obtain ⟨h0, h1, h2⟩ := h
  constructor
  · intro hxx
    rcases Int.lt_or_le r x with hlt | hge
    · have := Int.mul_le_mul (show r + 1 ≤ x by omega) (show r + 1 ≤ x by omega) (by omega) hx
      omega
    · exact hge
  · intro hxr
    exact Int.le_trans (Int.mul_le_mul hxr hxr hx h0) h1
theorem isRt_one {r s n : Int} (h : isRt r n) (h' : isRt s n) : r = s := by
  have h1 := (isRt_le h h'.1).1 h'.2.1
  have h2 := (isRt_le h' h.1).1 h.2.1
  omega
def rtN : Nat → Nat
  | 0 => 0
  | n + 1 => if (rtN n + 1) * (rtN n + 1) ≤ n + 1 then rtN n + 1 else rtN n
theorem rtN_is : ∀ n : Nat, rtN n * rtN n ≤ n ∧ n < (rtN n + 1) * (rtN n + 1)
  | 0 => by decide
  | n + 1 => by
    obtain ⟨h1, h2⟩ := rtN_is n
    rw [rtN]
    split
    · rename_i h
      have e : (rtN n + 1 + 1) * (rtN n + 1 + 1) = (rtN n + 1) * (rtN n + 1) + 2 * (rtN n + 1) + 1 := by rw [Nat.add_mul, Nat.mul_add]; omega
      omega
    · omega
def rt (n : Int) : Int := (rtN n.toNat : Int)
theorem isRt_rt {n : Int} (h : 0 ≤ n) : isRt (rt n) n := by
  obtain ⟨h1, h2⟩ := rtN_is n.toNat
  unfold rt
  refine ⟨Int.natCast_nonneg _, ?_, ?_⟩
  · have := Int.ofNat_le.2 h1
    rw [Int.natCast_mul] at this
    omega
  · have := Int.ofNat_lt.2 h2
    rw [Int.natCast_mul, Int.natCast_succ] at this
    omega
theorem rt_mono {m n : Int} (h0 : 0 ≤ m) (h : m ≤ n) : rt m ≤ rt n :=
  (isRt_le (isRt_rt (Int.le_trans h0 h)) (isRt_rt h0).1).1 (Int.le_trans (isRt_rt h0).2.1 h)
/-- the root, rounded up -/
def rtUp (n : Int) : Int := if rt n * rt n = n then rt n else rt n + 1
theorem rtUp_mono {m n : Int} (h0 : 0 ≤ m) (h : m ≤ n) : rtUp m ≤ rtUp n := by
  have h1 := rt_mono h0 h
  unfold rtUp
  by_cases e : rt m * rt m = m
  · rw [if_pos e]
    split <;> omega
  · rw [if_neg e]
    by_cases e2 : rt n * rt n = n
    · rw [if_pos e2]
      rcases Int.lt_or_eq_of_le h1 with h2 | h2
      · omega
      · exfalso
        have a1 := (isRt_rt h0).2.1
        rw [h2, e2] at a1
        have : m = n := by omega
        exact e (by rw [h2, this, e2])
    · rw [if_neg e2]; omega
theorem rt_min {m n : Int} (hm : 0 ≤ m) (hn : 0 ≤ n) : rt (min m n) = min (rt m) (rt n) := by
  rcases Int.le_total m n with h | h
  · have := rt_mono hm h
    rw [Int.min_eq_left h, Int.min_eq_left this]
  · have := rt_mono hn h
    rw [Int.min_eq_right h, Int.min_eq_right this]
theorem rtUp_max {m n : Int} (hm : 0 ≤ m) (hn : 0 ≤ n) : rtUp (max m n) = max (rtUp m) (rtUp n) := by
  rcases Int.le_total m n with h | h
  · have := rtUp_mono hm h
    rw [Int.max_eq_right h, Int.max_eq_right this]
  · have := rtUp_mono hn h
    rw [Int.max_eq_left h, Int.max_eq_left this]
/-- the bit of a step, behind which j steps are left -/
def pw (j : Nat) : Int := if j = 0 then 0 else 2 ^ (j - 1)
theorem pw_succ (j : Nat) : pw (j + 1) = 2 ^ j := by unfold pw; rw [if_neg (by omega)]; rfl
theorem pw_half (j : Nat) : pw (j + 1) / 2 = pw j := by
  rw [pw_succ]
  cases j with
  | zero => rfl
  | succ i => rw [pw_succ, Int.pow_succ, Int.mul_ediv_cancel _ (by decide)]
theorem pw_pos (j : Nat) : 0 < pw (j + 1) := by rw [pw_succ]; exact Int.pow_pos (by decide)
theorem two_pow_le {i j : Nat} (h : i ≤ j) : (2 : Int) ^ i ≤ 2 ^ j := by
  have := Nat.pow_le_pow_right (show 0 < 2 by decide) h
  have e1 : ((2 ^ i : Nat) : Int) = (2 : Int) ^ i := by rw [Int.natCast_pow]; rfl
  have e2 : ((2 ^ j : Nat) : Int) = (2 : Int) ^ j := by rw [Int.natCast_pow]; rfl
  omega
theorem sq_bd {x : Int} {M : Int} (h0 : 0 ≤ x) (h1 : x ≤ M) : 0 ≤ x * x ∧ x * x ≤ M * M := ⟨Int.mul_nonneg h0 h0, Int.mul_le_mul h1 h1 h0 (by omega)⟩
/-- 4 times the square of half the width of a circle at a level -/
def sqW (R y : Int) : Int := 4 * (R * R - y * y)
theorem sqW_bd {R y : Int} (hR : 0 ≤ R) (h0 : -R ≤ y) (h1 : y ≤ R) : 0 ≤ sqW R y ∧ sqW R y ≤ 4 * (R * R) := by
  have h2 : y * y ≤ R * R := by
    rcases Int.le_total 0 y with h | h
    · exact Int.mul_le_mul h1 h1 h hR
    · have := Int.mul_le_mul (show -y ≤ R by omega) (show -y ≤ R by omega) (by omega) hR
      rw [Int.neg_mul_neg] at this
      exact this
  have h3 : 0 ≤ y * y := by
    rcases Int.le_total 0 y with h | h
    · exact Int.mul_nonneg h h
    · have := Int.mul_nonneg (show 0 ≤ -y by omega) (show 0 ≤ -y by omega)
      rw [Int.neg_mul_neg] at this
      exact this
  unfold sqW
  omega
/-- the area up to so many millimetres from below: its least and its greatest end -/
def arLo (R : Int) : Nat → Int
  | 0 => 0
  | i + 1 => arLo R i + min (rt (sqW R (-R + i))) (rt (sqW R (-R + i + 1)))
def arHi (R : Int) : Nat → Int
  | 0 => 0
  | i + 1 => arHi R i + max (rtUp (sqW R (-R + i))) (rtUp (sqW R (-R + i + 1)))
theorem rt_bd {n M : Int} (h0 : 0 ≤ n) (h1 : n ≤ M * M) (hM : 0 ≤ M) : 0 ≤ rt n ∧ rt n ≤ M := by
  have h := isRt_rt h0
  refine ⟨h.1, ?_⟩
  rcases Int.lt_or_le M (rt n) with hlt | hge
  · have := Int.mul_le_mul (show M + 1 ≤ rt n by omega) (show M + 1 ≤ rt n by omega) (by omega) h.1
    have h2 := h.2.1
    have e : (M + 1) * (M + 1) = M * M + 2 * M + 1 := by rw [Int.add_mul, Int.mul_add]; omega
    omega
  · exact hge
theorem rtUp_bd {n M : Int} (h0 : 0 ≤ n) (h1 : n ≤ M * M) (hM : 0 ≤ M) : 0 ≤ rtUp n ∧ rtUp n ≤ M + 1 := by
  have h := rt_bd h0 h1 hM
  unfold rtUp
  split <;> omega
theorem ar_bd {R : Int} (hR : 0 ≤ R) : ∀ i : Nat, (i : Int) ≤ 2 * R → (0 ≤ arLo R i ∧ arLo R i ≤ (2 * R) * i) ∧ (0 ≤ arHi R i ∧ arHi R i ≤ (2 * R + 1) * i)
  | 0, _ => by simp [arLo, arHi]
  | i + 1, h => by
    have ih := ar_bd hR i (by omega)
    have b0 := sqW_bd (y := -R + i) hR (by omega) (by omega)
    have b1 := sqW_bd (y := -R + i + 1) hR (by omega) (by omega)
    have e : 4 * (R * R) = (2 * R) * (2 * R) := by rw [Int.mul_assoc 2 R, Int.mul_left_comm R 2 R, ← Int.mul_assoc 2 2]; rfl
    rw [e] at b0 b1
    have c0 := rt_bd b0.1 b0.2 (by omega)
    have c1 := rt_bd b1.1 b1.2 (by omega)
    have d0 := rtUp_bd b0.1 b0.2 (by omega)
    have d1 := rtUp_bd b1.1 b1.2 (by omega)
    have e1 : (2 * R) * ((i + 1 : Nat) : Int) = (2 * R) * (i : Int) + 2 * R := by rw [Int.natCast_succ, Int.mul_add, Int.mul_one]
    have e2 : (2 * R + 1) * ((i + 1 : Nat) : Int) = (2 * R + 1) * (i : Int) + (2 * R + 1) := by rw [Int.natCast_succ, Int.mul_add, Int.mul_one]
    rw [arLo, arHi, e1, e2]
    omega
theorem ar_bd2 {R : Int} (hR : 0 ≤ R) (h8 : R ≤ 800) (i : Nat) (hi : (i : Int) ≤ 2 * R) : (0 ≤ arLo R i ∧ arLo R i ≤ 2561600) ∧ (0 ≤ arHi R i ∧ arHi R i ≤ 2561600) := by
  have h := ar_bd hR i hi
  have h1 : (2 * R) * (i : Int) ≤ 1600 * 1600 := Int.mul_le_mul (by omega) (by omega) (by omega) (by omega)
  have h2 : (2 * R + 1) * (i : Int) ≤ 1601 * 1600 := Int.mul_le_mul (by omega) (by omega) (by omega) (by omega)
  omega
theorem min_if (a b : Int) : min a b = if b < a then b else a := by rw [Int.min_def]; split <;> split <;> omega
theorem max_if (a b : Int) : max a b = if a < b then b else a := by rw [Int.max_def]; split <;> split <;> omega
end Go.Proofs.Ytlmnhlmgbcpclaa
