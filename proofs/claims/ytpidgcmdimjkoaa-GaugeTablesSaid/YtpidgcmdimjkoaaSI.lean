/- Widths and areas by numbers that the kernel reckons. -/
import Derived.Test.YtpidgcmdimjkoaaJ5
set_option linter.unusedVariables false
set_option linter.unusedSimpArgs false
namespace Go.Proofs.Ytpidgcmdimjkoaa

def fsB (n r b : Nat) : Nat := match Nat.ble ((r + b) * (r + b)) n with | true => r + b | false => r
def fs (n : Nat) : Nat := fsB n (fsB n (fsB n (fsB n (fsB n (fsB n (fsB n (fsB n 0 128) 64) 32) 16) 8) 4) 2) 1
def okS (n s : Nat) : Bool := Nat.ble (s * s) n && Nat.blt n ((s + 1) * (s + 1))
def upS (n s : Nat) : Nat := match Nat.beq (s * s) n with | true => s | false => s + 1
theorem rtN_eq {n s : Nat} (h : okS n s = true) : rtN n = s := by
  simp only [okS, Bool.and_eq_true] at h
  have h1 : s * s ≤ n := Nat.le_of_ble_eq_true h.1
  have h2 : n < (s + 1) * (s + 1) := by simpa [Nat.blt_eq] using h.2
  obtain ⟨h3, h4⟩ := rtN_is n
  have a : rtN n < s + 1 := Nat.mul_self_lt_mul_self_iff.1 (Nat.lt_of_le_of_lt h3 h2)
  have b : s < rtN n + 1 := Nat.mul_self_lt_mul_self_iff.1 (Nat.lt_of_le_of_lt h1 h4)
  omega
theorem rtUp_eq {n s : Nat} (h : okS n s = true) : rtUp (n : Int) = (upS n s : Nat) := by
  have e : rt (n : Int) = (s : Int) := by unfold rt; rw [Int.toNat_natCast, rtN_eq h]
  unfold rtUp
  rw [e]
  unfold upS
  cases hb : Nat.beq (s * s) n with
  | true =>
    have := Nat.eq_of_beq_eq_true hb
    rw [if_pos (by rw [← this]; simp)]
  | false =>
    have := Nat.ne_of_beq_eq_false hb
    rw [if_neg (by intro h; exact this (by exact_mod_cast h))]
    simp
def far (R i : Nat) : Nat := match Nat.ble i R with | true => R - i | false => i - R
def nn (R i : Nat) : Nat := 4 * (R * R - far R i * far R i)
theorem sqW_nn {R i : Nat} (hi : i ≤ 2 * R) : sqW (R : Int) (-(R : Int) + (i : Int)) = (nn R i : Nat) := by
  have hf : far R i * far R i ≤ R * R ∧ ((-(R : Int) + (i : Int)) * (-(R : Int) + (i : Int))) = ((far R i * far R i : Nat) : Int) := by
    unfold far
    cases h : Nat.ble i R with
    | true =>
      have h : i ≤ R := Nat.le_of_ble_eq_true h
      refine ⟨Nat.mul_le_mul (Nat.sub_le _ _) (Nat.sub_le _ _), ?_⟩
      have e : (-(R : Int) + (i : Int)) = -((R - i : Nat) : Int) := by omega
      rw [e, Int.neg_mul_neg]
      simp
    | false =>
      have h : ¬ i ≤ R := fun hh => by rw [Nat.ble_eq_true_of_le hh] at h; cases h
      refine ⟨Nat.mul_le_mul (by show i - R ≤ R; omega) (by show i - R ≤ R; omega), ?_⟩
      have e : (-(R : Int) + (i : Int)) = ((i - R : Nat) : Int) := by omega
      rw [e]
      simp
  unfold sqW nn
  rw [hf.2]
  have := hf.1
  omega
def loN (R : Nat) : Nat → Nat
  | 0 => 0
  | i + 1 => loN R i + min (fs (nn R i)) (fs (nn R (i + 1)))
def hiN (R : Nat) : Nat → Nat
  | 0 => 0
  | i + 1 => hiN R i + max (upS (nn R i) (fs (nn R i))) (upS (nn R (i + 1)) (fs (nn R (i + 1))))
theorem ar_N {R : Nat} (h : ∀ i, i ≤ 2 * R → okS (nn R i) (fs (nn R i)) = true) : ∀ i, i ≤ 2 * R → arLo (R : Int) i = (loN R i : Nat) ∧ arHi (R : Int) i = (hiN R i : Nat)
  | 0, _ => ⟨rfl, rfl⟩
  | i + 1, hi => by
    obtain ⟨h1, h2⟩ := ar_N h i (by omega)
    have e1 : -(R : Int) + (i : Int) + 1 = -(R : Int) + ((i + 1 : Nat) : Int) := by omega
    have r0 : rt (sqW (R : Int) (-(R : Int) + (i : Int))) = (fs (nn R i) : Nat) := by rw [sqW_nn (by omega)]; unfold rt; rw [Int.toNat_natCast, rtN_eq (h i (by omega))]
    have r1 : rt (sqW (R : Int) (-(R : Int) + ((i + 1 : Nat) : Int))) = (fs (nn R (i + 1)) : Nat) := by rw [sqW_nn (by omega)]; unfold rt; rw [Int.toNat_natCast, rtN_eq (h (i + 1) (by omega))]
    have u0 : rtUp (sqW (R : Int) (-(R : Int) + (i : Int))) = (upS (nn R i) (fs (nn R i)) : Nat) := by rw [sqW_nn (by omega)]; exact rtUp_eq (h i (by omega))
    have u1 : rtUp (sqW (R : Int) (-(R : Int) + ((i + 1 : Nat) : Int))) = (upS (nn R (i + 1)) (fs (nn R (i + 1))) : Nat) := by rw [sqW_nn (by omega)]; exact rtUp_eq (h (i + 1) (by omega))
    rw [arLo, arHi, loN, hiN, h1, h2, e1, r0, r1, u0, u1]
    omega
/-- what is asked of a radius -/
def chkR (R : Nat) : Bool := (List.range (2 * R + 1)).all (fun i => okS (nn R i) (fs (nn R i))) && (Nat.ble (2 * loN R R) (loN R (2 * R)) && (Nat.ble (hiN R (2 * R)) (2 * hiN R R) && Nat.ble (3 * R * R) (hiN R (2 * R))))
theorem chk_all : ((List.range 51).all fun k => chkR (k + 10)) = true := by kernel_rfl
theorem half_areas {R : Nat} (h0 : 10 ≤ R) (h1 : R ≤ 60) : 2 * arLo (R : Int) R ≤ arLo (R : Int) (2 * R) ∧ arHi (R : Int) (2 * R) ≤ 2 * arHi (R : Int) R ∧ 3 * (R : Int) * R ≤ arHi (R : Int) (2 * R) := by
  have h := List.all_eq_true.1 chk_all (R - 10) (by simp; omega)
  rw [show R - 10 + 10 = R by omega] at h
  simp only [chkR, Bool.and_eq_true, List.all_eq_true, List.mem_range] at h
  obtain ⟨ha, hb, hc, hd⟩ := h
  have hN := ar_N (R := R) (fun i hi => ha i (by omega))
  obtain ⟨l1, u1⟩ := hN R (by omega)
  obtain ⟨l2, u2⟩ := hN (2 * R) (Nat.le_refl _)
  have hb := Nat.le_of_ble_eq_true hb
  have hc := Nat.le_of_ble_eq_true hc
  have hd := Nat.le_of_ble_eq_true hd
  rw [l1, l2, u1, u2]
  refine ⟨by exact_mod_cast hb, by exact_mod_cast hc, by exact_mod_cast hd⟩
end Go.Proofs.Ytpidgcmdimjkoaa
