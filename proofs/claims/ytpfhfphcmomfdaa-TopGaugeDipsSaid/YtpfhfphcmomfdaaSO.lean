import Derived.Test.YtpfhfphcmomfdaaSD
import Derived.Test.YtpfhfphcmomfdaaJA
/- The law GaugeHalves, reckoned with symbols. -/
set_option linter.unusedVariables false
set_option linter.unusedSimpArgs false
namespace Go.Proofs.Ytpfhfphcmomfdaa
open Go.RowKit
namespace Sy
open Go.RowKit

def rH : Value := hN 1
def lH : Value := hN 2
def cName : ByteArray := ⟨#[99]⟩
def inH : Value := .iface 4 (.tuple #[rH, rH])
def outH : Value := .iface 5 (.tuple #[rH, rH])
def lv1 : Value := .iface 2 (.tuple #[rH, rH])
def lv2 : Value := .iface 2 (.tuple #[.iface 3 (.tuple #[.int .i64 2, rH]), rH])
def rowH : List Value := [.int .i64 0, rH, rH, lH, rH, rH]
def errH : Value := .iface 121 (.tuple (rH :: rowH).toArray)
def topH : Value := .iface 3 (.tuple #[.int .i64 2, rH])
def dipH (d : Value) : Value := .iface 104 (.tuple #[.int .i64 0, .iface 103 (.tuple #[d, .int .i64 0, topH])])
def loS (lv : Value) : Value := .iface 105 (.tuple #[.iface 1 (.tuple #[.int .i64 0, .iface 3 (.tuple #[.iface 2 (.tuple #[lH, .int .i64 0]), .iface 101 (.tuple #[inH, lv])])])])
def hiS (lv : Value) : Value := .iface 106 (.tuple #[.iface 1 (.tuple #[.int .i64 0, .iface 3 (.tuple #[.iface 2 (.tuple #[lH, .int .i64 0]), .iface 102 (.tuple #[outH, lv])])])])
def baseF : List Fact := [(2, .int .i64 10, rH, true), (2, rH, .int .i64 60, true), (2, .int .i64 1, lH, true), (2, lH, .int .i64 3000, true), (0, errH, .int .i64 0, true), (0, dipH rH, .int .i64 0, true), (0, dipH topH, .int .i64 0, true),
  (2, .iface 3 (.tuple #[.int .i64 2, loS lv1]), loS lv2, true), (2, hiS lv2, .iface 3 (.tuple #[.int .i64 2, hiS lv1]), true)]
def mH (k : Int) : Value := .iface 3 (.tuple #[.iface 3 (.tuple #[.iface 3 (.tuple #[.int .i64 k, rH]), rH]), lH])
def pC (a : Value) : Value := .iface 6 (.tuple #[a, .int .i64 1])
def qC (m : Value) : Value := .iface 105 (.tuple #[m])
/-- how a number is compared with another one's part of a hundred thousand -/
def cmpF (a m : Value) (c1 c2 c3 : Bool) : List Fact := [(1, .iface 7 (.tuple #[a, .int .i64 1]), .int .i64 0, false), (1, pC a, qC m, c1), (1, qC m, pC a, c2),
  (0, .iface 2 (.tuple #[a, .iface 3 (.tuple #[pC a, .int .i64 1])]), .int .i64 0, true), (0, .iface 2 (.tuple #[m, .iface 3 (.tuple #[qC m, .int .i64 100000])]), .int .i64 0, c3)]
def factsH (a1 a2 a3 b1 b2 b3 : Bool) : List Fact := baseF ++ (cmpF (hiS lv2) (mH 3) a1 a2 a3 ++ cmpF (loS lv2) (mH 4) b1 b2 b3)
def holeH (r L : Int) (n : Nat) : Value :=
  match n with
  | 1 => .int .i64 r
  | 2 => .int .i64 L
  | _ => .int .i64 0
noncomputable def pgH (r L : Int) (l : List Fact) (ok : ∀ f ∈ l, ∃ x y, Dv (denG cName (holeH r L) (fun _ => False)) f.2.1 x ∧ Dv (denG cName (holeH r L) (fun _ => False)) f.2.2.1 y ∧ cmpN f.1 x y = f.2.2.2) : Pg :=
  { prog := Try.prog, den := denG cName (holeH r L) (fun _ => False), facts := l, ok := ok }
section
variable (r L : Int)
end
end Sy
end Go.Proofs.Ytpfhfphcmomfdaa

/- Widths and areas by numbers that the kernel reckons. -/
set_option linter.unusedVariables false
set_option linter.unusedSimpArgs false
namespace Go.Proofs.Ytpfhfphcmomfdaa

def fsB (n r b : Nat) : Nat := match Nat.ble ((r + b) * (r + b)) n with | true => r + b | false => r
def fs (n : Nat) : Nat := fsB n (fsB n (fsB n (fsB n (fsB n (fsB n (fsB n (fsB n 0 128) 64) 32) 16) 8) 4) 2) 1
def okS (n s : Nat) : Bool := Nat.ble (s * s) n && Nat.blt n ((s + 1) * (s + 1))
def upS (n s : Nat) : Nat := match Nat.beq (s * s) n with | true => s | false => s + 1
theorem rtN_eq {n s : Nat} (h : okS n s = true) : rtN n = s := by
  simp only [okS, Bool.and_eq_true] at h
  have h1 : s * s ≤ n := Nat.le_of_ble_eq_true h.1
  have h2 : n < (s + 1) * (s + 1) := by simpa [Nat.blt_eq] using h.2
  obtain ⟨h3, h4⟩ := rtN_is n
  have a : rtN n < s + 1 := Nat.mul_self_lt_mul_self_iff.1 (Nat.lt_of_le_of_lt h3 h2)
  have b : s < rtN n + 1 := Nat.mul_self_lt_mul_self_iff.1 (Nat.lt_of_le_of_lt h1 h4)
  omega
theorem rtUp_eq {n s : Nat} (h : okS n s = true) : rtUp (n : Int) = (upS n s : Nat) := by
  have e : rt (n : Int) = (s : Int) := by unfold rt; rw [Int.toNat_natCast, rtN_eq h]
  unfold rtUp
  rw [e]
  unfold upS
  cases hb : Nat.beq (s * s) n with
  | true =>
    have := Nat.eq_of_beq_eq_true hb
    rw [if_pos (by rw [← this]; simp)]
  | false =>
    have := Nat.ne_of_beq_eq_false hb
    rw [if_neg (by intro h; exact this (by exact_mod_cast h))]
    simp
def far (R i : Nat) : Nat := match Nat.ble i R with | true => R - i | false => i - R
def nn (R i : Nat) : Nat := 4 * (R * R - far R i * far R i)
theorem sqW_nn {R i : Nat} (hi : i ≤ 2 * R) : sqW (R : Int) (-(R : Int) + (i : Int)) = (nn R i : Nat) := by
  have hf : far R i * far R i ≤ R * R ∧ ((-(R : Int) + (i : Int)) * (-(R : Int) + (i : Int))) = ((far R i * far R i : Nat) : Int) := by
    unfold far
    cases h : Nat.ble i R with
    | true =>
      have h : i ≤ R := Nat.le_of_ble_eq_true h
      refine ⟨Nat.mul_le_mul (Nat.sub_le _ _) (Nat.sub_le _ _), ?_⟩
      have e : (-(R : Int) + (i : Int)) = -((R - i : Nat) : Int) := by omega
      rw [e, Int.neg_mul_neg]
      simp
    | false =>
      have h : ¬ i ≤ R := fun hh => by rw [Nat.ble_eq_true_of_le hh] at h; cases h
      refine ⟨Nat.mul_le_mul (by show i - R ≤ R; omega) (by show i - R ≤ R; omega), ?_⟩
      have e : (-(R : Int) + (i : Int)) = ((i - R : Nat) : Int) := by omega
      rw [e]
      simp
  unfold sqW nn
  rw [hf.2]
  have := hf.1
  omega
def loN (R : Nat) : Nat → Nat
  | 0 => 0
  | i + 1 => loN R i + min (fs (nn R i)) (fs (nn R (i + 1)))
def hiN (R : Nat) : Nat → Nat
  | 0 => 0
  | i + 1 => hiN R i + max (upS (nn R i) (fs (nn R i))) (upS (nn R (i + 1)) (fs (nn R (i + 1))))
theorem ar_N {R : Nat} (h : ∀ i, i ≤ 2 * R → okS (nn R i) (fs (nn R i)) = true) : ∀ i, i ≤ 2 * R → arLo (R : Int) i = (loN R i : Nat) ∧ arHi (R : Int) i = (hiN R i : Nat)
  | 0, _ => ⟨rfl, rfl⟩
  | i + 1, hi => by
    obtain ⟨h1, h2⟩ := ar_N h i (by omega)
    have e1 : -(R : Int) + (i : Int) + 1 = -(R : Int) + ((i + 1 : Nat) : Int) := by omega
    have r0 : rt (sqW (R : Int) (-(R : Int) + (i : Int))) = (fs (nn R i) : Nat) := by rw [sqW_nn (by omega)]; unfold rt; rw [Int.toNat_natCast, rtN_eq (h i (by omega))]
    have r1 : rt (sqW (R : Int) (-(R : Int) + ((i + 1 : Nat) : Int))) = (fs (nn R (i + 1)) : Nat) := by rw [sqW_nn (by omega)]; unfold rt; rw [Int.toNat_natCast, rtN_eq (h (i + 1) (by omega))]
    have u0 : rtUp (sqW (R : Int) (-(R : Int) + (i : Int))) = (upS (nn R i) (fs (nn R i)) : Nat) := by rw [sqW_nn (by omega)]; exact rtUp_eq (h i (by omega))
    have u1 : rtUp (sqW (R : Int) (-(R : Int) + ((i + 1 : Nat) : Int))) = (upS (nn R (i + 1)) (fs (nn R (i + 1))) : Nat) := by rw [sqW_nn (by omega)]; exact rtUp_eq (h (i + 1) (by omega))
    rw [arLo, arHi, loN, hiN, h1, h2, e1, r0, r1, u0, u1]
    omega
/-- what is asked of a radius -/
def chkR (R : Nat) : Bool := (List.range (2 * R + 1)).all (fun i => okS (nn R i) (fs (nn R i))) && (Nat.ble (2 * loN R R) (loN R (2 * R)) && (Nat.ble (hiN R (2 * R)) (2 * hiN R R) && Nat.ble (3 * R * R) (hiN R (2 * R))))
theorem chk_all : ((List.range 51).all fun k => chkR (k + 10)) = true := by kernel_rfl
theorem half_areas {R : Nat} (h0 : 10 ≤ R) (h1 : R ≤ 60) : 2 * arLo (R : Int) R ≤ arLo (R : Int) (2 * R) ∧ arHi (R : Int) (2 * R) ≤ 2 * arHi (R : Int) R ∧ 3 * (R : Int) * R ≤ arHi (R : Int) (2 * R) := by
  have h := List.all_eq_true.1 chk_all (R - 10) (by simp; omega)
  rw [show R - 10 + 10 = R by omega] at h
  simp only [chkR, Bool.and_eq_true, List.all_eq_true, List.mem_range] at h
  obtain ⟨ha, hb, hc, hd⟩ := h
  have hN := ar_N (R := R) (fun i hi => ha i (by omega))
  obtain ⟨l1, u1⟩ := hN R (by omega)
  obtain ⟨l2, u2⟩ := hN (2 * R) (Nat.le_refl _)
  have hb := Nat.le_of_ble_eq_true hb
  have hc := Nat.le_of_ble_eq_true hc
  have hd := Nat.le_of_ble_eq_true hd
  rw [l1, l2, u1, u2]
  refine ⟨by exact_mod_cast hb, by exact_mod_cast hc, by exact_mod_cast hd⟩
end Go.Proofs.Ytpfhfphcmomfdaa

/- The law GaugeHalves answers true for every input. -/
set_option linter.unusedVariables false
set_option linter.unusedSimpArgs false
namespace Go.Proofs.Ytpfhfphcmomfdaa
open Go.RowKit
namespace Sy
open Go.RowKit

theorem firstL_all0 : ∀ (l : List Int), (∀ x ∈ l, x = 0) → firstL l = 0
  | [], _ => rfl
  | x :: l, h => by
    unfold firstL
    rw [if_neg (by simp [h x List.mem_cons_self])]
    exact firstL_all0 l fun y hy => h y (List.mem_cons_of_mem _ hy)
theorem numE_in {n lo hi : Int} (h0 : lo ≤ n) (h1 : n ≤ hi) : numE n lo hi = 0 := by unfold numE; rw [if_pos (inB_yes h0 h1)]
theorem floorP_eq {n : Int} (h0 : -1000000000000000 ≤ n) (h1 : n ≤ 1000000000000000) : floorP n = n / 100000 := by
  unfold floorP
  by_cases hn : 0 ≤ n
  · rw [Int.tdiv_eq_ediv_of_nonneg hn, Int.tmod_eq_emod_of_nonneg hn, if_neg (by omega), IntWalk.wrap64_in _ (by omega)]
  · obtain ⟨e1, e2⟩ := tdiv_neg_facts n 100000 (by omega)
    rw [e1, e2]
    split
    · rw [IntWalk.wrap64_in (-(-n / 100000)) (by omega), IntWalk.wrap64_in _ (by omega)]; omega
    · rw [IntWalk.wrap64_in _ (by omega)]; omega
theorem ceilP_eq {n : Int} (h0 : -1000000000000000 ≤ n) (h1 : n ≤ 1000000000000000) : ceilP n = -((-n) / 100000) := by
  unfold ceilP
  rw [IntWalk.i64_in _ (by omega), floorP_eq (by omega) (by omega), IntWalk.wrap64_in _ (by omega)]
theorem name_c : nameB cName = true := by decide +kernel

abbrev DH (r L : Int) : Dn := denG cName (holeH r L) (fun _ => False)
section
variable {r L : Int}
theorem dR : Dv (DH r L) rH r := .hole rfl
theorem dL : Dv (DH r L) lH L := .hole rfl
theorem dIn : Dv (DH r L) inH r := by have h : Dv (DH r L) inH (binN 4 r r) := .bin (t := 4) (by decide) dR dR; rwa [show binN 4 r r = r from Int.min_self r] at h
theorem dOut : Dv (DH r L) outH r := by have h : Dv (DH r L) outH (binN 5 r r) := .bin (t := 5) (by decide) dR dR; rwa [show binN 5 r r = r from Int.max_self r] at h
theorem dTop (h0 : 10 ≤ r) (h1 : r ≤ 60) : Dv (DH r L) topH (2 * r) := by
  have h : Dv (DH r L) topH (binN 3 2 r) := .bin (t := 3) (by decide) (.lit 2) dR
  rwa [show binN 3 2 r = 2 * r from IntWalk.i64_in _ (by omega)] at h
theorem dLv1 : Dv (DH r L) lv1 0 := by
  have h : Dv (DH r L) lv1 (binN 2 r r) := .bin (t := 2) (by decide) dR dR
  rwa [show binN 2 r r = 0 from by show IntKind.i64.wrap (r - r) = 0; rw [Int.sub_self]; exact IntWalk.i64_in _ (by omega)] at h
theorem dLv2 (h0 : 10 ≤ r) (h1 : r ≤ 60) : Dv (DH r L) lv2 r := by
  have h : Dv (DH r L) lv2 (binN 2 (2 * r) r) := .bin (t := 2) (by decide) (dTop h0 h1) dR
  rwa [show binN 2 (2 * r) r = r from by show IntKind.i64.wrap (2 * r - r) = r; rw [IntWalk.i64_in _ (by omega)]; omega] at h
/-- a sum of one stretch -/
theorem dSum {lv : Value} {l A : Int} {a : Value} (ha : Dv (DH r L) a A) (hA0 : 0 ≤ A) (hA1 : A ≤ 2561600) (hL0 : 1 ≤ L) (hL1 : L ≤ 3000) :
    Dv (DH r L) (.iface 1 (.tuple #[.int .i64 0, .iface 3 (.tuple #[.iface 2 (.tuple #[lH, .int .i64 0]), a])])) (L * A) := by
  have hLA : 0 ≤ L * A ∧ L * A ≤ 3000 * 2561600 := ⟨Int.mul_nonneg (by omega) hA0, Int.mul_le_mul hL1 hA1 hA0 (by omega)⟩
  have h : Dv (DH r L) (.iface 1 (.tuple #[.int .i64 0, .iface 3 (.tuple #[.iface 2 (.tuple #[lH, .int .i64 0]), a])])) (binN 1 0 (binN 3 (binN 2 L 0) A)) :=
    .bin (t := 1) (by decide) (.lit 0) (.bin (t := 3) (by decide) (.bin (t := 2) (by decide) dL (.lit 0)) ha)
  rwa [show binN 1 0 (binN 3 (binN 2 L 0) A) = L * A from by
    show IntKind.i64.wrap (0 + IntKind.i64.wrap (IntKind.i64.wrap (L - 0) * A)) = L * A
    rw [Int.sub_zero, IntWalk.i64_in L (by omega), IntWalk.i64_in (L * A) (by omega), Int.zero_add, IntWalk.i64_in (L * A) (by omega)]] at h
theorem dLoS {lv : Value} {l : Int} (hl : Dv (DH r L) lv l) (hA0 : 0 ≤ arLo r (clampJ r l)) (hA1 : arLo r (clampJ r l) ≤ 2561600) (hL0 : 1 ≤ L) (hL1 : L ≤ 3000) : Dv (DH r L) (loS lv) ((L * arLo r (clampJ r l)) / 100000) := by
  have hLA : 0 ≤ L * arLo r (clampJ r l) ∧ L * arLo r (clampJ r l) ≤ 3000 * 2561600 := ⟨Int.mul_nonneg (by omega) hA0, Int.mul_le_mul hL1 hA1 hA0 (by omega)⟩
  have h := app1 (t := 105) (by decide) (dSum (lv := lv) (l := l) (app2 (t := 101) (by decide) (dIn (r := r) (L := L)) hl) hA0 hA1 hL0 hL1)
  rw [← floorP_eq (by omega) (by omega)]
  exact h
theorem dHiS {lv : Value} {l : Int} (hl : Dv (DH r L) lv l) (hA0 : 0 ≤ arHi r (clampJ r l)) (hA1 : arHi r (clampJ r l) ≤ 2561600) (hL0 : 1 ≤ L) (hL1 : L ≤ 3000) : Dv (DH r L) (hiS lv) (-((-(L * arHi r (clampJ r l))) / 100000)) := by
  have hLA : 0 ≤ L * arHi r (clampJ r l) ∧ L * arHi r (clampJ r l) ≤ 3000 * 2561600 := ⟨Int.mul_nonneg (by omega) hA0, Int.mul_le_mul hL1 hA1 hA0 (by omega)⟩
  have h := app1 (t := 106) (by decide) (dSum (lv := lv) (l := l) (app2 (t := 102) (by decide) (dOut (r := r) (L := L)) hl) hA0 hA1 hL0 hL1)
  rw [← ceilP_eq (by omega) (by omega)]
  exact h
theorem dM {k : Int} (hk0 : 3 ≤ k) (hk1 : k ≤ 4) (h0 : 10 ≤ r) (h1 : r ≤ 60) (hL0 : 1 ≤ L) (hL1 : L ≤ 3000) : Dv (DH r L) (mH k) (k * r * r * L) := by
  have b1 : 0 ≤ k * r ∧ k * r ≤ 4 * 60 := ⟨Int.mul_nonneg (by omega) (by omega), Int.mul_le_mul hk1 h1 (by omega) (by omega)⟩
  have b2 : 0 ≤ k * r * r ∧ k * r * r ≤ 240 * 60 := ⟨Int.mul_nonneg b1.1 (by omega), Int.mul_le_mul b1.2 h1 (by omega) (by omega)⟩
  have b3 : 0 ≤ k * r * r * L ∧ k * r * r * L ≤ 14400 * 3000 := ⟨Int.mul_nonneg b2.1 (by omega), Int.mul_le_mul b2.2 hL1 (by omega) (by omega)⟩
  have h : Dv (DH r L) (mH k) (binN 3 (binN 3 (binN 3 k r) r) L) := .bin (t := 3) (by decide) (.bin (t := 3) (by decide) (.bin (t := 3) (by decide) (.lit k) dR) dR) dL
  rwa [show binN 3 (binN 3 (binN 3 k r) r) L = k * r * r * L from by
    show IntKind.i64.wrap (IntKind.i64.wrap (IntKind.i64.wrap (k * r) * r) * L) = _
    rw [IntWalk.i64_in (k * r) (by omega), IntWalk.i64_in (k * r * r) (by omega), IntWalk.i64_in _ (by omega)]] at h
theorem caskH (h0 : 10 ≤ r) (h1 : r ≤ 60) (hL0 : 1 ≤ L) (hL1 : L ≤ 3000) : (caskS cName r [0, r, r, L, r, r]).2 = 0 := by
  have hlen : [0, r, r, L, r, r].length / 3 = 2 := by simp
  have hc : caskE cName r 2 = 0 := by
    refine firstL_all0 _ fun x hx => ?_
    simp only [List.mem_cons, List.not_mem_nil, or_false] at hx
    rcases hx with rfl | rfl | rfl | rfl
    · rw [name_c]; rfl
    · exact numE_in h0 (by omega)
    · decide
    · decide
  unfold caskS
  rw [hlen, if_neg (by rw [hc]; simp)]
  have st : ∀ i, i < 2 → snE r (snOf [0, r, r, L, r, r]) i = 0 := by
    intro i hi
    refine firstL_all0 _ fun x hx => ?_
    simp only [List.mem_cons, List.not_mem_nil, or_false] at hx
    rcases hx with rfl | rfl
    · refine firstL_all0 _ fun x hx => ?_
      simp only [List.mem_cons, List.not_mem_nil, or_false] at hx
      match i, hi with
      | 0, _ =>
        rcases hx with rfl | rfl | rfl | rfl
        · exact numE_in (n := (0 : Int)) (by decide) (by decide)
        · exact numE_in h0 (Int.le_refl _)
        · exact numE_in h0 (Int.le_refl _)
        · show unlE (decide (r ≤ r)) 9 = 0; simp [unlE]
      | 1, _ =>
        rcases hx with rfl | rfl | rfl | rfl
        · exact numE_in (n := L) (by omega) (by omega)
        · exact numE_in h0 (Int.le_refl _)
        · exact numE_in h0 (Int.le_refl _)
        · show unlE (decide (r ≤ r)) 9 = 0; simp [unlE]
    · match i, hi with
      | 0, _ => rfl
      | 1, _ =>
        show unlE (decide (1 = 0) || decide ((0 : Int) < L)) 9 = 0
        rw [decide_eq_true (show (0 : Int) < L by omega)]
        rfl
  show (eachF (snE r (snOf [0, r, r, L, r, r])) 2 0).2 = 0
  simp only [eachF, st 0 (by decide), st 1 (by decide), if_true]
theorem dErrH : Dv (DH r L) errH (caskS cName r [0, r, r, L, r, r]).2 :=
  .app (t := 121) (xs := [r, 0, r, r, L, r, r]) (by decide) rfl (fun i v x hv hx => by
    match i with
    | 0 => simp [rowH] at hv hx; subst hv hx; exact dR
    | 1 => simp [rowH] at hv hx; subst hv hx; exact .lit 0
    | 2 => simp [rowH] at hv hx; subst hv hx; exact dR
    | 3 => simp [rowH] at hv hx; subst hv hx; exact dR
    | 4 => simp [rowH] at hv hx; subst hv hx; exact dL
    | 5 => simp [rowH] at hv hx; subst hv hx; exact dR
    | 6 => simp [rowH] at hv hx; subst hv hx; exact dR
    | i + 7 => simp [rowH] at hv)
theorem dDipH {d : Value} {z : Int} (hd : Dv (DH r L) d z) (h0 : 10 ≤ r) (h1 : r ≤ 60) : Dv (DH r L) (dipH d) (firstL [0, numE z 0 (2 * r)]) :=
  app2 (t := 104) (by decide) (.lit 0) (app3 (t := 103) (by decide) hd (.lit 0) (dTop h0 h1))

/-- everything that the reckoning takes as known, but for how the two numbers compare -/
theorem okBase (h0 : 10 ≤ r) (h1 : r ≤ 60) (hL0 : 1 ≤ L) (hL1 : L ≤ 3000) {lo1 lo2 hi1 hi2 : Int} (d1 : Dv (DH r L) (loS lv1) lo1) (d2 : Dv (DH r L) (loS lv2) lo2) (d3 : Dv (DH r L) (hiS lv1) hi1) (d4 : Dv (DH r L) (hiS lv2) hi2)
    (b1 : 0 ≤ lo1 ∧ lo1 ≤ 1000000) (b3 : 0 ≤ hi1 ∧ hi1 ≤ 1000000) (hlo : 2 * lo1 ≤ lo2) (hhi : hi2 ≤ 2 * hi1) : ∀ f ∈ baseF, ∃ x y, Dv (DH r L) f.2.1 x ∧ Dv (DH r L) f.2.2.1 y ∧ cmpN f.1 x y = f.2.2.2 := by
  intro f hf
  have two : ∀ {a : Value} {z : Int}, Dv (DH r L) a z → 0 ≤ z → z ≤ 1000000 → Dv (DH r L) (.iface 3 (.tuple #[.int .i64 2, a])) (2 * z) := by
    intro a z ha z0 z1
    have h : Dv (DH r L) (.iface 3 (.tuple #[.int .i64 2, a])) (binN 3 2 z) := .bin (t := 3) (by decide) (.lit 2) ha
    rwa [show binN 3 2 z = 2 * z from IntWalk.i64_in _ (by omega)] at h
  simp only [baseF, List.mem_cons, List.not_mem_nil, or_false] at hf
  rcases hf with rfl | rfl | rfl | rfl | rfl | rfl | rfl | rfl | rfl
  · exact ⟨10, r, .lit 10, dR, decide_eq_true h0⟩
  · exact ⟨r, 60, dR, .lit 60, decide_eq_true h1⟩
  · exact ⟨1, L, .lit 1, dL, decide_eq_true hL0⟩
  · exact ⟨L, 3000, dL, .lit 3000, decide_eq_true hL1⟩
  · exact ⟨_, 0, dErrH, .lit 0, by rw [caskH h0 h1 hL0 hL1]; rfl⟩
  · exact ⟨_, 0, dDipH dR h0 h1, .lit 0, by rw [firstL_all0 _ (by intro x hx; simp at hx; rcases hx with rfl | rfl <;> first | rfl | exact numE_in (by omega) (by omega))]; rfl⟩
  · exact ⟨_, 0, dDipH (dTop h0 h1) h0 h1, .lit 0, by rw [firstL_all0 _ (by intro x hx; simp at hx; rcases hx with rfl | rfl <;> first | rfl | exact numE_in (by omega) (by omega))]; rfl⟩
  · exact ⟨2 * lo1, lo2, two d1 b1.1 b1.2, d2, decide_eq_true hlo⟩
  · exact ⟨hi2, 2 * hi1, d4, two d3 b3.1 b3.2, decide_eq_true hhi⟩
/-- how a number compares with a part of a hundred thousand of another one -/
theorem okCmp {a m : Value} {x y : Int} (ha : Dv (DH r L) a x) (hm : Dv (DH r L) m y) (x0 : 0 ≤ x) (x1 : x ≤ 100000000) (y0 : 0 ≤ y) (y1 : y ≤ 1000000000) {c1 c2 c3 : Bool} (h1 : decide (x < y / 100000) = c1) (h2 : decide (y / 100000 < x) = c2) (h3 : decide (y % 100000 = 0) = c3) :
    ∀ f ∈ cmpF a m c1 c2 c3, ∃ x y, Dv (DH r L) f.2.1 x ∧ Dv (DH r L) f.2.2.1 y ∧ cmpN f.1 x y = f.2.2.2 := by
  intro f hf
  have dp : Dv (DH r L) (pC a) x := by
    have h : Dv (DH r L) (pC a) (binN 6 x 1) := .bin (t := 6) (by decide) ha (.lit 1)
    rwa [show binN 6 x 1 = x from by show IntKind.i64.wrap (x.tdiv 1) = x; rw [Int.tdiv_one, IntWalk.i64_in _ (by omega)]] at h
  have dq : Dv (DH r L) (qC m) (y / 100000) := by
    have h := app1 (t := 105) (by decide) hm
    rw [← floorP_eq (by omega) (by omega)]
    exact h
  have drem : Dv (DH r L) (.iface 7 (.tuple #[a, .int .i64 1])) 0 := by
    have h : Dv (DH r L) (.iface 7 (.tuple #[a, .int .i64 1])) (binN 7 x 1) := .bin (t := 7) (by decide) ha (.lit 1)
    rwa [show binN 7 x 1 = 0 from Int.tmod_one x] at h
  have dn : Dv (DH r L) (.iface 2 (.tuple #[a, .iface 3 (.tuple #[pC a, .int .i64 1])])) 0 := by
    have h : Dv (DH r L) (.iface 2 (.tuple #[a, .iface 3 (.tuple #[pC a, .int .i64 1])])) (binN 2 x (binN 3 x 1)) := .bin (t := 2) (by decide) ha (.bin (t := 3) (by decide) dp (.lit 1))
    rwa [show binN 2 x (binN 3 x 1) = 0 from by show IntKind.i64.wrap (x - IntKind.i64.wrap (x * 1)) = 0; rw [Int.mul_one, IntWalk.i64_in x (by omega), Int.sub_self, IntWalk.i64_in _ (by omega)]] at h
  have dm : Dv (DH r L) (.iface 2 (.tuple #[m, .iface 3 (.tuple #[qC m, .int .i64 100000])])) (y % 100000) := by
    have h : Dv (DH r L) (.iface 2 (.tuple #[m, .iface 3 (.tuple #[qC m, .int .i64 100000])])) (binN 2 y (binN 3 (y / 100000) 100000)) := .bin (t := 2) (by decide) hm (.bin (t := 3) (by decide) dq (.lit 100000))
    rwa [show binN 2 y (binN 3 (y / 100000) 100000) = y % 100000 from by show IntKind.i64.wrap (y - IntKind.i64.wrap (y / 100000 * 100000)) = _; rw [IntWalk.i64_in (y / 100000 * 100000) (by omega), IntWalk.i64_in _ (by omega)]; omega] at h
  simp only [cmpF, List.mem_cons, List.not_mem_nil, or_false] at hf
  rcases hf with rfl | rfl | rfl | rfl | rfl
  · exact ⟨0, 0, drem, .lit 0, rfl⟩
  · exact ⟨x, _, dp, dq, h1⟩
  · exact ⟨_, x, dq, dp, h2⟩
  · exact ⟨0, 0, dn, .lit 0, rfl⟩
  · exact ⟨_, 0, dm, .lit 0, h3⟩
end
end Sy
end Go.Proofs.Ytpfhfphcmomfdaa
