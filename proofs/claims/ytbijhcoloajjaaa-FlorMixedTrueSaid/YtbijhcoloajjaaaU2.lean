/- Two spells: what is behind a right wine is a right wine, or too strong or too sweet; true wines lie in what is told. -/
import Derived.Test.YtbijhcoloajjaaaS1
import Derived.Test.YtbijhcoloajjaaaF21
namespace Go.Proofs.Ytbijhcoloajjaaa
open Go.RowKit

theorem ce_le {n d m : Int} (hd : 0 < d) (h : n ≤ m * d) : ce n d ≤ m := by
  unfold ce
  have h1 := (Int.le_ediv_iff_mul_le (a := -m) (b := -n) hd).2 (by rw [Int.neg_mul]; omega)
  omega
theorem fl_le_ce {n m d e : Int} (he : 0 < e) (hed : e ≤ d) (hnm : n ≤ m) (hm : 0 ≤ m) : fl n d ≤ ce m e := by
  have h1 := fl_mul n d (by omega)
  have h2 := ce_mul m e he
  have q0 : 0 ≤ ce m e := by
    rcases Int.lt_or_le (ce m e) 0 with hn | hn
    · have := Int.mul_neg_of_neg_of_pos hn he
      omega
    · exact hn
  have h3 : ce m e * e ≤ ce m e * d := Int.mul_le_mul_of_nonneg_left hed q0
  rcases Int.lt_or_le (ce m e) (fl n d) with hn | hn
  · have h4 : (ce m e + 1) * d ≤ fl n d * d := Int.mul_le_mul_of_nonneg_right hn (by omega)
    rw [Int.add_mul] at h4
    omega
  · exact hn
theorem task_zero {x : Wn} {r : Sp} (h : x.task r = 0) : ((0 ≤ x.v0 ∧ x.v0 ≤ x.v1 ∧ x.v1 ≤ 100000) ∧ (0 ≤ x.s0 ∧ x.s0 ≤ x.s1 ∧ x.s1 ≤ 10000) ∧ (0 ≤ x.c0 ∧ x.c0 ≤ x.c1 ∧ x.c1 ≤ 100000)) ∧ ((0 ≤ r.a0 ∧ r.a0 ≤ r.a1 ∧ r.a1 ≤ 2000) ∧ (0 ≤ r.g0 ∧ r.g0 ≤ r.g1 ∧ r.g1 ≤ 2000)) ∧ (0 ≤ r.d ∧ r.d ≤ 365) := taskE_zero.1 h
theorem lft_mono {a b d : Int} (h : a ≤ b) (hd : 0 ≤ d) : lft b d ≤ lft a d := by
  have := Int.mul_le_mul_of_nonneg_right h hd
  unfold lft; omega
theorem behind_right {x : Wn} {r : Sp} (h : x.task r = 0) (hl : ¬ x.large r) : (x.behind r).err = 0 := by
  obtain ⟨⟨⟨V0, V1, V2⟩, ⟨S0, S1, S2⟩, ⟨C0, C1, C2⟩⟩, ⟨⟨A0, A1, A2⟩, ⟨G0, G1, G2⟩⟩, D0, D1⟩ := task_zero h
  obtain ⟨l0, l1⟩ := lft_bd r.a1 r.d (by omega) A2 D0 (by omega)
  obtain ⟨l2, l3⟩ := lft_bd r.a0 r.d A0 (by omega) D0 (by omega)
  obtain ⟨l4, l5⟩ := lft_bd r.g1 r.d (by omega) G2 D0 (by omega)
  obtain ⟨l6, l7⟩ := lft_bd r.g0 r.d G0 (by omega) D0 (by omega)
  have ma := lft_mono A1 D0
  have mg := lft_mono G1 D0
  unfold Wn.large at hl
  have hs : ce (x.s1 * lft r.g0 r.d) (lft r.a1 r.d) ≤ 10000 := Int.not_lt.1 fun hh => hl (.inl hh)
  have hc : ce (x.c1 * 1000000) (lft r.a1 r.d) ≤ 100000 := Int.not_lt.1 fun hh => hl (.inr hh)
  refine wineE_zero.2 ⟨⟨?_, ?_, ?_⟩, ⟨?_, ?_, ?_⟩, ⟨?_, ?_, ?_⟩⟩
  · exact Int.ediv_nonneg (Int.mul_nonneg V0 (by omega)) (by omega)
  · exact fl_le_ce (by omega) (by omega) (mul_le4 V1 ma (by omega) (by omega)) (Int.mul_nonneg (by omega) (by omega))
  · exact ce_le (by omega) (mul_le4 V2 l3 (by omega) (by omega))
  · exact Int.ediv_nonneg (Int.mul_nonneg S0 (by omega)) (by omega)
  · exact fl_le_ce (by omega) ma (mul_le4 S1 mg (by omega) (by omega)) (Int.mul_nonneg (by omega) (by omega))
  · exact hs
  · exact Int.ediv_nonneg (Int.mul_nonneg C0 (by omega)) (by omega)
  · exact fl_le_ce (by omega) ma (mul_le4 C1 (Int.le_refl _) (by omega) (by omega)) (Int.mul_nonneg (by omega) (by omega))
  · exact hc
/-- the numbers vn / vd, sn / sd, cn / cd lie in what is told -/
def Encl (x : Wn) (vn vd sn sd cn cd : Int) : Prop := (x.v0 * vd ≤ vn ∧ vn ≤ x.v1 * vd) ∧ (x.s0 * sd ≤ sn ∧ sn ≤ x.s1 * sd) ∧ (x.c0 * cd ≤ cn ∧ cn ≤ x.c1 * cd)
theorem encl_step {x : Wn} {r : Sp} {vn vd sn sd cn cd f g : Int} (h : x.task r = 0) (hE : Encl x vn vd sn sd cn cd) (n0 : 0 ≤ vn) (n1 : 0 ≤ vd) (n2 : 0 ≤ sn) (n3 : 0 ≤ sd) (n4 : 0 ≤ cn) (n5 : 0 ≤ cd)
    (f0 : r.a0 ≤ f) (f1 : f ≤ r.a1) (g0 : r.g0 ≤ g) (g1 : g ≤ r.g1) :
    Encl (x.behind r) (vn * (1000000 - f * r.d)) (vd * 1000000) (sn * (1000000 - g * r.d)) (sd * (1000000 - f * r.d)) (cn * 1000000) (cd * (1000000 - f * r.d)) := by
  obtain ⟨⟨⟨V0, V1, V2⟩, ⟨S0, S1, S2⟩, ⟨C0, C1, C2⟩⟩, ⟨⟨A0, A1, A2⟩, ⟨G0, G1, G2⟩⟩, D0, D1⟩ := task_zero h
  obtain ⟨l0, l1⟩ := lft_bd r.a1 r.d (by omega) A2 D0 (by omega)
  obtain ⟨l2, l3⟩ := lft_bd r.a0 r.d A0 (by omega) D0 (by omega)
  obtain ⟨l4, l5⟩ := lft_bd r.g1 r.d (by omega) G2 D0 (by omega)
  obtain ⟨l6, l7⟩ := lft_bd r.g0 r.d G0 (by omega) D0 (by omega)
  have fa := lft_le f0 D0
  have fb := lft_ge f1 D0
  have ga := lft_le g0 D0
  have gb := lft_ge g1 D0
  obtain ⟨⟨v, v'⟩, ⟨s, s'⟩, ⟨c, c'⟩⟩ := hE
  exact ⟨⟨stepLo V0 n1 v (by omega) fb n0 (by omega) (Int.le_refl _), stepHi (by omega) n1 v' (by omega) fa (by omega) (Int.le_refl _)⟩,
    ⟨stepLo S0 n3 s (by omega) gb n2 (by omega) fa, stepHi (by omega) n3 s' (by omega) ga (by omega) fb⟩,
    ⟨stepLo C0 n5 c (by omega) (Int.le_refl _) n4 (by omega) fa, stepHi (by omega) n5 c' (by omega) (Int.le_refl _) (by omega) fb⟩⟩
def two (r q : Sp) : Nat → Sp
  | 0 => r | _ => q
theorem task_of {x : Wn} {r : Sp} (hx : x.err = 0) (hr : rateE r.a0 r.a1 r.g0 r.g1 = 0) (hd : daysE r.d = 0) : x.task r = 0 := firstE_zero.2 ⟨hx, hr, hd⟩
theorem over_two {x : Wn} {r q : Sp} (hx : x.task r = 0) (hr : rateE q.a0 q.a1 q.g0 q.g1 = 0) (hd : daysE q.d = 0) :
    (∃ n : Int, ovVal (two r q) 2 x = .tuple #[Wn.zero.val, .int .i64 n, .int .i64 8] ∧ 0 ≤ n ∧ n ≤ 1) ∨
    (ovVal (two r q) 2 x = .tuple #[((x.behind r).behind q).val, .int .i64 0, .int .i64 0] ∧ (x.behind r).task q = 0 ∧ ¬ (x.behind r).large q) := by
  have he : ovErr x 2 = 0 := by
    have h0 : x.err = 0 := (firstE_zero.1 hx).1
    rw [ovErr, h0]; rfl
  rw [ovVal, if_neg (by rw [he]; decide)]
  have e0 : aftErr x r = if x.large r then 8 else 0 := by rw [aftErr, if_neg (by rw [hx]; decide)]
  have w0 : aftWin x r = if x.large r then .zero else x.behind r := by rw [aftWin, if_neg (by rw [hx]; decide)]
  by_cases hl : x.large r
  · rw [if_pos hl] at e0
    have h8 : ¬ aftErr x r = 0 := by rw [e0]; decide
    refine .inl ⟨0, ?_, by decide, by decide⟩
    simp only [overW, overN, overE, two, if_neg h8]
    rw [e0]; rfl
  · rw [if_neg hl] at e0 w0
    have ht := task_of (behind_right hx hl) hr hd
    have e1 : aftErr (x.behind r) q = if (x.behind r).large q then 8 else 0 := by rw [aftErr, if_neg (by rw [ht]; decide)]
    have w1 : aftWin (x.behind r) q = if (x.behind r).large q then .zero else (x.behind r).behind q := by rw [aftWin, if_neg (by rw [ht]; decide)]
    by_cases hk : (x.behind r).large q
    · rw [if_pos hk] at e1
      have h8 : ¬ aftErr (x.behind r) q = 0 := by rw [e1]; decide
      refine .inl ⟨1, ?_, by decide, by decide⟩
      simp only [overW, overN, overE, two, if_pos e0, w0, if_neg h8]
      rw [e1]; rfl
    · rw [if_neg hk] at e1 w1
      refine .inr ⟨?_, ht, hk⟩
      simp only [overW, overN, overE, two, if_pos e0, w0, if_pos e1, w1]
end Go.Proofs.Ytbijhcoloajjaaa
