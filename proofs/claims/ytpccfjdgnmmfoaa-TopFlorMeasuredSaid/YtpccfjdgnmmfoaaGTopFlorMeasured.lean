/- FOR EVERY INPUT THE LAW TopFlorMeasured ANSWERS TRUE: a true wine that loses by true rates, measured at first and behind some days, each time within ends, is followed; both narrowed wines have it, and the rates that are told have the true ones. No condition. -/
import Derived.Test.YtpccfjdgnmmfoaaG0
import Derived.Test.YtpccfjdgnmmfoaaF16
import Derived.Test.YtpccfjdgnmmfoaaF17
import Derived.Test.YtpccfjdgnmmfoaaT2
import Derived.Test.YtpccfjdgnmmfoaaW11
import Derived.Test.YtpccfjdgnmmfoaaLTopFlorMeasured
namespace Go.Proofs.Ytpccfjdgnmmfoaa
open Go.RowKit

theorem fawake_any (w : World) : Calls Try.prog 30 #[] w fun e w' => e = .returned (.bool true) ∧ Below w.heap.size w w' := by
  refine fawake_of (fun w => ?_) (fun w => ?_) w
  · exact florAfter_any 1000 1000 1500 1600 200 200 100 200 200 300 100 w
  · exact florSafe_fine 1000 1000 1500 1600 200 200 100 200 200 300 1490 w 33 (by decide +kernel) (by decide) safe33
theorem fbet (n d lo hi : Int) (h0 : 0 ≤ n) (h1 : n ≤ 1000000000000000000) (hd : 0 < d) (hd1 : d ≤ 1000000000000) (l0 : 0 ≤ lo) (l1 : lo ≤ hi) (u1 : hi ≤ 100000) (a : lo * d ≤ n) (b : n ≤ hi * d) :
    ∀ w : World, Calls Try.prog 38 #[.int .i64 n, .int .i64 d, .agg #[.int .i64 lo, .int .i64 hi]] w fun e w' => e = .returned (.bool true) ∧ Below w.heap.size w w' := fun w =>
  fbetween_yes n d lo hi w (by omega) h1 hd (by omega) (by omega) (by omega) (by omega) (by omega) a b
theorem within_yes {n lo hi : Int} (h1 : lo ≤ n) (h2 : n ≤ hi) : ∀ w : World, Calls Try.prog 16 #[.int .i64 n, .int .i64 lo, .int .i64 hi] w fun e w' => e = .returned (.bool true) ∧ w = w' := fun w => by
  have := within_any n lo hi w
  rw [inB_yes h1 h2] at this
  exact this
def twoM (m q : Ms) : Nat → Ms
  | 0 => m | _ => q
theorem fol_two {r : Sp} {m q : Ms} (hr : rateE r.a0 r.a1 r.g0 r.g1 = 0) (h0 : m.err = 0) (h1 : q.err = 0) (hb : betE m.d q.d = 0) (S : Sp) (hS : S = ⟨r.a0, r.a1, r.g0, r.g1, q.d - m.d⟩) :
    (m.x.large S → FE r (twoM m q) 2 = 8 ∧ FN r (twoM m q) 2 = 1 ∧ FL r (twoM m q) 2 = []) ∧
    (¬ m.x.large S → ((m.x.behind S).com q.x).isB = true → FE r (twoM m q) 2 = 0 ∧ FN r (twoM m q) 2 = 0 ∧ FL r (twoM m q) 2 = [m.x, (m.x.behind S).com q.x]) := by
  have s0 : mesS (twoM m q) 0 = 0 := mesS_first (f := twoM m q) (k := 0) h0 rfl
  have s1 : mesS (twoM m q) 1 = 0 := (mesS_later (f := twoM m q) (k := 1) h1 (by decide)).trans hb
  have e1 : mesE (twoM m q) 2 0 = 0 := by
    unfold mesE
    rw [if_pos s0]
    unfold mesE
    rw [if_pos s1]
    rfl
  have e0 : fol0 r (twoM m q) 2 = 0 := by
    unfold fol0
    rw [if_neg (by simpa using hr), if_neg (by decide)]
    exact e1
  have eF : FE r (twoM m q) 2 = folE r (twoM m q) 1 1 m.x := by unfold FE; rw [e0, if_neg (by decide)]; rfl
  have eN : FN r (twoM m q) 2 = folN r (twoM m q) 1 1 m.x := by
    unfold FN
    rw [if_neg (by simpa using hr), if_neg (by decide), if_neg (by simpa using e1)]; rfl
  have eS : folS r (twoM m q) 1 = S := by rw [hS]; rfl
  constructor
  · intro hl
    have eD : folD r (twoM m q) 1 m.x = 8 := by unfold folD stE; rw [eS, if_pos hl]; rfl
    have a1 : FE r (twoM m q) 2 = 8 := by rw [eF]; unfold folE; rw [eD]; rfl
    refine ⟨a1, ?_, ?_⟩
    · rw [eN]; unfold folN; rw [eD]; rfl
    · unfold FL; rw [a1]; rfl
  · intro hl hi
    have eX : folX r (twoM m q) 1 m.x = (m.x.behind S).com q.x := by unfold folX stW; rw [eS, if_neg hl]; rfl
    have eD : folD r (twoM m q) 1 m.x = 0 := by unfold folD stE; rw [eS, if_neg hl, eX, if_pos hi]; rfl
    have a1 : FE r (twoM m q) 2 = 0 := by rw [eF]; unfold folE; rw [eD]; rfl
    refine ⟨a1, ?_, ?_⟩
    · rw [eN]; unfold folN; rw [eD]; rfl
    · unfold FL; rw [a1]
      show (m.x :: folL r (twoM m q) 1 1 m.x) = _
      unfold folL
      rw [eD, eX]; rfl
theorem mx_enc {a b d n : Int} (h : a * d ≤ n) (k : b * d ≤ n) : mx a b * d ≤ n := by unfold mx; split <;> assumption
theorem mn_enc {a b d n : Int} (h : n ≤ a * d) (k : n ≤ b * d) : n ≤ mn a b * d := by unfold mn; split <;> assumption
theorem lo_enc {F b d n : Int} (hd : 0 < d) (hn : 0 ≤ n) (h : F * d ≤ n) (hb : 0 ≤ b) : (if 0 < F - b then F - b else 0) * d ≤ n := by
  split
  · have : (F - b) * d ≤ F * d := Int.mul_le_mul_of_nonneg_right (by omega) (by omega)
    omega
  · omega
theorem hi_enc {C b d n : Int} (hd : 0 < d) (h : n ≤ C * d) (hb : 0 ≤ b) : n ≤ (C + b) * d := by
  have : C * d ≤ (C + b) * d := Int.mul_le_mul_of_nonneg_right (by omega) (by omega)
  omega
theorem le_enc {a b d n : Int} (hd : 0 < d) (h : a * d ≤ n) (k : n ≤ b * d) : a ≤ b :=
  Int.le_of_mul_le_mul_right (show a * d ≤ b * d by omega) hd
set_option maxRecDepth 100000 in
set_option maxHeartbeats 4000000 in
theorem measured_walk (v0 v1 s0 s1 c0 c1 a0 a1 g0 g1 dy t0 t1 t2 t3 t4 wd : Int) (w : World) :
    Calls Try.prog 9 #[.agg #[.int .i64 v0, .int .i64 v1, .int .i64 s0, .int .i64 s1, .int .i64 c0, .int .i64 c1], .agg #[.int .i64 a0, .int .i64 a1, .int .i64 g0, .int .i64 g1], .agg #[.int .i64 dy, .int .i64 t0, .int .i64 t1, .int .i64 t2, .int .i64 t3, .int .i64 t4, .int .i64 wd]] w fun e w' => e = .returned (.bool true) ∧ Below w.heap.size w w' := by
  by_cases hz : (wineE v0 v1 s0 s1 c0 c1 != 0) = false ∧ (rateE a0 a1 g0 g1 != 0) = false ∧ inB dy 1 365 = true ∧ (v0 == 0) = false ∧ (s0 == 0) = false
  case neg =>
    refine measured_out fawake_any v0 v1 s0 s1 c0 c1 a0 a1 g0 g1 dy t0 t1 t2 t3 t4 wd w ?_
    by_cases h0 : (wineE v0 v1 s0 s1 c0 c1 != 0) = false
    case neg => exact .inl (by simpa using h0)
    by_cases h1 : (rateE a0 a1 g0 g1 != 0) = false
    case neg => exact .inr (.inl (by simpa using h1))
    by_cases h2 : inB dy 1 365 = true
    case neg => exact .inr (.inr (.inl (by simpa using h2)))
    by_cases h3 : (v0 == 0) = false
    case neg => exact .inr (.inr (.inr (.inl (by simpa using h3))))
    by_cases h4 : (s0 == 0) = false
    case neg => exact .inr (.inr (.inr (.inr ((by simpa using h4)))))
    exact absurd ⟨h0, h1, h2, h3, h4⟩ hz
  obtain ⟨z0, z1, z2, z3, z4⟩ := hz
  have zw : wineE v0 v1 s0 s1 c0 c1 = 0 := by simpa using z0
  have zr : rateE a0 a1 g0 g1 = 0 := by simpa using z1
  obtain ⟨D0, D1⟩ := inB_iff.1 z2
  have zv : ¬ v0 = 0 := by simpa using z3
  have zs : ¬ s0 = 0 := by simpa using z4
  obtain ⟨⟨V0, V1, V2⟩, ⟨S0, S1, S2⟩, ⟨C0, C1, C2⟩⟩ := wineE_zero.1 zw
  obtain ⟨⟨A0, A1, A2⟩, ⟨G0, G1, G2⟩⟩ := rateE_zero.1 zr
  obtain ⟨i0, j0⟩ := pick_bd v0 v1 t0 (by omega)
  have hp0 := fun w => fpick_any v0 v1 t0 w (by omega) (by omega) (by omega)
  obtain ⟨pv, hpv⟩ : ∃ r, v0 + t0 % (v1 - v0 + 1) = r := ⟨_, rfl⟩
  rw [hpv] at i0 j0
  simp only [hpv] at hp0
  obtain ⟨i1, j1⟩ := pick_bd s0 s1 t1 (by omega)
  have hp1 := fun w => fpick_any s0 s1 t1 w (by omega) (by omega) (by omega)
  obtain ⟨ps, hps⟩ : ∃ r, s0 + t1 % (s1 - s0 + 1) = r := ⟨_, rfl⟩
  rw [hps] at i1 j1
  simp only [hps] at hp1
  obtain ⟨i2, j2⟩ := pick_bd c0 c1 t2 (by omega)
  have hp2 := fun w => fpick_any c0 c1 t2 w (by omega) (by omega) (by omega)
  obtain ⟨pc, hpc⟩ : ∃ r, c0 + t2 % (c1 - c0 + 1) = r := ⟨_, rfl⟩
  rw [hpc] at i2 j2
  simp only [hpc] at hp2
  obtain ⟨i3, j3⟩ := pick_bd a0 a1 t3 (by omega)
  have hp3 := fun w => fpick_any a0 a1 t3 w (by omega) (by omega) (by omega)
  obtain ⟨pf, hpf⟩ : ∃ r, a0 + t3 % (a1 - a0 + 1) = r := ⟨_, rfl⟩
  rw [hpf] at i3 j3
  simp only [hpf] at hp3
  obtain ⟨i4, j4⟩ := pick_bd g0 g1 t4 (by omega)
  have hp4 := fun w => fpick_any g0 g1 t4 w (by omega) (by omega) (by omega)
  obtain ⟨pg, hpg⟩ : ∃ r, g0 + t4 % (g1 - g0 + 1) = r := ⟨_, rfl⟩
  rw [hpg] at i4 j4
  simp only [hpg] at hp4
  obtain ⟨m0, hm0⟩ : ∃ m, pf * dy = m := ⟨_, rfl⟩
  obtain ⟨m1, hm1⟩ : ∃ m, pg * dy = m := ⟨_, rfl⟩
  obtain ⟨M0, M1⟩ := mul_bd pf dy 2000 365 (by omega) (by omega) (by omega) (by omega)
  obtain ⟨M2, M3⟩ := mul_bd pg dy 2000 365 (by omega) (by omega) (by omega) (by omega)
  rw [hm0] at M0 M1
  rw [hm1] at M2 M3
  obtain ⟨lf, hlf⟩ : ∃ l, 1000000 - m0 = l := ⟨_, rfl⟩
  obtain ⟨st, hst⟩ : ∃ l, 1000000 - m1 = l := ⟨_, rfl⟩
  obtain ⟨n0, hn0⟩ : ∃ m, pv * lf = m := ⟨_, rfl⟩
  obtain ⟨n1, hn1⟩ : ∃ m, ps * st = m := ⟨_, rfl⟩
  obtain ⟨n2, hn2⟩ : ∃ m, pc * 1000000 = m := ⟨_, rfl⟩
  obtain ⟨N0, N1⟩ := mul_bd pv lf 100000 1000000 (by omega) (by omega) (by omega) (by omega)
  obtain ⟨N2, N3⟩ := mul_bd ps st 10000 1000000 (by omega) (by omega) (by omega) (by omega)
  rw [hn0] at N0 N1
  rw [hn1] at N2 N3
  have kF0 := fun w => fl_any n0 1000000 w (by omega) (by omega) (by omega) (by omega)
  have kC0 := fun w => ce_any n0 1000000 w (by omega) (by omega) (by omega) (by omega)
  have kF1 := fun w => fl_any n1 lf w (by omega) (by omega) (by omega) (by omega)
  have kC1 := fun w => ce_any n1 lf w (by omega) (by omega) (by omega) (by omega)
  have kF2 := fun w => fl_any n2 lf w (by omega) (by omega) (by omega) (by omega)
  have kC2 := fun w => ce_any n2 lf w (by omega) (by omega) (by omega) (by omega)
  have bF0 := fl_bd N0 (show (0 : Int) < 1000000 by omega)
  have bC0 := ce_bd N0 (show (0 : Int) < 1000000 by omega)
  have bF1 := fl_bd N2 (show 0 < lf by omega)
  have bC1 := ce_bd N2 (show 0 < lf by omega)
  have bF2 := fl_bd (show 0 ≤ n2 by omega) (show 0 < lf by omega)
  have bC2 := ce_bd (show 0 ≤ n2 by omega) (show 0 < lf by omega)
  have mF0 := fl_mul n0 1000000 (by omega)
  have mC0 := ce_mul n0 1000000 (by omega)
  have mF1 := fl_mul n1 lf (by omega)
  have mC1 := ce_mul n1 lf (by omega)
  have mF2 := fl_mul n2 lf (by omega)
  have mC2 := ce_mul n2 lf (by omega)
  generalize fl n0 1000000 = F0 at *
  generalize ce n0 1000000 = K0 at *
  generalize fl n1 lf = F1 at *
  generalize ce n1 lf = K1 at *
  generalize fl n2 lf = F2 at *
  generalize ce n2 lf = K2 at *
  have kM := fun w => mod_any wd 10 w (by omega) (by omega)
  have by0 := Int.emod_nonneg wd (show (10 : Int) ≠ 0 by decide)
  have by1 := Int.emod_lt_of_pos wd (show (0 : Int) < 10 by decide)
  generalize wd % 10 = b_ at *
  have q0 := lo_enc (F := F0) (b := b_) (d := 1000000) (n := n0) (by omega) N0 mF0 by0
  have q2 := lo_enc (F := F1) (b := b_) (d := lf) (n := n1) (by omega) N2 mF1 by0
  have q4 := lo_enc (F := F2) (b := b_) (d := lf) (n := n2) (by omega) (by omega) mF2 by0
  have q1 := hi_enc (C := K0) (b := b_) (d := 1000000) (n := n0) (by omega) mC0 by0
  have q3 := hi_enc (C := K1) (b := b_) (d := lf) (n := n1) (by omega) mC1 by0
  have q5 := hi_enc (C := K2) (b := b_) (d := lf) (n := n2) (by omega) mC2 by0
  obtain ⟨u0, hu0⟩ : ∃ u, (if 0 < F0 - b_ then F0 - b_ else 0) = u := ⟨_, rfl⟩
  obtain ⟨u1, hu1⟩ : ∃ u, K0 + b_ = u := ⟨_, rfl⟩
  rw [hu0] at q0
  rw [hu1] at q1
  obtain ⟨u2, hu2⟩ : ∃ u, (if 0 < F1 - b_ then F1 - b_ else 0) = u := ⟨_, rfl⟩
  obtain ⟨u3, hu3⟩ : ∃ u, K1 + b_ = u := ⟨_, rfl⟩
  rw [hu2] at q2
  rw [hu3] at q3
  obtain ⟨u4, hu4⟩ : ∃ u, (if 0 < F2 - b_ then F2 - b_ else 0) = u := ⟨_, rfl⟩
  obtain ⟨u5, hu5⟩ : ∃ u, K2 + b_ = u := ⟨_, rfl⟩
  rw [hu4] at q4
  rw [hu5] at q5
  have we0 : IntKind.i64.wrap (pf * dy) = m0 := by rw [hm0]; exact IntWalk.i64_in _ (by omega)
  have we1 : IntKind.i64.wrap (1000000 - m0) = lf := by rw [hlf]; exact IntWalk.i64_in _ (by omega)
  have we2 : IntKind.i64.wrap (pg * dy) = m1 := by rw [hm1]; exact IntWalk.i64_in _ (by omega)
  have we3 : IntKind.i64.wrap (1000000 - m1) = st := by rw [hst]; exact IntWalk.i64_in _ (by omega)
  have we4 : IntKind.i64.wrap (pv * lf) = n0 := by rw [hn0]; exact IntWalk.i64_in _ (by omega)
  have we5 : IntKind.i64.wrap (ps * st) = n1 := by rw [hn1]; exact IntWalk.i64_in _ (by omega)
  have we6 : IntKind.i64.wrap (pc * 1000000) = n2 := by rw [hn2]; exact IntWalk.i64_in _ (by omega)
  have wf0 : IntKind.i64.wrap (F0 - b_) = F0 - b_ := IntWalk.i64_in _ (by omega)
  have wc0 : IntKind.i64.wrap (K0 + b_) = u1 := by rw [hu1]; exact IntWalk.i64_in _ (by omega)
  have wf1 : IntKind.i64.wrap (F1 - b_) = F1 - b_ := IntWalk.i64_in _ (by omega)
  have wc1 : IntKind.i64.wrap (K1 + b_) = u3 := by rw [hu3]; exact IntWalk.i64_in _ (by omega)
  have wf2 : IntKind.i64.wrap (F2 - b_) = F2 - b_ := IntWalk.i64_in _ (by omega)
  have wc2 : IntKind.i64.wrap (K2 + b_) = u5 := by rw [hu5]; exact IntWalk.i64_in _ (by omega)
  by_cases hec : wineE u0 u1 u2 u3 u4 u5 = 0
  case neg => exact measured_wide fawake_any v0 v1 s0 s1 c0 c1 a0 a1 g0 g1 dy t0 t1 t2 t3 t4 wd pv ps pc pf pg m0 m1 lf st n0 n1 n2 F0 F1 F2 K0 K1 K2 (F0 - b_) (F1 - b_) (F2 - b_) b_ u0 u1 u2 u3 u4 u5 _ w z0 z1 z2 z3 z4 hp0 hp1 hp2 hp3 hp4 we0 we1 we2 we3 we4 we5 we6 wf0 wf1 wf2 wc0 wc1 wc2 kF0 kC0 kF1 kC1 kF2 kC2 kM hu0 hu2 hu4 rfl (by simpa using hec)
  obtain ⟨⟨W0, W1, W2⟩, ⟨W3, W4, W5⟩, ⟨W6, W7, W8⟩⟩ := wineE_zero.1 hec
  have wdz : IntKind.i64.wrap (10 + dy) = 10 + dy := IntWalk.i64_in _ (by omega)
  have hb : betE 10 (10 + dy) = 0 := by rw [betE_eq 10 (10 + dy) (by omega) (by omega) (by omega) (by omega), betR, if_neg (by omega), if_neg (by omega)]
  have e0 : Ms.err ⟨10, v0, v1, s0, s1, c0, c1⟩ = 0 := by show measE 10 v0 v1 s0 s1 c0 c1 = 0; rw [measE, zw]; rfl
  have e1 : Ms.err ⟨10 + dy, u0, u1, u2, u3, u4, u5⟩ = 0 := by
    have : numE (10 + dy) 0 100000 = 0 := by have : inB (10 + dy) 0 100000 = true := inB_yes (by omega) (by omega); simp [numE, this]
    show measE (10 + dy) u0 u1 u2 u3 u4 u5 = 0
    rw [measE, hec, this]; rfl
  have hft := fol_two (r := ⟨a0, a1, g0, g1, 0⟩) zr e0 e1 hb (⟨a0, a1, g0, g1, dy⟩ : Sp) (by rw [show ((⟨10 + dy, u0, u1, u2, u3, u4, u5⟩ : Ms).d - (⟨10, v0, v1, s0, s1, c0, c1⟩ : Ms).d) = dy by show 10 + dy - 10 = dy; omega])
  have hFO : ∀ (b : Nat) (w : World), w.cell? ⟨b, 0, none⟩ = some (.int .i64 10) → w.cell? ⟨b, 1, none⟩ = some (.int .i64 v0) → w.cell? ⟨b, 2, none⟩ = some (.int .i64 v1) → w.cell? ⟨b, 3, none⟩ = some (.int .i64 s0) → w.cell? ⟨b, 4, none⟩ = some (.int .i64 s1) → w.cell? ⟨b, 5, none⟩ = some (.int .i64 c0) → w.cell? ⟨b, 6, none⟩ = some (.int .i64 c1) → w.cell? ⟨b, 7, none⟩ = some (.int .i64 (10 + dy)) → w.cell? ⟨b, 8, none⟩ = some (.int .i64 u0) → w.cell? ⟨b, 9, none⟩ = some (.int .i64 u1) → w.cell? ⟨b, 10, none⟩ = some (.int .i64 u2) → w.cell? ⟨b, 11, none⟩ = some (.int .i64 u3) → w.cell? ⟨b, 12, none⟩ = some (.int .i64 u4) → w.cell? ⟨b, 13, none⟩ = some (.int .i64 u5) → Calls Try.prog 25 #[.agg #[.int .i64 a0, .int .i64 a1, .int .i64 g0, .int .i64 g1], .slice (some ⟨b, 0, none⟩) 2 2] w fun e w' => (∃ (sb : Option Addr) (cb g : Nat), e = .returned (.tuple #[.slice sb (FL ⟨a0, a1, g0, g1, 0⟩ (twoM ⟨10, v0, v1, s0, s1, c0, c1⟩ ⟨10 + dy, u0, u1, u2, u3, u4, u5⟩) 2).length cb, .int .i64 (FN ⟨a0, a1, g0, g1, 0⟩ (twoM ⟨10, v0, v1, s0, s1, c0, c1⟩ ⟨10 + dy, u0, u1, u2, u3, u4, u5⟩) 2), .int .i64 (FE ⟨a0, a1, g0, g1, 0⟩ (twoM ⟨10, v0, v1, s0, s1, c0, c1⟩ ⟨10 + dy, u0, u1, u2, u3, u4, u5⟩) 2)]) ∧ Lies (FL ⟨a0, a1, g0, g1, 0⟩ (twoM ⟨10, v0, v1, s0, s1, c0, c1⟩ ⟨10 + dy, u0, u1, u2, u3, u4, u5⟩) 2) sb g w') ∧ Below w.heap.size w w' := fun b w cl0 cl1 cl2 cl3 cl4 cl5 cl6 cl7 cl8 cl9 cl10 cl11 cl12 cl13 =>
    followed_any ⟨a0, a1, g0, g1, 0⟩ (twoM ⟨10, v0, v1, s0, s1, c0, c1⟩ ⟨10 + dy, u0, u1, u2, u3, u4, u5⟩) _ 2 2 b 0 w (fun _ => rfl) (by
      intro k j hk hj
      match k, j, hk, hj with
      | 0, 0, _, _ => exact cl0
      | 0, 1, _, _ => exact cl1
      | 0, 2, _, _ => exact cl2
      | 0, 3, _, _ => exact cl3
      | 0, 4, _, _ => exact cl4
      | 0, 5, _, _ => exact cl5
      | 0, 6, _, _ => exact cl6
      | 1, 0, _, _ => exact cl7
      | 1, 1, _, _ => exact cl8
      | 1, 2, _, _ => exact cl9
      | 1, 3, _, _ => exact cl10
      | 1, 4, _, _ => exact cl11
      | 1, 5, _, _ => exact cl12
      | 1, 6, _, _ => exact cl13)
  by_cases hl : (⟨v0, v1, s0, s1, c0, c1⟩ : Wn).large (⟨a0, a1, g0, g1, dy⟩ : Sp)
  · obtain ⟨x1, x2, x3⟩ := hft.1 hl
    rw [x1, x2, x3] at hFO
    exact measured_large fawake_any v0 v1 s0 s1 c0 c1 a0 a1 g0 g1 dy t0 t1 t2 t3 t4 wd pv ps pc pf pg m0 m1 lf st n0 n1 n2 F0 F1 F2 K0 K1 K2 (F0 - b_) (F1 - b_) (F2 - b_) b_ u0 u1 u2 u3 u4 u5 _ (10 + dy) w z0 z1 z2 z3 z4 hp0 hp1 hp2 hp3 hp4 we0 we1 we2 we3 we4 we5 we6 wf0 wf1 wf2 wc0 wc1 wc2 kF0 kC0 kF1 kC1 kF2 kC2 kM hu0 hu2 hu4 rfl (by rw [hec]; rfl) wdz (fun b w cl0 cl1 cl2 cl3 cl4 cl5 cl6 cl7 cl8 cl9 cl10 cl11 cl12 cl13 => (hFO b w cl0 cl1 cl2 cl3 cl4 cl5 cl6 cl7 cl8 cl9 cl10 cl11 cl12 cl13).mono fun e w' ⟨⟨sb, cb, _, he, _⟩, hb⟩ => ⟨⟨sb, cb, he⟩, hb⟩)
  have ht : (⟨v0, v1, s0, s1, c0, c1⟩ : Wn).task (⟨a0, a1, g0, g1, dy⟩ : Sp) = 0 := task_of zw zr (daysE_zero.2 ⟨(show (0 : Int) ≤ dy by omega), D1⟩)
  have en0 : Encl (⟨v0, v1, s0, s1, c0, c1⟩ : Wn) pv 1 ps 1 pc 1 := ⟨⟨by show v0 * 1 ≤ pv; omega, by show pv ≤ v1 * 1; omega⟩, ⟨by show s0 * 1 ≤ ps; omega, by show ps ≤ s1 * 1; omega⟩, ⟨by show c0 * 1 ≤ pc; omega, by show pc ≤ c1 * 1; omega⟩⟩
  have en1 := encl_step (f := pf) (g := pg) ht en0 (by omega) (by omega) (by omega) (by omega) (by omega) (by omega) i3 j3 i4 j4
  dsimp only at en1
  rw [hm0, hm1, hlf, hst, hn0, hn1, hn2] at en1
  simp only [Int.one_mul] at en1
  obtain ⟨⟨b0, b1, b2, b3, b4, b5⟩, hy⟩ : ∃ y, (⟨v0, v1, s0, s1, c0, c1⟩ : Wn).behind (⟨a0, a1, g0, g1, dy⟩ : Sp) = y := ⟨_, rfl⟩
  rw [hy] at en1
  obtain ⟨⟨x0, x1⟩, ⟨x2, x3⟩, ⟨x4, x5⟩⟩ := en1
  dsimp only at x0 x1 x2 x3 x4 x5
  have k0 := mx_enc x0 q0
  have k1 := mn_enc x1 q1
  have k2 := mx_enc x2 q2
  have k3 := mn_enc x3 q3
  have k4 := mx_enc x4 q4
  have k5 := mn_enc x5 q5
  have l0 := le_enc (by omega) k0 k1
  have l1 := le_enc (by omega) k2 k3
  have l2 := le_enc (by omega) k4 k5
  have hB : (Wn.com ⟨b0, b1, b2, b3, b4, b5⟩ ⟨u0, u1, u2, u3, u4, u5⟩).isB = true := by simp [Wn.isB, Wn.com, l0, l1, l2]
  have hke := com_right (x := ⟨b0, b1, b2, b3, b4, b5⟩) (y := ⟨u0, u1, u2, u3, u4, u5⟩) hec hB
  have hfine := hft.2 hl (by show (Wn.com (Wn.behind _ _) ⟨u0, u1, u2, u3, u4, u5⟩).isB = true; rw [show Wn.behind (Ms.x ⟨10, v0, v1, s0, s1, c0, c1⟩) (⟨a0, a1, g0, g1, dy⟩ : Sp) = ⟨b0, b1, b2, b3, b4, b5⟩ from hy]; exact hB)
  obtain ⟨y1, y2, y3⟩ := hfine
  have y3 : FL ⟨a0, a1, g0, g1, 0⟩ (twoM ⟨10, v0, v1, s0, s1, c0, c1⟩ ⟨10 + dy, u0, u1, u2, u3, u4, u5⟩) 2 = [⟨v0, v1, s0, s1, c0, c1⟩, ⟨mx b0 u0, mn b1 u1, mx b2 u2, mn b3 u3, mx b4 u4, mn b5 u5⟩] := by
    rw [y3, show Wn.behind (Ms.x ⟨10, v0, v1, s0, s1, c0, c1⟩) (⟨a0, a1, g0, g1, dy⟩ : Sp) = ⟨b0, b1, b2, b3, b4, b5⟩ from hy]; rfl
  rw [y1, y2, y3] at hFO
  obtain ⟨⟨R0, R1, R2⟩, ⟨T0, T1, T2⟩, ⟨Z0, Z1, Z2⟩⟩ := wineE_zero.1 hke
  dsimp only [Wn.com] at R0 R1 R2 T0 T1 T2 Z0 Z1 Z2
  generalize mx b0 u0 = p0 at *
  generalize mn b1 u1 = p1 at *
  generalize mx b2 u2 = p2 at *
  generalize mn b3 u3 = p3 at *
  generalize mx b4 u4 = p4 at *
  generalize mn b5 u5 = p5 at *
  have hnm : numE dy 1 365 = 0 := by have : inB dy 1 365 = true := z2; simp [numE, this]
  have hFr : (first4 (wineE v0 v1 s0 s1 c0 c1) (wineE u0 u1 u2 u3 u4 u5) (numE dy 1 365) (unlE true 25) != 0) = false := by rw [zw, hec, hnm]; rfl
  obtain ⟨mp0, mp1⟩ := mul_bd v0 s0 100000 10000 (by omega) (by omega) (by omega) (by omega)
  obtain ⟨mq0, mq1⟩ := mul_bd v1 s1 100000 10000 (by omega) (by omega) (by omega) (by omega)
  obtain ⟨mr0, mr1⟩ := mul_bd u0 u2 100000 10000 (by omega) (by omega) (by omega) (by omega)
  obtain ⟨ms0, ms1⟩ := mul_bd u1 u3 100000 10000 (by omega) (by omega) (by omega) (by omega)
  have mp2 : 0 < v0 * s0 := Int.mul_pos (by omega) (by omega)
  have mq2 : 0 < v1 * s1 := Int.mul_pos (by omega) (by omega)
  have kW := fun w => rateWine v0 v1 s0 s1 c0 c1 u0 u1 u2 u3 u4 u5 dy v0 v1 u0 u1 w (by omega) (by omega) (by omega) (by omega) (by omega) (by omega) (by omega) (by omega) (by omega) (by omega) (fun w => leastVolume_any v0 v1 s0 s1 c0 c1 w) (fun w => mostVolume_any u0 u1 u2 u3 u4 u5 w) (fun w => mostVolume_any v0 v1 s0 s1 c0 c1 w) (fun w => leastVolume_any u0 u1 u2 u3 u4 u5 w)
  have kA := fun w => rateAlc v0 v1 s0 s1 c0 c1 u0 u1 u2 u3 u4 u5 dy (v0 * s0) (v1 * s1) (u0 * u2) (u1 * u3) w (by omega) (by omega) (by omega) (by omega) (by omega) (by omega) (by omega) (by omega) (by omega) (by omega) (fun w => leastAlcohol_any v0 v1 s0 s1 c0 c1 w (by omega) (by omega) (by omega) (by omega) (by omega) (by omega) (by omega) (by omega)) (fun w => mostAlcohol_any u0 u1 u2 u3 u4 u5 w (by omega) (by omega) (by omega) (by omega) (by omega) (by omega) (by omega) (by omega)) (fun w => mostAlcohol_any v0 v1 s0 s1 c0 c1 w (by omega) (by omega) (by omega) (by omega) (by omega) (by omega) (by omega) (by omega)) (fun w => leastAlcohol_any u0 u1 u2 u3 u4 u5 w (by omega) (by omega) (by omega) (by omega) (by omega) (by omega) (by omega) (by omega))
  have Hd : 0 < dy := by omega
  have lfe : lft pf dy = lf := by rw [← hlf, ← hm0]; rfl
  have ste : lft pg dy = st := by rw [← hst, ← hm1]; rfl
  have Y0 := back_lo (v := v0) (e := u1) (a := pf) (days := dy) (by omega) Hd (by rw [lfe]; have := Int.mul_le_mul_of_nonneg_right i0 (show 0 ≤ lf by omega); omega)
  have Y1 := back_hi (v := v1) (e := u0) (a := pf) (days := dy) (by omega) Hd (by rw [lfe]; have := Int.mul_le_mul_of_nonneg_right j0 (show 0 ≤ lf by omega); omega)
  have Y2 := back_lo (v := v0 * s0) (e := u1 * u3) (a := pg) (days := dy) mp2 Hd (by rw [ste]; exact alc_lo (v1 := pv) (s1 := ps) (L0 := lf) (L1 := lf) V0 i0 S0 i1 (by omega) (Int.le_refl _) (by omega) (by omega) (by omega) (by rw [hn0]; exact q1) (by rw [hn1]; exact q3))
  have Y3 := back_hi (v := v1 * s1) (e := u0 * u2) (a := pg) (days := dy) mq2 Hd (by rw [ste]; exact alc_hi (v0 := pv) (s0 := ps) (L0 := lf) (L1 := lf) (by omega) j0 (by omega) j1 (by omega) (Int.le_refl _) (by omega) (by omega) (by rw [hn0]; exact q0) (by rw [hn1]; exact q2))
  have mx_le : ∀ x y z : Int, x ≤ z → y ≤ z → mx x y ≤ z := fun x y z h1 h2 => by unfold mx; split <;> omega
  have le_mn : ∀ x y z : Int, z ≤ x → z ≤ y → z ≤ mn x y := fun x y z h1 h2 => by unfold mn; split <;> omega
  have w1 := mx_le _ 0 _ Y0 (by omega)
  have w2 := le_mn _ 2000 _ Y1 (by omega)
  have w3 := mx_le _ 0 _ Y2 (by omega)
  have w4 := le_mn _ 2000 _ Y3 (by omega)
  refine measured_fine fawake_any v0 v1 s0 s1 c0 c1 a0 a1 g0 g1 dy t0 t1 t2 t3 t4 wd pv ps pc pf pg m0 m1 lf st n0 n1 n2 F0 F1 F2 K0 K1 K2 (F0 - b_) (F1 - b_) (F2 - b_) b_ u0 u1 u2 u3 u4 u5 _ (10 + dy) p0 p1 p2 p3 p4 p5 _ _ _ _ w z0 z1 z2 z3 z4 hp0 hp1 hp2 hp3 hp4 we0 we1 we2 we3 we4 we5 we6 wf0 wf1 wf2 wc0 wc1 wc2 kF0 kC0 kF1 kC1 kF2 kC2 kM hu0 hu2 hu4 rfl (by rw [hec]; rfl) wdz ?_ (fbet n0 1000000 p0 p1 N0 (by omega) (by omega) (by omega) R0 R1 R2 k0 k1) (fbet n1 lf p2 p3 N2 (by omega) (by omega) (by omega) T0 T1 (by omega) k2 k3) (fbet n2 lf p4 p5 (by omega) (by omega) (by omega) (by omega) Z0 Z1 Z2 k4 k5) (fun w => florRates_fine v0 v1 s0 s1 c0 c1 u0 u1 u2 u3 u4 u5 dy w (by omega) (by omega) hFr _ _ _ _ (Int.le_trans w1 w2) (Int.le_trans w3 w4) kW kA) (within_yes w1 w2) (within_yes w3 w4)
  intro b w cl0 cl1 cl2 cl3 cl4 cl5 cl6 cl7 cl8 cl9 cl10 cl11 cl12 cl13
  refine (hFO b w cl0 cl1 cl2 cl3 cl4 cl5 cl6 cl7 cl8 cl9 cl10 cl11 cl12 cl13).mono fun e w' ⟨⟨sb, cb, g, he, hL1, hL2⟩, hb⟩ => ⟨?_, hb⟩
  obtain rfl := hL1 (Nat.succ_pos _)
  exact ⟨cb, g, he, hL2 0 0 (by simp) (by decide), hL2 0 1 (by simp) (by decide), hL2 0 2 (by simp) (by decide), hL2 0 3 (by simp) (by decide), hL2 0 4 (by simp) (by decide), hL2 0 5 (by simp) (by decide), hL2 1 0 (by simp) (by decide), hL2 1 1 (by simp) (by decide), hL2 1 2 (by simp) (by decide), hL2 1 3 (by simp) (by decide), hL2 1 4 (by simp) (by decide), hL2 1 5 (by simp) (by decide)⟩
theorem topFlorMeasured_holds : Rows.TopFlorMeasuredSaid :=
  TopFlorMeasured.over (fun v0 v1 s0 s1 c0 c1 a0 a1 g0 g1 dy t0 t1 t2 t3 t4 wd w _ => measured_walk v0 v1 s0 s1 c0 c1 a0 a1 g0 g1 dy t0 t1 t2 t3 t4 wd w)
end Go.Proofs.Ytpccfjdgnmmfoaa
