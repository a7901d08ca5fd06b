/- The reference's Followed: its walk. -/
import Derived.Test.YtpccfjdgnmmfoaaWW
namespace Go.Proofs.Ytpccfjdgnmmfoaa
open Go.RowKit

theorem pack18 {w w1 : World} {p0 p1 p2 p3 p4 p5 p6 p7 p8 p9 p10 p11 p12 p13 p14 p15 p16 p17 : Addr} {v0 v1 v2 v3 v4 v5 v6 v7 v8 v9 v10 v11 v12 v13 v14 v15 v16 v17 : Value} (hb : Below w.heap.size w w1) (h0 : w.cell? p0 = some v0) (h1 : w.cell? p1 = some v1) (h2 : w.cell? p2 = some v2) (h3 : w.cell? p3 = some v3) (h4 : w.cell? p4 = some v4) (h5 : w.cell? p5 = some v5) (h6 : w.cell? p6 = some v6) (h7 : w.cell? p7 = some v7) (h8 : w.cell? p8 = some v8) (h9 : w.cell? p9 = some v9) (h10 : w.cell? p10 = some v10) (h11 : w.cell? p11 = some v11) (h12 : w.cell? p12 = some v12) (h13 : w.cell? p13 = some v13) (h14 : w.cell? p14 = some v14) (h15 : w.cell? p15 = some v15) (h16 : w.cell? p16 = some v16) (h17 : w.cell? p17 = some v17) : w1.cell? p0 = some v0 ∧ w1.cell? p1 = some v1 ∧ w1.cell? p2 = some v2 ∧ w1.cell? p3 = some v3 ∧ w1.cell? p4 = some v4 ∧ w1.cell? p5 = some v5 ∧ w1.cell? p6 = some v6 ∧ w1.cell? p7 = some v7 ∧ w1.cell? p8 = some v8 ∧ w1.cell? p9 = some v9 ∧ w1.cell? p10 = some v10 ∧ w1.cell? p11 = some v11 ∧ w1.cell? p12 = some v12 ∧ w1.cell? p13 = some v13 ∧ w1.cell? p14 = some v14 ∧ w1.cell? p15 = some v15 ∧ w1.cell? p16 = some v16 ∧ w1.cell? p17 = some v17 ∧ Below w.heap.size w w1 :=
  ⟨keepC hb h0, keepC hb h1, keepC hb h2, keepC hb h3, keepC hb h4, keepC hb h5, keepC hb h6, keepC hb h7, keepC hb h8, keepC hb h9, keepC hb h10, keepC hb h11, keepC hb h12, keepC hb h13, keepC hb h14, keepC hb h15, keepC hb h16, keepC hb h17, hb⟩
theorem getD_last (xs : List Wn) (z : Wn) (k : Nat) (h : xs.length = k) : (xs ++ [z]).getD k .zero = z := by
  subst h
  simp [List.getD]
set_option linter.unusedVariables false in
set_option linter.unusedSimpArgs false in
set_option maxRecDepth 100000 in
set_option maxHeartbeats 8000000 in
theorem rfol_rate (r : Sp) (f : Nat → Ms) (sa : Option Addr) (n cp b off : Nat) (w : World) (hd : (rateE r.a0 r.a1 r.g0 r.g1 != 0) = true) :
    Calls Try.prog 27 #[.agg #[.int .i64 r.a0, .int .i64 r.a1, .int .i64 r.g0, .int .i64 r.g1], .slice sa n cp] w fun e w' => e = .returned (.tuple #[.slice none 0 0, .int .i64 0, .int .i64 (rateE r.a0 r.a1 r.g0 r.g1)]) ∧ Below w.heap.size w w' := by
  go_enter Try.func27, Try.ntmps27
  go_wp2_with (first | (go_at_call 33; refine (checkRate_any _ _ _ _ _).mono ?_; rintro e w1 ⟨rfl, hb1⟩; have hB1 := belowSeq hb1 ((Below.refl _ w).alloc (Nat.le_refl _) _)) | ((with_reducible refine bodyPost_ret (v := .tuple #[.slice none 0 0, .int .i64 0, .int .i64 (rateE r.a0 r.a1 r.g0 r.g1)]) ?_ rfl ?_); (simp [results, Try.results27, go_sem]); exact ⟨rfl, hB1⟩))
set_option linter.unusedVariables false in
set_option linter.unusedSimpArgs false in
set_option maxRecDepth 100000 in
set_option maxHeartbeats 8000000 in
theorem rfol_shape (r : Sp) (f : Nat → Ms) (sa : Option Addr) (n cp b off : Nat) (w : World) (hr : (rateE r.a0 r.a1 r.g0 r.g1 != 0) = false) (h0 : n = 0) :
    Calls Try.prog 27 #[.agg #[.int .i64 r.a0, .int .i64 r.a1, .int .i64 r.g0, .int .i64 r.g1], .slice sa n cp] w fun e w' => e = .returned (.tuple #[.slice none 0 0, .int .i64 0, .int .i64 10]) ∧ Below w.heap.size w w' := by
  subst h0
  go_enter Try.func27, Try.ntmps27
  go_wp2_with (first | (go_at_call 33; refine (checkRate_any _ _ _ _ _).mono ?_; rintro e w1 ⟨rfl, hb1⟩; have hB1 := belowSeq hb1 ((Below.refl _ w).alloc (Nat.le_refl _) _)) | ((with_reducible refine bodyPost_ret (v := .tuple #[.slice none 0 0, .int .i64 0, .int .i64 10]) ?_ rfl ?_); (simp [results, Try.results27, go_sem]); exact ⟨rfl, hB1⟩))
set_option linter.unusedVariables false in
set_option linter.unusedSimpArgs false in
set_option maxRecDepth 100000 in
set_option maxHeartbeats 8000000 in
theorem rfol_large (r : Sp) (f : Nat → Ms) (sa : Option Addr) (n cp b off : Nat) (w : World) (hr : (rateE r.a0 r.a1 r.g0 r.g1 != 0) = false) (h0 : ((n : Int) == 0) = false) (h1 : (40 : Int) < (n : Int)) :
    Calls Try.prog 27 #[.agg #[.int .i64 r.a0, .int .i64 r.a1, .int .i64 r.g0, .int .i64 r.g1], .slice sa n cp] w fun e w' => e = .returned (.tuple #[.slice none 0 0, .int .i64 0, .int .i64 8]) ∧ Below w.heap.size w w' := by
  go_enter Try.func27, Try.ntmps27
  go_wp2_with (first | (go_at_call 33; refine (checkRate_any _ _ _ _ _).mono ?_; rintro e w1 ⟨rfl, hb1⟩; have hB1 := belowSeq hb1 ((Below.refl _ w).alloc (Nat.le_refl _) _)) | ((with_reducible refine bodyPost_ret (v := .tuple #[.slice none 0 0, .int .i64 0, .int .i64 8]) ?_ rfl ?_); (simp [results, Try.results27, go_sem]); exact ⟨rfl, hB1⟩))
set_option linter.unusedVariables false in
set_option linter.unusedSimpArgs false in
set_option maxRecDepth 100000 in
set_option maxHeartbeats 8000000 in
theorem rfol_ok (r : Sp) (f : Nat → Ms) (sa : Option Addr) (n cp b off : Nat) (w : World) (hr : rateE r.a0 r.a1 r.g0 r.g1 = 0) (h0 : 0 < n) (hn : n ≤ 40) (hsa : 0 < n → sa = some ⟨b, off, none⟩) (hc : ∀ k j, k < n → j < 7 → w.cell? ⟨b, off + k * 7 + j, none⟩ = some (.int .i64 ((f k).at j))) :
    Calls Try.prog 27 #[.agg #[.int .i64 r.a0, .int .i64 r.a1, .int .i64 r.g0, .int .i64 r.g1], .slice sa n cp] w fun e w' => ((mesE f n 0 ≠ 0 ∧ e = .returned (.tuple #[.slice none 0 0, .int .i64 (mesN f n 0), .int .i64 (mesE f n 0)])) ∨ (mesE f n 0 = 0 ∧ ((folE r f (n - 1) 1 (f 0).x = 0 ∧ (∃ (cb g : Nat), e = .returned (.tuple #[.slice (some ⟨g, 0, none⟩) ((f 0).x :: folL r f (n - 1) 1 (f 0).x).length cb, .int .i64 0, .int .i64 0]) ∧ ∀ i j, i < ((f 0).x :: folL r f (n - 1) 1 (f 0).x).length → j < 6 → w'.cell? ⟨g, i * 6 + j, none⟩ = some (.int .i64 ((((f 0).x :: folL r f (n - 1) 1 (f 0).x).getD i .zero).at j)))) ∨ (folE r f (n - 1) 1 (f 0).x ≠ 0 ∧ e = .returned (.tuple #[.slice none 0 0, .int .i64 (folN r f (n - 1) 1 (f 0).x), .int .i64 (folE r f (n - 1) 1 (f 0).x)]))))) ∧ Below w.heap.size w w' := by
  have hr0 : (rateE r.a0 r.a1 r.g0 r.g1 != 0) = false := by rw [hr]; rfl
  have HR := Lib.hid hr
  have HC := Lib.hid hc
  clear hr hc
  obtain rfl := hsa h0
  obtain ⟨i0, hi, hz0, hz1, hz2⟩ := info_parts wineInfo
  obtain ⟨⟨m0, m1, m2, m3, m4, m5, m6⟩, hm0⟩ : ∃ m, f 0 = m := ⟨_, rfl⟩
  have hx0 : (f 0).x = ⟨m1, m2, m3, m4, m5, m6⟩ := by rw [hm0]; rfl
  have HM0 := Lib.hid hm0
  rw [hx0]
  have HX0 := Lib.hid hx0
  generalize hLL : ((⟨m1, m2, m3, m4, m5, m6⟩ : Wn) :: folL r f (n - 1) 1 ⟨m1, m2, m3, m4, m5, m6⟩) = LL
  have HLL := Lib.hid hLL.symm
  clear hm0 hLL hx0
  have hn0 : ((n : Int) == 0) = false := by simp; omega
  have hn40 : ¬ (40 : Int) < (n : Int) := by omega
  go_enter Try.func27, Try.ntmps27
  go_wp2_with (go_at_call 33; refine (checkRate_any _ _ _ _ _).mono ?_; rintro e w1 ⟨rfl, hb1⟩; have hB1 := belowSeq hb1 ((Below.refl _ w).alloc (Nat.le_refl _) _))
  have q0 : w1.cell? ⟨w.heap.size, 0, none⟩ = some (.int .i64 r.a0) := keepC hb1 (by go_cell)
  have q1 : w1.cell? ⟨w.heap.size, 1, none⟩ = some (.int .i64 r.a1) := keepC hb1 (by go_cell)
  have q2 : w1.cell? ⟨w.heap.size, 2, none⟩ = some (.int .i64 r.g0) := keepC hb1 (by go_cell)
  have q3 : w1.cell? ⟨w.heap.size, 3, none⟩ = some (.int .i64 r.g1) := keepC hb1 (by go_cell)
  go_loopw [8] (fun i wr => ∃ k : Nat, (k ≤ n ∧ i = .int .i64 k) ∧ Hid (mesN f n 0 = mesN f (n - k) k ∧ mesE f n 0 = mesE f (n - k) k) ∧ Hid (∀ j, j < k → mesS f j = 0) ∧ wr.cell? ⟨w.heap.size, 0, none⟩ = some (.int .i64 r.a0) ∧ wr.cell? ⟨w.heap.size, 1, none⟩ = some (.int .i64 r.a1) ∧ wr.cell? ⟨w.heap.size, 2, none⟩ = some (.int .i64 r.g0) ∧ wr.cell? ⟨w.heap.size, 3, none⟩ = some (.int .i64 r.g1) ∧ Below w.heap.size w wr)
    (fun i _ => n - (intOf i).toNat)
  case atStart => exact ⟨0, ⟨Nat.zero_le _, rfl⟩, Lib.hid ⟨rfl, rfl⟩, Lib.hid (fun j hj => by omega), q0, q1, q2, q3, hB1⟩
  case round =>
    clear q0 q1 q2 q3 hB1 hb1
    obtain ⟨k, ⟨hk, rfl⟩, HE, HA, q0, q1, q2, q3, hB⟩ := hrel
    have hs0 : w.heap.size < wr.heap.size := World.block_lt_of_cell? wr _ q0
    by_cases hlt : k < n
    · obtain ⟨⟨t0, t1, t2, t3, t4, t5, t6⟩, hr⟩ : ∃ r, f k = r := ⟨_, rfl⟩
      have d0 := keepC hB (HC.out k 0 hlt (by omega))
      rw [hr] at d0
      rw [Nat.add_zero] at d0
      dsimp only [Ms.at] at d0
      have d1 := keepC hB (HC.out k 1 hlt (by omega))
      rw [hr] at d1
      dsimp only [Ms.at] at d1
      have d2 := keepC hB (HC.out k 2 hlt (by omega))
      rw [hr] at d2
      dsimp only [Ms.at] at d2
      have d3 := keepC hB (HC.out k 3 hlt (by omega))
      rw [hr] at d3
      dsimp only [Ms.at] at d3
      have d4 := keepC hB (HC.out k 4 hlt (by omega))
      rw [hr] at d4
      dsimp only [Ms.at] at d4
      have d5 := keepC hB (HC.out k 5 hlt (by omega))
      rw [hr] at d5
      dsimp only [Ms.at] at d5
      have d6 := keepC hB (HC.out k 6 hlt (by omega))
      rw [hr] at d6
      dsimp only [Ms.at] at d6
      obtain ⟨e0, he0⟩ : ∃ e, measE t0 t1 t2 t3 t4 t5 t6 = e := ⟨_, rfl⟩
      have HE0 := Lib.hid he0
      obtain ⟨d, hd2⟩ : ∃ d, mesS f k = d := ⟨_, rfl⟩
      have HS := Lib.hid (mes_step f n k hlt d hd2)
      have her : (f k).err = e0 := by rw [hr]; exact he0
      have HG : Hid (d = 0 → ∀ j, j < k + 1 → mesS f j = 0) := Lib.hid (fun hd j hj => by
        by_cases e : j = k
        · rw [e, hd2]; exact hd
        · exact HA.out j (by omega))
      by_cases hem : e0 = 0
      · by_cases hk0 : k = 0
        · obtain rfl : d = 0 := by rw [← hd2]; exact mesS_first (by rw [her]; exact hem) hk0
          subst hem
          have HK := Lib.hid hk0
          have HD : Hid ((0 : Int) = 0) := Lib.hid rfl
          clear hk0 her hd2 he0 hr
          have hk1 : ¬ 0 < k := by have := HK.out; omega
          go_wp2_with (go_at_call 68; refine (rMeasure_any _ _ _ _ _ _ _ _).mono ?_; rintro e w3 ⟨rfl, hb3⟩; rw [HE0.out]; have hB3 := belowSeq hb3 hB; have Q0 := keepC hb3 q0; have Q1 := keepC hb3 q1; have Q2 := keepC hb3 q2; have Q3 := keepC hb3 q3)
          go_roundw
          case rel =>
            obtain ⟨s1, s2⟩ := HS.out
            obtain ⟨q1, q2⟩ := HE.out
            rw [if_pos HD.out] at s1 s2
            exact ⟨k + 1, ⟨by omega, by go_num⟩, Lib.hid ⟨q1.trans s1, q2.trans s2⟩, Lib.hid (HG.out HD.out), Q0, Q1, Q2, Q3, hB3⟩
          case measure => simp [intOf]; omega
        · obtain ⟨q, hqk⟩ : ∃ q, k = q + 1 := ⟨k - 1, by omega⟩
          obtain ⟨⟨p0, p1, p2, p3, p4, p5, p6⟩, hp⟩ : ∃ r, f q = r := ⟨_, rfl⟩
          have c0 := keepC hB (HC.out q 0 (by omega) (by omega))
          rw [hp] at c0
          rw [Nat.add_zero] at c0
          dsimp only [Ms.at] at c0
          have c1 := keepC hB (HC.out q 1 (by omega) (by omega))
          rw [hp] at c1
          dsimp only [Ms.at] at c1
          have c2 := keepC hB (HC.out q 2 (by omega) (by omega))
          rw [hp] at c2
          dsimp only [Ms.at] at c2
          have c3 := keepC hB (HC.out q 3 (by omega) (by omega))
          rw [hp] at c3
          dsimp only [Ms.at] at c3
          have c4 := keepC hB (HC.out q 4 (by omega) (by omega))
          rw [hp] at c4
          dsimp only [Ms.at] at c4
          have c5 := keepC hB (HC.out q 5 (by omega) (by omega))
          rw [hp] at c5
          dsimp only [Ms.at] at c5
          have c6 := keepC hB (HC.out q 6 (by omega) (by omega))
          rw [hp] at c6
          dsimp only [Ms.at] at c6
          have hkq : k - 1 = q := by omega
          have hdd : betE p0 t0 = d := by rw [← hd2, mesS_later (by rw [her]; exact hem) hk0, hkq, hp, hr]
          have hbq := (mesS_right (HA.out q (by omega))).1
          have hbk := (measE_zero (d := (f k).d) (v0 := (f k).v0) (v1 := (f k).v1) (s0 := (f k).s0) (s1 := (f k).s1) (c0 := (f k).c0) (c1 := (f k).c1) (by rw [← hem, ← her]; rfl)).1
          rw [hp] at hbq
          rw [hr] at hbk
          dsimp only at hbq hbk
          have HBT : Hid (∀ w : World, Calls Try.prog 69 #[.agg #[.int .i64 p0, .int .i64 p1, .int .i64 p2, .int .i64 p3, .int .i64 p4, .int .i64 p5, .int .i64 p6], .agg #[.int .i64 t0, .int .i64 t1, .int .i64 t2, .int .i64 t3, .int .i64 t4, .int .i64 t5, .int .i64 t6]] w fun e w' => e = .returned (.int .i64 d) ∧ Below w.heap.size w w') := Lib.hid fun w => by
            have := rBetween_any p0 p1 p2 p3 p4 p5 p6 t0 t1 t2 t3 t4 t5 t6 w hbq.1 hbq.2 hbk.1 hbk.2
            rw [hdd] at this
            exact this
          have hq1 : IntKind.i64.wrap ((k : Int) - 1) = (q : Int) := by rw [show (k : Int) - 1 = q by omega]; exact IntWalk.i64_in _ (by omega)
          have hq2 : (0 : Int) ≤ (q : Int) := by omega
          have hq3 : (q : Int) < (n : Int) := by omega
          have hq4 : 0 < k := by omega
          have hq5 : (0 : Int) ≤ (k : Int) := by omega
          have hq6 : (k : Int) < (n : Int) := by omega
          have hq7 : q < n := by omega
          subst hem
          clear hqk hk0 her hd2 he0 hr hp hkq hdd hbq hbk
          go_wp2_with (go_at_call 68; refine (rMeasure_any _ _ _ _ _ _ _ _).mono ?_; rintro e w3 ⟨rfl, hb3⟩; rw [HE0.out]; have hB3 := belowSeq hb3 hB; have Q0 := keepC hb3 q0; have Q1 := keepC hb3 q1; have Q2 := keepC hb3 q2; have Q3 := keepC hb3 q3; have D0 := keepC hb3 d0; have C0 := keepC hb3 c0; have D1 := keepC hb3 d1; have C1 := keepC hb3 c1; have D2 := keepC hb3 d2; have C2 := keepC hb3 c2; have D3 := keepC hb3 d3; have C3 := keepC hb3 c3; have D4 := keepC hb3 d4; have C4 := keepC hb3 c4; have D5 := keepC hb3 d5; have C5 := keepC hb3 c5; have D6 := keepC hb3 d6; have C6 := keepC hb3 c6)
          refine nameWorld (fun w' => w'.cell? ⟨w.heap.size, 0, none⟩ = some (.int .i64 r.a0) ∧ w'.cell? ⟨w.heap.size, 1, none⟩ = some (.int .i64 r.a1) ∧ w'.cell? ⟨w.heap.size, 2, none⟩ = some (.int .i64 r.g0) ∧ w'.cell? ⟨w.heap.size, 3, none⟩ = some (.int .i64 r.g1) ∧ w'.cell? ⟨b, off + k * 7, none⟩ = some (.int .i64 t0) ∧ w'.cell? ⟨b, off + k * 7 + 1, none⟩ = some (.int .i64 t1) ∧ w'.cell? ⟨b, off + k * 7 + 2, none⟩ = some (.int .i64 t2) ∧ w'.cell? ⟨b, off + k * 7 + 3, none⟩ = some (.int .i64 t3) ∧ w'.cell? ⟨b, off + k * 7 + 4, none⟩ = some (.int .i64 t4) ∧ w'.cell? ⟨b, off + k * 7 + 5, none⟩ = some (.int .i64 t5) ∧ w'.cell? ⟨b, off + k * 7 + 6, none⟩ = some (.int .i64 t6) ∧ w'.cell? ⟨b, off + q * 7, none⟩ = some (.int .i64 p0) ∧ w'.cell? ⟨b, off + q * 7 + 1, none⟩ = some (.int .i64 p1) ∧ w'.cell? ⟨b, off + q * 7 + 2, none⟩ = some (.int .i64 p2) ∧ w'.cell? ⟨b, off + q * 7 + 3, none⟩ = some (.int .i64 p3) ∧ w'.cell? ⟨b, off + q * 7 + 4, none⟩ = some (.int .i64 p4) ∧ w'.cell? ⟨b, off + q * 7 + 5, none⟩ = some (.int .i64 p5) ∧ w'.cell? ⟨b, off + q * 7 + 6, none⟩ = some (.int .i64 p6) ∧ Below w.heap.size w w') ⟨Q0, Q1, Q2, Q3, D0, D1, D2, D3, D4, D5, D6, C0, C1, C2, C3, C4, C5, C6, hB3⟩ (fun wc hc => ?_)
          clear q0 q1 q2 q3 d0 d1 d2 d3 d4 d5 d6 c0 c1 c2 c3 c4 c5 c6 Q0 Q1 Q2 Q3 D0 D1 D2 D3 D4 D5 D6 C0 C1 C2 C3 C4 C5 C6 hB hB3 hb3
          obtain ⟨q0, q1, q2, q3, d0, d1, d2, d3, d4, d5, d6, c0, c1, c2, c3, c4, c5, c6, hB3⟩ := hc
          go_region_held3 (fun w' => w'.cell? ⟨w.heap.size, 0, none⟩ = some (.int .i64 r.a0) ∧ w'.cell? ⟨w.heap.size, 1, none⟩ = some (.int .i64 r.a1) ∧ w'.cell? ⟨w.heap.size, 2, none⟩ = some (.int .i64 r.g0) ∧ w'.cell? ⟨w.heap.size, 3, none⟩ = some (.int .i64 r.g1) ∧ w'.cell? ⟨b, off + k * 7, none⟩ = some (.int .i64 t0) ∧ w'.cell? ⟨b, off + k * 7 + 1, none⟩ = some (.int .i64 t1) ∧ w'.cell? ⟨b, off + k * 7 + 2, none⟩ = some (.int .i64 t2) ∧ w'.cell? ⟨b, off + k * 7 + 3, none⟩ = some (.int .i64 t3) ∧ w'.cell? ⟨b, off + k * 7 + 4, none⟩ = some (.int .i64 t4) ∧ w'.cell? ⟨b, off + k * 7 + 5, none⟩ = some (.int .i64 t5) ∧ w'.cell? ⟨b, off + k * 7 + 6, none⟩ = some (.int .i64 t6) ∧ w'.cell? ⟨b, off + q * 7, none⟩ = some (.int .i64 p0) ∧ w'.cell? ⟨b, off + q * 7 + 1, none⟩ = some (.int .i64 p1) ∧ w'.cell? ⟨b, off + q * 7 + 2, none⟩ = some (.int .i64 p2) ∧ w'.cell? ⟨b, off + q * 7 + 3, none⟩ = some (.int .i64 p3) ∧ w'.cell? ⟨b, off + q * 7 + 4, none⟩ = some (.int .i64 p4) ∧ w'.cell? ⟨b, off + q * 7 + 5, none⟩ = some (.int .i64 p5) ∧ w'.cell? ⟨b, off + q * 7 + 6, none⟩ = some (.int .i64 p6) ∧ Below wc.heap.size wc w')
              (first | (with_reducible assumption) | (have hk2 := hk1.out; have hk3 := hk2.size; (try go_split_ands); refine pack18 ?_ q0 q1 q2 q3 d0 d1 d2 d3 d4 d5 d6 c0 c1 c2 c3 c4 c5 c6; (first | (with_reducible assumption) | (with_reducible exact Below.refl _ _) | ((with_reducible apply belowSeq hb1); (with_reducible assumption)) | ((with_reducible refine Below.alloc ?_ ?_ _) <;> first | (with_reducible assumption) | (exact Below.size (by with_reducible assumption))) | (go_grown; done))) | ((try go_split_ands); refine pack18 ?_ q0 q1 q2 q3 d0 d1 d2 d3 d4 d5 d6 c0 c1 c2 c3 c4 c5 c6; (first | (with_reducible assumption) | (with_reducible exact Below.refl _ _) | ((with_reducible apply belowSeq hb1); (with_reducible assumption)) | ((with_reducible refine Below.alloc ?_ ?_ _) <;> first | (with_reducible assumption) | (exact Below.size (by with_reducible assumption))) | (go_grown; done))))
              (first
                | (go_at_call 69; (with_reducible refine Calls.mono (HBT.out _) ?_); rintro e w1 ⟨rfl, hb1⟩))
          rename_i hS
          have hW := hS.2.2.2.2.2.2.2.2.2.2.2.2.2.2.2.2.2.2
          clear hS
          have hB9 := belowSeq hW hB3
          have Q0 := keepC hW q0
          have Q1 := keepC hW q1
          have Q2 := keepC hW q2
          have Q3 := keepC hW q3
          clear hW hB3 q0 q1 q2 q3 d0 d1 d2 d3 d4 d5 d6 c0 c1 c2 c3 c4 c5 c6 hq1 hq2 hq3 hq4 hq5 hq6 hq7
          by_cases hd3 : d = 0
          · have hnz : (d != 0) = false := by rw [hd3]; rfl
            have HD := Lib.hid hd3
            clear hd3
            go_wp2_with fail
            go_roundw
            case rel =>
              obtain ⟨s1, s2⟩ := HS.out
              obtain ⟨q1, q2⟩ := HE.out
              rw [if_pos HD.out] at s1 s2
              exact ⟨k + 1, ⟨by omega, by go_num⟩, Lib.hid ⟨q1.trans s1, q2.trans s2⟩, Lib.hid (HG.out HD.out), Q0, Q1, Q2, Q3, hB9⟩
            case measure => simp [intOf]; omega
          · have hnz : (d != 0) = true := by simp [hd3]
            have HD := Lib.hid hd3
            clear hd3
            go_wp2_with ((with_reducible refine bodyPost_ret (v := .tuple #[.slice none 0 0, .int .i64 (k : Int), .int .i64 d]) ?_ rfl ?_); (simp [results, Try.results27, go_sem]); exact ⟨.inl (by obtain ⟨s1, s2⟩ := HS.out; obtain ⟨q1, q2⟩ := HE.out; rw [if_neg HD.out] at s1 s2; rw [q1, q2, s1, s2]; exact ⟨HD.out, rfl⟩), hB9⟩)
      · obtain rfl : e0 = d := by rw [← her, ← hd2]; exact (mesS_err (by rw [her]; exact hem)).symm
        have hz : (e0 == 0) = false := by simpa using hem
        have hnz : (e0 != 0) = true := by simpa using hem
        have HD := Lib.hid hem
        clear hem her hd2 he0 hr
        go_wp2_with (first | (go_at_call 68; refine (rMeasure_any _ _ _ _ _ _ _ _).mono ?_; rintro e w3 ⟨rfl, hb3⟩; rw [HE0.out]; have hB3 := belowSeq hb3 hB; have Q0 := keepC hb3 q0; have Q1 := keepC hb3 q1; have Q2 := keepC hb3 q2; have Q3 := keepC hb3 q3) | ((with_reducible refine bodyPost_ret (v := .tuple #[.slice none 0 0, .int .i64 (k : Int), .int .i64 e0]) ?_ rfl ?_); (simp [results, Try.results27, go_sem]); exact ⟨.inl (by obtain ⟨s1, s2⟩ := HS.out; obtain ⟨q1, q2⟩ := HE.out; rw [if_neg HD.out] at s1 s2; rw [q1, q2, s1, s2]; exact ⟨HD.out, rfl⟩), hB3⟩))
    · have e : k = n := by omega
      have hme : mesE f n 0 = 0 := by have := HE.out.2; rw [e, Nat.sub_self] at this; exact this
      have HF := Lib.hid (fun k hk => mes_fine hme k hk)
      have HME := Lib.hid hme
      have hxe : Wn.err ⟨m1, m2, m3, m4, m5, m6⟩ = 0 := HX0.out ▸ (HF.out 0 h0).2.1
      have hlt0 : ¬ (k : Int) < (n : Int) := by omega
      clear hme e HE HA hlt
      have c1 := keepC hB (HC.out 0 1 h0 (by omega))
      simp only [Nat.zero_mul, Nat.add_zero] at c1
      rw [HM0.out] at c1
      dsimp only [Ms.at] at c1
      have c2 := keepC hB (HC.out 0 2 h0 (by omega))
      simp only [Nat.zero_mul, Nat.add_zero] at c2
      rw [HM0.out] at c2
      dsimp only [Ms.at] at c2
      have c3 := keepC hB (HC.out 0 3 h0 (by omega))
      simp only [Nat.zero_mul, Nat.add_zero] at c3
      rw [HM0.out] at c3
      dsimp only [Ms.at] at c3
      have c4 := keepC hB (HC.out 0 4 h0 (by omega))
      simp only [Nat.zero_mul, Nat.add_zero] at c4
      rw [HM0.out] at c4
      dsimp only [Ms.at] at c4
      have c5 := keepC hB (HC.out 0 5 h0 (by omega))
      simp only [Nat.zero_mul, Nat.add_zero] at c5
      rw [HM0.out] at c5
      dsimp only [Ms.at] at c5
      have c6 := keepC hB (HC.out 0 6 h0 (by omega))
      simp only [Nat.zero_mul, Nat.add_zero] at c6
      rw [HM0.out] at c6
      dsimp only [Ms.at] at c6
      have hn1 : (0 : Int) < (n : Int) := by omega
      go_upto_region 16 with fail
      have hown := World.ownsRow_lit (base := (w.heap.size + 1)) (e := 27) (size := 6) wr #[.int .i64 m1, .int .i64 m2, .int .i64 m3, .int .i64 m4, .int .i64 m5, .int .i64 m6] 1 (by omega) (by decide) rfl
      have hB3 : Below wr.heap.size wr (wr.alloc (.cells #[.int .i64 m1, .int .i64 m2, .int .i64 m3, .int .i64 m4, .int .i64 m5, .int .i64 m6] 27)) := (Below.refl _ _).alloc (Nat.le_refl _) _
      go_wp2_with fail
      go_loopw [11, 10] (fun i v wr => ∃ (k gg cc : Nat) (xs : List Wn) (e0 e1 e2 e3 e4 e5 : Int), (1 ≤ k ∧ k ≤ n ∧ xs.length = k ∧ i = .int .i64 k ∧ v = .slice (some ⟨gg, 0, none⟩) k cc) ∧ Hid (LL = xs ++ folL r f (n - k) k ⟨e0, e1, e2, e3, e4, e5⟩ ∧ folN r f (n - 1) 1 ⟨m1, m2, m3, m4, m5, m6⟩ = folN r f (n - k) k ⟨e0, e1, e2, e3, e4, e5⟩ ∧ folE r f (n - 1) 1 ⟨m1, m2, m3, m4, m5, m6⟩ = folE r f (n - k) k ⟨e0, e1, e2, e3, e4, e5⟩) ∧ Hid (Wn.err ⟨e0, e1, e2, e3, e4, e5⟩ = 0) ∧ Hid (xs.getD (k - 1) .zero = ⟨e0, e1, e2, e3, e4, e5⟩) ∧ wr.cell? ⟨w.heap.size, 0, none⟩ = some (.int .i64 r.a0) ∧ wr.cell? ⟨w.heap.size, 1, none⟩ = some (.int .i64 r.a1) ∧ wr.cell? ⟨w.heap.size, 2, none⟩ = some (.int .i64 r.g0) ∧ wr.cell? ⟨w.heap.size, 3, none⟩ = some (.int .i64 r.g1) ∧ wr.ownsRow (w.heap.size + 1) 27 6 (.slice (some ⟨gg, 0, none⟩) k cc) k (xs.flatMap Wn.cells) ∧ Below w.heap.size w wr)
        (fun i _ _ => n - (intOf i).toNat)
      case atStart =>
        exact ⟨1, wr.heap.size, 1, [⟨m1, m2, m3, m4, m5, m6⟩], m1, m2, m3, m4, m5, m6, ⟨Nat.le_refl _, h0, rfl, rfl, rfl⟩, Lib.hid ⟨HLL.out, rfl, rfl⟩, Lib.hid hxe, Lib.hid rfl, keepC hB3 q0, keepC hB3 q1, keepC hB3 q2, keepC hB3 q3, hown, belowSeq hB3 hB⟩
      case round =>
        clear q0 q1 q2 q3 c1 c2 c3 c4 c5 c6 hown hB3 hB hxe hs0 hlt0 hk
        obtain ⟨k, gg, cc, xs, e0, e1, e2, e3, e4, e5, ⟨hk1, hkn, hxl, rfl, rfl⟩, HE, HX, HL, q0, q1, q2, q3, hrow, hB⟩ := hrel
        have hgg : (w.heap.size + 1) ≤ gg ∧ gg < wr.heap.size := hrow.lt _ rfl
        have hs0 : w.heap.size < wr.heap.size := by omega
        by_cases hlt : k < n
        · obtain ⟨⟨t0, t1, t2, t3, t4, t5, t6⟩, hr⟩ : ∃ m, f k = m := ⟨_, rfl⟩
          obtain ⟨q, hqk⟩ : ∃ q, k = q + 1 := ⟨k - 1, by omega⟩
          obtain ⟨pd, hpd⟩ : ∃ d, (f q).d = d := ⟨_, rfl⟩
          have d0 := keepC hB (HC.out k 0 hlt (by omega))
          rw [hr] at d0
          rw [Nat.add_zero] at d0
          dsimp only [Ms.at] at d0
          have d1 := keepC hB (HC.out k 1 hlt (by omega))
          rw [hr] at d1
          dsimp only [Ms.at] at d1
          have d2 := keepC hB (HC.out k 2 hlt (by omega))
          rw [hr] at d2
          dsimp only [Ms.at] at d2
          have d3 := keepC hB (HC.out k 3 hlt (by omega))
          rw [hr] at d3
          dsimp only [Ms.at] at d3
          have d4 := keepC hB (HC.out k 4 hlt (by omega))
          rw [hr] at d4
          dsimp only [Ms.at] at d4
          have d5 := keepC hB (HC.out k 5 hlt (by omega))
          rw [hr] at d5
          dsimp only [Ms.at] at d5
          have d6 := keepC hB (HC.out k 6 hlt (by omega))
          rw [hr] at d6
          dsimp only [Ms.at] at d6
          have p0 := keepC hB (HC.out q 0 (by omega) (by omega))
          rw [Nat.add_zero] at p0
          dsimp only [Ms.at] at p0
          rw [hpd] at p0
          have hkq : k - 1 = q := by omega
          have x0 : wr.cell? ⟨gg, q * 6, none⟩ = some (.int .i64 e0) := by
            have h := (hrow.cellAt (q * 6 + 0) (by omega)).trans (flat_at xs q 0 (by omega) (by omega))
            have hl := HL.out
            rw [hkq] at hl
            rw [hl] at h
            exact h
          have x1 : wr.cell? ⟨gg, q * 6 + 1, none⟩ = some (.int .i64 e1) := by
            have h := (hrow.cellAt (q * 6 + 1) (by omega)).trans (flat_at xs q 1 (by omega) (by omega))
            have hl := HL.out
            rw [hkq] at hl
            rw [hl] at h
            exact h
          have x2 : wr.cell? ⟨gg, q * 6 + 2, none⟩ = some (.int .i64 e2) := by
            have h := (hrow.cellAt (q * 6 + 2) (by omega)).trans (flat_at xs q 2 (by omega) (by omega))
            have hl := HL.out
            rw [hkq] at hl
            rw [hl] at h
            exact h
          have x3 : wr.cell? ⟨gg, q * 6 + 3, none⟩ = some (.int .i64 e3) := by
            have h := (hrow.cellAt (q * 6 + 3) (by omega)).trans (flat_at xs q 3 (by omega) (by omega))
            have hl := HL.out
            rw [hkq] at hl
            rw [hl] at h
            exact h
          have x4 : wr.cell? ⟨gg, q * 6 + 4, none⟩ = some (.int .i64 e4) := by
            have h := (hrow.cellAt (q * 6 + 4) (by omega)).trans (flat_at xs q 4 (by omega) (by omega))
            have hl := HL.out
            rw [hkq] at hl
            rw [hl] at h
            exact h
          have x5 : wr.cell? ⟨gg, q * 6 + 5, none⟩ = some (.int .i64 e5) := by
            have h := (hrow.cellAt (q * 6 + 5) (by omega)).trans (flat_at xs q 5 (by omega) (by omega))
            have hl := HL.out
            rw [hkq] at hl
            rw [hl] at h
            exact h
          obtain ⟨hdk, hmk, hdd⟩ := HF.out k hlt
          obtain ⟨hdq, -, -⟩ := HF.out q (by omega)
          have hdd := hdd (by omega)
          rw [hkq] at hdd
          rw [hr, hpd] at hdd
          rw [hr] at hdk hmk
          rw [hpd] at hdq
          dsimp only at hdk hdd
          have hfs : folS r f k = ⟨r.a0, r.a1, r.g0, r.g1, t0 - pd⟩ := by unfold folS; rw [hkq, hr, hpd]
          obtain ⟨⟨y0, y1, y2, y3, y4, y5⟩, hy⟩ : ∃ y, stW ⟨e0, e1, e2, e3, e4, e5⟩ (folS r f k) = y := ⟨_, rfl⟩
          obtain ⟨ea, hea⟩ : ∃ e, stE ⟨e0, e1, e2, e3, e4, e5⟩ (folS r f k) = e := ⟨_, rfl⟩
          obtain ⟨⟨z0, z1, z2, z3, z4, z5⟩, hz⟩ : ∃ z, folX r f k ⟨e0, e1, e2, e3, e4, e5⟩ = z := ⟨_, rfl⟩
          obtain ⟨bb, hbb⟩ : ∃ z, Wn.isB ⟨z0, z1, z2, z3, z4, z5⟩ = z := ⟨_, rfl⟩
          have hd : folD r f k ⟨e0, e1, e2, e3, e4, e5⟩ = (if ea ≠ 0 then ea else if bb = true then 0 else 13) := by unfold folD; rw [hea, hz, hbb]
          have HS := Lib.hid (fol_step r f n k hlt ⟨e0, e1, e2, e3, e4, e5⟩ ⟨z0, z1, z2, z3, z4, z5⟩ _ hz hd)
          have HA : Hid (∀ w : World, Calls Try.prog 70 #[.agg #[.int .i64 e0, .int .i64 e1, .int .i64 e2, .int .i64 e3, .int .i64 e4, .int .i64 e5], .agg #[.int .i64 r.a0, .int .i64 r.a1, .int .i64 r.g0, .int .i64 r.g1], .int .i64 (t0 - pd)] w fun e w' => e = .returned (.tuple #[.agg #[.int .i64 y0, .int .i64 y1, .int .i64 y2, .int .i64 y3, .int .i64 y4, .int .i64 y5], .int .i64 ea]) ∧ Below w.heap.size w w') := Lib.hid fun w => by
            have := rchk_any ⟨e0, e1, e2, e3, e4, e5⟩ (folS r f k) HX.out (by rw [hfs]; exact HR.out) (by rw [hfs]; dsimp only; omega) (by rw [hfs]; dsimp only; omega) w
            rw [hy, hea, hfs] at this
            exact this
          have HK : Hid (∀ w : World, Calls Try.prog 29 #[.agg #[.int .i64 y0, .int .i64 y1, .int .i64 y2, .int .i64 y3, .int .i64 y4, .int .i64 y5], .agg #[.int .i64 t1, .int .i64 t2, .int .i64 t3, .int .i64 t4, .int .i64 t5, .int .i64 t6]] w fun e w' => e = .returned (.tuple #[.agg #[.int .i64 z0, .int .i64 z1, .int .i64 z2, .int .i64 z3, .int .i64 z4, .int .i64 z5], .bool bb]) ∧ Below w.heap.size w w') := Lib.hid fun w => by
            have := refCommon_any ⟨y0, y1, y2, y3, y4, y5⟩ ⟨t1, t2, t3, t4, t5, t6⟩ w
            have e : Wn.com ⟨y0, y1, y2, y3, y4, y5⟩ ⟨t1, t2, t3, t4, t5, t6⟩ = ⟨z0, z1, z2, z3, z4, z5⟩ := by rw [← hz, folX, hy, hr]; rfl
            rw [e, hbb] at this
            exact this
          have HZ : Hid (bb = true → Wn.err ⟨z0, z1, z2, z3, z4, z5⟩ = 0) := Lib.hid fun hb => by
            have e : Wn.com ⟨y0, y1, y2, y3, y4, y5⟩ ⟨t1, t2, t3, t4, t5, t6⟩ = ⟨z0, z1, z2, z3, z4, z5⟩ := by rw [← hz, folX, hy, hr]; rfl
            have := com_right (x := ⟨y0, y1, y2, y3, y4, y5⟩) hmk (by show (Wn.com ⟨y0, y1, y2, y3, y4, y5⟩ ⟨t1, t2, t3, t4, t5, t6⟩).isB = true; rw [e, hbb]; exact hb)
            exact e ▸ this
          have hw1 : IntKind.i64.wrap ((k : Int) - 1) = (q : Int) := by rw [show (k : Int) - 1 = q by omega]; exact IntWalk.i64_in _ (by omega)
          have hw2 : IntKind.i64.wrap (t0 - pd) = t0 - pd := IntWalk.i64_in _ (by omega)
          have hk0 : (0 : Int) ≤ (k : Int) := by omega
          have hk2 : (k : Int) < (n : Int) := by omega
          have hq0 : (0 : Int) ≤ (q : Int) := by omega
          have hq2 : (q : Int) < (n : Int) := by omega
          have hq3 : q < n := by omega
          have hq4 : (q : Int) < (k : Int) := by omega
          have hq5 : q < k := by omega
          clear hr hpd hdk hmk hdd hdq hfs hy hea hz hbb hd hkq hqk
          go_wp2_with fail
          refine nameWorld (fun w' => w'.cell? ⟨w.heap.size, 0, none⟩ = some (.int .i64 r.a0) ∧ w'.cell? ⟨w.heap.size, 1, none⟩ = some (.int .i64 r.a1) ∧ w'.cell? ⟨w.heap.size, 2, none⟩ = some (.int .i64 r.g0) ∧ w'.cell? ⟨w.heap.size, 3, none⟩ = some (.int .i64 r.g1) ∧ w'.ownsRow (w.heap.size + 1) 27 6 (.slice (some ⟨gg, 0, none⟩) k cc) k (xs.flatMap Wn.cells) ∧ Below w.heap.size w w' ∧ w'.cell? ⟨b, off + k * 7, none⟩ = some (.int .i64 t0) ∧ w'.cell? ⟨b, off + k * 7 + 1, none⟩ = some (.int .i64 t1) ∧ w'.cell? ⟨b, off + k * 7 + 2, none⟩ = some (.int .i64 t2) ∧ w'.cell? ⟨b, off + k * 7 + 3, none⟩ = some (.int .i64 t3) ∧ w'.cell? ⟨b, off + k * 7 + 4, none⟩ = some (.int .i64 t4) ∧ w'.cell? ⟨b, off + k * 7 + 5, none⟩ = some (.int .i64 t5) ∧ w'.cell? ⟨b, off + k * 7 + 6, none⟩ = some (.int .i64 t6) ∧ w'.cell? ⟨b, off + q * 7, none⟩ = some (.int .i64 pd) ∧ w'.cell? ⟨gg, q * 6, none⟩ = some (.int .i64 e0) ∧ w'.cell? ⟨gg, q * 6 + 1, none⟩ = some (.int .i64 e1) ∧ w'.cell? ⟨gg, q * 6 + 2, none⟩ = some (.int .i64 e2) ∧ w'.cell? ⟨gg, q * 6 + 3, none⟩ = some (.int .i64 e3) ∧ w'.cell? ⟨gg, q * 6 + 4, none⟩ = some (.int .i64 e4) ∧ w'.cell? ⟨gg, q * 6 + 5, none⟩ = some (.int .i64 e5)) ⟨q0, q1, q2, q3, hrow, hB, d0, d1, d2, d3, d4, d5, d6, p0, x0, x1, x2, x3, x4, x5⟩ (fun wc hc => ?_)
          clear q0 q1 q2 q3 hrow hB d0 d1 d2 d3 d4 d5 d6 p0 x0 x1 x2 x3 x4 x5
          obtain ⟨q0, q1, q2, q3, hrow, hB, d0, d1, d2, d3, d4, d5, d6, p0, x0, x1, x2, x3, x4, x5⟩ := hc
          have hgc : gg < wc.heap.size := (hrow.lt _ rfl).2
          refine regionX 22 1 [21] [] (by kernel_rfl) (by kernel_rfl) (by kernel_rfl) (by kernel_rfl) (by decide) (fun _ _ d _ _ h => by cases d <;> exact h) ?_
          intro R hR
          simp only [List.take_succ_cons, List.take_zero]
          iterate 22 (first | (refine headP_val ?_ (by rfl) (by rfl) (fun w' hw' => ?_) ?_; rotate_left; (focus (have y0 := keepC hw' x0; have y1 := keepC hw' x1; have y2 := keepC hw' x2; have y3 := keepC hw' x3; have y4 := keepC hw' x4; have y5 := keepC hw' x5; have y6 := keepC hw' q0; have y7 := keepC hw' q1; have y8 := keepC hw' q2; have y9 := keepC hw' q3; have y10 := keepC hw' d0; have y11 := keepC hw' p0; first | (refine onlyMakes_val ?_; first | (go_simp; done) | (go_simp; with_reducible rfl)) | (apply onlyMakes_call; (first | (go_simp; done) | (go_simp; exact ⟨rfl, rfl⟩) | (go_simp; with_reducible rfl)); first | (with_reducible exact HA.out _)))); (try dsimp only); (try simp only [Act.put, List.setIfInBounds_toArray, List.set_cons_zero, List.set_cons_succ])) | (refine headP_pure ?_ (by rfl) (by rfl) (fun w' => ?_) ?_; rotate_left; (focus ((first | (go_simp; done) | (go_simp; with_reducible rfl)))); (try dsimp only); (try simp only [Act.put, List.setIfInBounds_toArray, List.set_cons_zero, List.set_cons_succ])) | (refine headP_skip (by rfl) ?_; (try dsimp only); (try simp only [Act.put, List.setIfInBounds_toArray, List.set_cons_zero, List.set_cons_succ])))
          refine headP_nil (hR.out _ ?_)
          refine AnyZ.one_alloc 22 (obj := .cells #[.int .i64 0, .int .i64 0, .int .i64 0, .int .i64 0, .int .i64 0, .int .i64 0] 27) (by kernel_rfl) rfl (by decide) ⟨rfl, fun w' hw' => ?_⟩ (fun w1 hw1 => ?_)
          · first | (go_simp; done) | (go_simp; with_reducible rfl) | (go_simp; exact ⟨rfl, rfl⟩)
          refine AnyZ.last 23 (by kernel_rfl) (by decide) (fun w2 hw2 => ?_)
          refine wpAny_one 23 (by kernel_rfl) rfl rfl ?_
          have n0 := (newHeld hw2 0 _ rfl)
          have n1 := (newHeld hw2 1 _ rfl)
          have n2 := (newHeld hw2 2 _ rfl)
          have n3 := (newHeld hw2 3 _ rfl)
          have n4 := (newHeld hw2 4 _ rfl)
          have n5 := (newHeld hw2 5 _ rfl)
          have hX : Below wc.heap.size wc w2 := belowSeq hw2 (hw1.alloc hw1.size _)
          have hsz : wc.heap.size ≤ w1.heap.size := hw1.size
          clear hR hw1
          (try simp only [List.getElem_toArray, List.getElem_cons_succ, List.getElem_cons_zero])
          (try simp only [Act.put, List.setIfInBounds_toArray, List.set_cons_succ, List.set_cons_zero])
          unfold Oper.wp
          go_simp
          refine wpAny_one 24 (by kernel_rfl) rfl rfl ?_
          (try simp only [List.getElem_toArray, List.getElem_cons_succ, List.getElem_cons_zero])
          (try simp only [Act.put, List.setIfInBounds_toArray, List.set_cons_succ, List.set_cons_zero])
          unfold Oper.wp
          go_simp
          refine wpAny_done (by kernel_rfl) ?_
          go_upto_region 21 with fail
          obtain ⟨s0, s1, s2, s3, s4, s5⟩ := set6 n0.1 n1.1 n2.1 n3.1 n4.1 n5.1 (.int .i64 y0) (.int .i64 y1) (.int .i64 y2) (.int .i64 y3) (.int .i64 y4) (.int .i64 y5)
          have hY := sixBelow hX hsz y0 y1 y2 y3 y4 y5
          obtain ⟨BY, hBY⟩ : ∃ B, w1.heap.size = B := ⟨_, rfl⟩
          rw [hBY] at s0 s1 s2 s3 s4 s5 hY hsz ⊢
          refine nameWorld (fun w' => w'.cell? ⟨w.heap.size, 0, none⟩ = some (.int .i64 r.a0) ∧ w'.cell? ⟨w.heap.size, 1, none⟩ = some (.int .i64 r.a1) ∧ w'.cell? ⟨w.heap.size, 2, none⟩ = some (.int .i64 r.g0) ∧ w'.cell? ⟨w.heap.size, 3, none⟩ = some (.int .i64 r.g1) ∧ w'.ownsRow (w.heap.size + 1) 27 6 (.slice (some ⟨gg, 0, none⟩) k cc) k (xs.flatMap Wn.cells) ∧ Below w.heap.size w w' ∧ w'.cell? ⟨b, off + k * 7, none⟩ = some (.int .i64 t0) ∧ w'.cell? ⟨b, off + k * 7 + 1, none⟩ = some (.int .i64 t1) ∧ w'.cell? ⟨b, off + k * 7 + 2, none⟩ = some (.int .i64 t2) ∧ w'.cell? ⟨b, off + k * 7 + 3, none⟩ = some (.int .i64 t3) ∧ w'.cell? ⟨b, off + k * 7 + 4, none⟩ = some (.int .i64 t4) ∧ w'.cell? ⟨b, off + k * 7 + 5, none⟩ = some (.int .i64 t5) ∧ w'.cell? ⟨b, off + k * 7 + 6, none⟩ = some (.int .i64 t6) ∧ w'.cell? ⟨b, off + q * 7, none⟩ = some (.int .i64 pd) ∧ w'.cell? ⟨gg, q * 6, none⟩ = some (.int .i64 e0) ∧ w'.cell? ⟨gg, q * 6 + 1, none⟩ = some (.int .i64 e1) ∧ w'.cell? ⟨gg, q * 6 + 2, none⟩ = some (.int .i64 e2) ∧ w'.cell? ⟨gg, q * 6 + 3, none⟩ = some (.int .i64 e3) ∧ w'.cell? ⟨gg, q * 6 + 4, none⟩ = some (.int .i64 e4) ∧ w'.cell? ⟨gg, q * 6 + 5, none⟩ = some (.int .i64 e5) ∧ w'.cell? ⟨BY, 0, none⟩ = some (.int .i64 y0) ∧ w'.cell? ⟨BY, 1, none⟩ = some (.int .i64 y1) ∧ w'.cell? ⟨BY, 2, none⟩ = some (.int .i64 y2) ∧ w'.cell? ⟨BY, 3, none⟩ = some (.int .i64 y3) ∧ w'.cell? ⟨BY, 4, none⟩ = some (.int .i64 y4) ∧ w'.cell? ⟨BY, 5, none⟩ = some (.int .i64 y5)) ⟨keepC hY q0, keepC hY q1, keepC hY q2, keepC hY q3, rowBelow hrow hY, belowSeq hY hB, keepC hY d0, keepC hY d1, keepC hY d2, keepC hY d3, keepC hY d4, keepC hY d5, keepC hY d6, keepC hY p0, keepC hY x0, keepC hY x1, keepC hY x2, keepC hY x3, keepC hY x4, keepC hY x5, s0, s1, s2, s3, s4, s5⟩ (fun wc hc => ?_)
          clear q0 q1 q2 q3 hrow hB d0 d1 d2 d3 d4 d5 d6 p0 x0 x1 x2 x3 x4 x5 hY hX hgc hw2 hBY hsz n0 n1 n2 n3 n4 n5 s0 s1 s2 s3 s4 s5
          obtain ⟨q0, q1, q2, q3, hrow, hB, d0, d1, d2, d3, d4, d5, d6, p0, x0, x1, x2, x3, x4, x5, u0, u1, u2, u3, u4, u5⟩ := hc
          have hle : w.heap.size ≤ wc.heap.size := hB.size
          by_cases h1 : ea ≠ 0
          · have hnz : (ea != 0) = true := by simpa using h1
            have H1 := Lib.hid h1
            clear h1
            go_wp2_with ((with_reducible refine bodyPost_ret (v := .tuple #[.slice none 0 0, .int .i64 (k : Int), .int .i64 ea]) ?_ rfl ?_); (simp [results, Try.results27, go_sem]); exact ⟨.inr ⟨HME.out, .inr (by obtain ⟨-, s2, s3⟩ := HS.out; obtain ⟨-, q2, q3⟩ := HE.out; rw [if_pos H1.out, if_neg H1.out] at s2 s3; rw [q2, q3, s2, s3]; exact ⟨H1.out, rfl⟩)⟩, hB⟩)
          · have h1 : ea = 0 := by simpa using h1
            subst h1
            have HS : Hid (_ ∧ _ ∧ _) := Lib.hid (by have := HS.out; rw [if_neg (show ¬ ((0 : Int) ≠ 0) by decide)] at this; exact this)
            go_wp2_with fail
            have hgc : gg < wc.heap.size := (hrow.lt _ rfl).2
            refine regionX 10 1 [9] [] (by kernel_rfl) (by kernel_rfl) (by kernel_rfl) (by kernel_rfl) (by decide) (fun _ _ d _ _ h => by cases d <;> exact h) ?_
            intro R hR
            simp only [List.take_succ_cons, List.take_zero]
            iterate 10 (first | (refine headP_val ?_ (by rfl) (by rfl) (fun w' hw' => ?_) ?_; rotate_left; (focus (have y0 := keepC hw' u0; have y1 := keepC hw' u1; have y2 := keepC hw' u2; have y3 := keepC hw' u3; have y4 := keepC hw' u4; have y5 := keepC hw' u5; have y6 := keepC hw' d1; have y7 := keepC hw' d2; have y8 := keepC hw' d3; have y9 := keepC hw' d4; have y10 := keepC hw' d5; have y11 := keepC hw' d6; first | (refine onlyMakes_val ?_; first | (go_simp; done) | (go_simp; with_reducible rfl)) | (apply onlyMakes_call; (first | (go_simp; done) | (go_simp; exact ⟨rfl, rfl⟩) | (go_simp; with_reducible rfl)); first | (with_reducible exact HK.out _)))); (try dsimp only); (try simp only [Act.put, List.setIfInBounds_toArray, List.set_cons_zero, List.set_cons_succ])) | (refine headP_pure ?_ (by rfl) (by rfl) (fun w' => ?_) ?_; rotate_left; (focus ((first | (go_simp; done) | (go_simp; with_reducible rfl)))); (try dsimp only); (try simp only [Act.put, List.setIfInBounds_toArray, List.set_cons_zero, List.set_cons_succ])) | (refine headP_skip (by rfl) ?_; (try dsimp only); (try simp only [Act.put, List.setIfInBounds_toArray, List.set_cons_zero, List.set_cons_succ])))
            refine headP_nil (hR.out _ ?_)
            refine AnyZ.one_alloc 10 (obj := .cells #[.int .i64 0, .int .i64 0, .int .i64 0, .int .i64 0, .int .i64 0, .int .i64 0] 27) (by kernel_rfl) rfl (by decide) ⟨rfl, fun w' hw' => ?_⟩ (fun w1 hw1 => ?_)
            · first | (go_simp; done) | (go_simp; with_reducible rfl) | (go_simp; exact ⟨rfl, rfl⟩)
            refine AnyZ.last 11 (by kernel_rfl) (by decide) (fun w2 hw2 => ?_)
            refine wpAny_one 11 (by kernel_rfl) rfl rfl ?_
            have n0 := (newHeld hw2 0 _ rfl)
            have n1 := (newHeld hw2 1 _ rfl)
            have n2 := (newHeld hw2 2 _ rfl)
            have n3 := (newHeld hw2 3 _ rfl)
            have n4 := (newHeld hw2 4 _ rfl)
            have n5 := (newHeld hw2 5 _ rfl)
            have hX : Below wc.heap.size wc w2 := belowSeq hw2 (hw1.alloc hw1.size _)
            have hsz : wc.heap.size ≤ w1.heap.size := hw1.size
            clear hR hw1
            (try simp only [List.getElem_toArray, List.getElem_cons_succ, List.getElem_cons_zero])
            (try simp only [Act.put, List.setIfInBounds_toArray, List.set_cons_succ, List.set_cons_zero])
            unfold Oper.wp
            go_simp
            refine wpAny_one 12 (by kernel_rfl) rfl rfl ?_
            (try simp only [List.getElem_toArray, List.getElem_cons_succ, List.getElem_cons_zero])
            (try simp only [Act.put, List.setIfInBounds_toArray, List.set_cons_succ, List.set_cons_zero])
            unfold Oper.wp
            go_simp
            refine wpAny_done (by kernel_rfl) ?_
            go_upto_region 24 with fail
            obtain ⟨s0, s1, s2, s3, s4, s5⟩ := set6 n0.1 n1.1 n2.1 n3.1 n4.1 n5.1 (.int .i64 z0) (.int .i64 z1) (.int .i64 z2) (.int .i64 z3) (.int .i64 z4) (.int .i64 z5)
            have hY := sixBelow hX hsz z0 z1 z2 z3 z4 z5
            obtain ⟨BZ, hBZ⟩ : ∃ B, w1.heap.size = B := ⟨_, rfl⟩
            rw [hBZ] at s0 s1 s2 s3 s4 s5 hY hsz ⊢
            refine nameWorld (fun w' => w'.cell? ⟨w.heap.size, 0, none⟩ = some (.int .i64 r.a0) ∧ w'.cell? ⟨w.heap.size, 1, none⟩ = some (.int .i64 r.a1) ∧ w'.cell? ⟨w.heap.size, 2, none⟩ = some (.int .i64 r.g0) ∧ w'.cell? ⟨w.heap.size, 3, none⟩ = some (.int .i64 r.g1) ∧ w'.ownsRow (w.heap.size + 1) 27 6 (.slice (some ⟨gg, 0, none⟩) k cc) k (xs.flatMap Wn.cells) ∧ Below w.heap.size w w' ∧ w'.cell? ⟨b, off + k * 7, none⟩ = some (.int .i64 t0) ∧ w'.cell? ⟨b, off + k * 7 + 1, none⟩ = some (.int .i64 t1) ∧ w'.cell? ⟨b, off + k * 7 + 2, none⟩ = some (.int .i64 t2) ∧ w'.cell? ⟨b, off + k * 7 + 3, none⟩ = some (.int .i64 t3) ∧ w'.cell? ⟨b, off + k * 7 + 4, none⟩ = some (.int .i64 t4) ∧ w'.cell? ⟨b, off + k * 7 + 5, none⟩ = some (.int .i64 t5) ∧ w'.cell? ⟨b, off + k * 7 + 6, none⟩ = some (.int .i64 t6) ∧ w'.cell? ⟨b, off + q * 7, none⟩ = some (.int .i64 pd) ∧ w'.cell? ⟨gg, q * 6, none⟩ = some (.int .i64 e0) ∧ w'.cell? ⟨gg, q * 6 + 1, none⟩ = some (.int .i64 e1) ∧ w'.cell? ⟨gg, q * 6 + 2, none⟩ = some (.int .i64 e2) ∧ w'.cell? ⟨gg, q * 6 + 3, none⟩ = some (.int .i64 e3) ∧ w'.cell? ⟨gg, q * 6 + 4, none⟩ = some (.int .i64 e4) ∧ w'.cell? ⟨gg, q * 6 + 5, none⟩ = some (.int .i64 e5) ∧ w'.cell? ⟨BZ, 0, none⟩ = some (.int .i64 z0) ∧ w'.cell? ⟨BZ, 1, none⟩ = some (.int .i64 z1) ∧ w'.cell? ⟨BZ, 2, none⟩ = some (.int .i64 z2) ∧ w'.cell? ⟨BZ, 3, none⟩ = some (.int .i64 z3) ∧ w'.cell? ⟨BZ, 4, none⟩ = some (.int .i64 z4) ∧ w'.cell? ⟨BZ, 5, none⟩ = some (.int .i64 z5)) ⟨keepC hY q0, keepC hY q1, keepC hY q2, keepC hY q3, rowBelow hrow hY, belowSeq hY hB, keepC hY d0, keepC hY d1, keepC hY d2, keepC hY d3, keepC hY d4, keepC hY d5, keepC hY d6, keepC hY p0, keepC hY x0, keepC hY x1, keepC hY x2, keepC hY x3, keepC hY x4, keepC hY x5, s0, s1, s2, s3, s4, s5⟩ (fun wc hc => ?_)
            clear q0 q1 q2 q3 hrow hB d0 d1 d2 d3 d4 d5 d6 p0 x0 x1 x2 x3 x4 x5 hY hX hgc hw2 hBZ hsz n0 n1 n2 n3 n4 n5 s0 s1 s2 s3 s4 s5 u0 u1 u2 u3 u4 u5
            obtain ⟨q0, q1, q2, q3, hrow, hB, d0, d1, d2, d3, d4, d5, d6, p0, x0, x1, x2, x3, x4, x5, v0, v1, v2, v3, v4, v5⟩ := hc
            clear d0 d1 d2 d3 d4 d5 d6 p0 x0 x1 x2 x3 x4 x5
            have hle : w.heap.size ≤ wc.heap.size := hB.size
            have hgc : gg < wc.heap.size := (hrow.lt _ rfl).2
            cases bb with
            | false =>
              go_wp2_with ((with_reducible refine bodyPost_ret (v := .tuple #[.slice none 0 0, .int .i64 (k : Int), .int .i64 13]) ?_ rfl ?_); (simp [results, Try.results27, go_sem]); exact ⟨.inr ⟨HME.out, .inr (by obtain ⟨-, s2, s3⟩ := HS.out; obtain ⟨-, q2, q3⟩ := HE.out; rw [if_neg (by decide)] at s2 s3; rw [q2, q3, s2, s3]; exact ⟨by decide, rfl⟩)⟩, hB⟩)
            | true =>
              go_wp2_with (at_builtin; refine wpList_append_lies _ rfl (.tmp 108) (.tmp 110) 22 rfl (w.heap.size + 1) 27 i0 (.agg #[.int .i64 0, .int .i64 0, .int .i64 0, .int .i64 0, .int .i64 0, .int .i64 0]) 6 48 Try.underlying22 hi hz0 hz1 hz2 rfl (by decide) _ k (xs.flatMap Wn.cells) rfl (hrow.alloc _) ⟨wc.heap.size, 0, none⟩ 1 1 [.int .i64 z0, .int .i64 z1, .int .i64 z2, .int .i64 z3, .int .i64 z4, .int .i64 z5] rfl rfl ?n1 ?n2 (by decide) (by unfold maxLen; omega) (by omega) (by rw [World.size_alloc]; omega) _ rfl ?grow)
              first
              | (case n1 => exact fun j u h => World.news_of_block (heap_alloc_new wc _) j u h)
              | skip
              case n2 => exact ⟨rfl, rfl, rfl, rfl, rfl, rfl⟩
              case grow =>
                intro g cap w9 hown9 hgrow hat hlt9
                have far : ∀ s i, s < wc.heap.size → s ≠ gg → w9.cell? ⟨s, i, none⟩ = (wc.alloc _).cell? ⟨s, i, none⟩ := fun s i h1 h2 => hgrow.cell_far _ (by rw [World.size_alloc]; exact Nat.lt_succ_of_lt h1) (fun e => h2 (Option.some.inj e))
                have hal := (Below.refl wc.heap.size wc).alloc (Nat.le_refl _) (.cells #[.int .i64 z0, .int .i64 z1, .int .i64 z2, .int .i64 z3, .int .i64 z4, .int .i64 z5] 27)
                have hsw : w.heap.size < wc.heap.size := World.block_lt_of_cell? wc _ q0
                have hB9 : Below w.heap.size w w9 := (hB.alloc hle _).grown hgrow (by rw [World.size_alloc]; omega) (fun j e => by cases e; exact (by omega : w.heap.size ≤ gg))
                have Q0 := (far w.heap.size 0 (by omega) (by omega)).trans (keepC hal q0)
                have Q1 := (far w.heap.size 1 (by omega) (by omega)).trans (keepC hal q1)
                have Q2 := (far w.heap.size 2 (by omega) (by omega)).trans (keepC hal q2)
                have Q3 := (far w.heap.size 3 (by omega) (by omega)).trans (keepC hal q3)
                clear q0 q1 q2 q3 hrow hB v0 v1 v2 v3 v4 v5 far hal hgrow
                go_wp2_with fail
                go_roundw
                case rel =>
                  obtain ⟨s1, s2, s3⟩ := HS.out
                  obtain ⟨q1, q2, q3⟩ := HE.out
                  simp only [if_true, eq_self] at s1 s2 s3
                  exact ⟨k + 1, g, cap, xs ++ [⟨z0, z1, z2, z3, z4, z5⟩], z0, z1, z2, z3, z4, z5, ⟨by omega, by omega, by simp [hxl], by go_num, rfl⟩, Lib.hid ⟨by rw [q1, s1]; simp, q2.trans s2, q3.trans s3⟩, Lib.hid (HZ.out (by trivial)), Lib.hid (getD_last xs _ k hxl), Q0, Q1, Q2, Q3, by rw [List.flatMap_append]; exact hown9, hB9⟩
                case measure => simp [intOf]; omega
        · have e : k = n := by omega
          obtain ⟨q1, q2, q3⟩ := HE.out
          rw [e, Nat.sub_self] at q1 q2 q3
          rw [show folL r f 0 n ⟨e0, e1, e2, e3, e4, e5⟩ = [] from rfl, List.append_nil] at q1
          have QL := Lib.hid q1
          have QE := Lib.hid q3
          clear q1 q2 q3
          obtain rfl := e
          go_wp2_with ((with_reducible refine bodyPost_ret (v := .tuple #[.slice (some ⟨gg, 0, none⟩) k cc, .int .i64 0, .int .i64 0]) ?_ rfl ?_); (simp [results, Try.results27, go_sem]); exact ⟨.inr ⟨HME.out, .inl ⟨QE.out, cc, gg, by rw [QL.out, hxl], fun i j hi hj => by rw [QL.out] at hi ⊢; rw [hrow.cellAt _ (by rw [hxl] at hi; omega)]; exact flat_at xs i j hi hj⟩⟩, hB⟩)
end Go.Proofs.Ytpccfjdgnmmfoaa
