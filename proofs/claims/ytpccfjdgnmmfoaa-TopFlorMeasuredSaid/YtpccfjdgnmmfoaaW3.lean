/- flor's own measuresError: a loop over measurements. -/
import Derived.Test.YtpccfjdgnmmfoaaW2
namespace Go.Proofs.Ytpccfjdgnmmfoaa
open Go.RowKit

theorem keepM14 {w W w1 : World} {p0 p1 p2 p3 p4 p5 p6 p7 p8 p9 p10 p11 p12 p13 : Addr} {v0 v1 v2 v3 v4 v5 v6 v7 v8 v9 v10 v11 v12 v13 : Value} (hb : Below W.heap.size W w1) (h : W.cell? p0 = some v0 ∧ W.cell? p1 = some v1 ∧ W.cell? p2 = some v2 ∧ W.cell? p3 = some v3 ∧ W.cell? p4 = some v4 ∧ W.cell? p5 = some v5 ∧ W.cell? p6 = some v6 ∧ W.cell? p7 = some v7 ∧ W.cell? p8 = some v8 ∧ W.cell? p9 = some v9 ∧ W.cell? p10 = some v10 ∧ W.cell? p11 = some v11 ∧ W.cell? p12 = some v12 ∧ W.cell? p13 = some v13 ∧ Below w.heap.size w W) : w1.cell? p0 = some v0 ∧ w1.cell? p1 = some v1 ∧ w1.cell? p2 = some v2 ∧ w1.cell? p3 = some v3 ∧ w1.cell? p4 = some v4 ∧ w1.cell? p5 = some v5 ∧ w1.cell? p6 = some v6 ∧ w1.cell? p7 = some v7 ∧ w1.cell? p8 = some v8 ∧ w1.cell? p9 = some v9 ∧ w1.cell? p10 = some v10 ∧ w1.cell? p11 = some v11 ∧ w1.cell? p12 = some v12 ∧ w1.cell? p13 = some v13 ∧ Below w.heap.size w w1 := by
  obtain ⟨h0, h1, h2, h3, h4, h5, h6, h7, h8, h9, h10, h11, h12, h13, hB⟩ := h
  exact ⟨keepC hb h0, keepC hb h1, keepC hb h2, keepC hb h3, keepC hb h4, keepC hb h5, keepC hb h6, keepC hb h7, keepC hb h8, keepC hb h9, keepC hb h10, keepC hb h11, keepC hb h12, keepC hb h13, belowSeq hb hB⟩
theorem allocM14 {w W : World} {o : Obj} {p0 p1 p2 p3 p4 p5 p6 p7 p8 p9 p10 p11 p12 p13 : Addr} {v0 v1 v2 v3 v4 v5 v6 v7 v8 v9 v10 v11 v12 v13 : Value} (h : W.cell? p0 = some v0 ∧ W.cell? p1 = some v1 ∧ W.cell? p2 = some v2 ∧ W.cell? p3 = some v3 ∧ W.cell? p4 = some v4 ∧ W.cell? p5 = some v5 ∧ W.cell? p6 = some v6 ∧ W.cell? p7 = some v7 ∧ W.cell? p8 = some v8 ∧ W.cell? p9 = some v9 ∧ W.cell? p10 = some v10 ∧ W.cell? p11 = some v11 ∧ W.cell? p12 = some v12 ∧ W.cell? p13 = some v13 ∧ Below w.heap.size w W) : (W.alloc o).cell? p0 = some v0 ∧ (W.alloc o).cell? p1 = some v1 ∧ (W.alloc o).cell? p2 = some v2 ∧ (W.alloc o).cell? p3 = some v3 ∧ (W.alloc o).cell? p4 = some v4 ∧ (W.alloc o).cell? p5 = some v5 ∧ (W.alloc o).cell? p6 = some v6 ∧ (W.alloc o).cell? p7 = some v7 ∧ (W.alloc o).cell? p8 = some v8 ∧ (W.alloc o).cell? p9 = some v9 ∧ (W.alloc o).cell? p10 = some v10 ∧ (W.alloc o).cell? p11 = some v11 ∧ (W.alloc o).cell? p12 = some v12 ∧ (W.alloc o).cell? p13 = some v13 ∧ Below w.heap.size w (W.alloc o) := keepM14 ((Below.refl _ _).alloc (Nat.le_refl _) o) h
theorem drewM14 {w W : World} {p0 p1 p2 p3 p4 p5 p6 p7 p8 p9 p10 p11 p12 p13 : Addr} {v0 v1 v2 v3 v4 v5 v6 v7 v8 v9 v10 v11 v12 v13 : Value} (h : W.cell? p0 = some v0 ∧ W.cell? p1 = some v1 ∧ W.cell? p2 = some v2 ∧ W.cell? p3 = some v3 ∧ W.cell? p4 = some v4 ∧ W.cell? p5 = some v5 ∧ W.cell? p6 = some v6 ∧ W.cell? p7 = some v7 ∧ W.cell? p8 = some v8 ∧ W.cell? p9 = some v9 ∧ W.cell? p10 = some v10 ∧ W.cell? p11 = some v11 ∧ W.cell? p12 = some v12 ∧ W.cell? p13 = some v13 ∧ Below w.heap.size w W) : W.drew.cell? p0 = some v0 ∧ W.drew.cell? p1 = some v1 ∧ W.drew.cell? p2 = some v2 ∧ W.drew.cell? p3 = some v3 ∧ W.drew.cell? p4 = some v4 ∧ W.drew.cell? p5 = some v5 ∧ W.drew.cell? p6 = some v6 ∧ W.drew.cell? p7 = some v7 ∧ W.drew.cell? p8 = some v8 ∧ W.drew.cell? p9 = some v9 ∧ W.drew.cell? p10 = some v10 ∧ W.drew.cell? p11 = some v11 ∧ W.drew.cell? p12 = some v12 ∧ W.drew.cell? p13 = some v13 ∧ Below w.heap.size w W.drew := keepM14 ((Below.refl _ _).drew) h
set_option linter.unusedVariables false in
set_option maxRecDepth 100000 in
set_option maxHeartbeats 8000000 in
theorem mes_err (f : Nat → Ms) (sa : Option Addr) (n cp b off : Nat) (w : World) (hd : (mes0 n != 0) = true) :
    Calls Try.prog 65 #[.slice sa n cp] w fun e w' => e = .returned (.tuple #[.int .i64 0, .int .i64 (mes0 n)]) ∧ Below w.heap.size w w' := by
  unfold mes0 at hd ⊢
  go_enter Try.func65, Try.ntmps65
  go_wp2_with (first | (go_at_call 44; refine (unless_any _ _ _).mono ?_; rintro e w1 ⟨rfl, rfl⟩) | (go_at_call 43; with_reducible first | (refine Calls.mono (first2_any _ _ _ _ (newCellD 0 _ rfl) (newCellD 1 _ rfl)) ?_; rintro e w1 ⟨rfl, rfl⟩) | (refine Calls.mono (first2_any _ _ _ _ (newCell 0 _ rfl) (newCell 1 _ rfl)) ?_; rintro e w1 ⟨rfl, rfl⟩)) | ((with_reducible refine bodyPost_ret (v := .tuple #[.int .i64 0, .int .i64 (firstE (unlE (decide (0 < n)) 10) (unlE (decide ((n : Int) ≤ 40)) 8) 0)]) ?_ rfl ?_); (simp [results, Try.results65, go_sem]); exact ⟨rfl, by first | exact Below.refl _ _ | go_grown⟩))
set_option linter.unusedVariables false in
set_option maxRecDepth 100000 in
set_option maxHeartbeats 8000000 in
theorem mes_ok (f : Nat → Ms) (sa : Option Addr) (n cp b off : Nat) (w : World) (hsa : 0 < n → sa = some ⟨b, off, none⟩) (hn : n ≤ 40) (hd : (mes0 n != 0) = false) (hc : ∀ k j, k < n → j < 7 → w.cell? ⟨b, off + k * 7 + j, none⟩ = some (.int .i64 ((f k).at j))) :
    Calls Try.prog 65 #[.slice sa n cp] w fun e w' => e = .returned (.tuple #[.int .i64 (mesN f n 0), .int .i64 (mesE f n 0)]) ∧ Below w.heap.size w w' := by
  have HC := Lib.hid hc
  clear hc
  unfold mes0 at hd
  go_enter Try.func65, Try.ntmps65
  go_wp2_with (first | (go_at_call 44; refine (unless_any _ _ _).mono ?_; rintro e w1 ⟨rfl, rfl⟩) | (go_at_call 43; with_reducible first | (refine Calls.mono (first2_any _ _ _ _ (newCellD 0 _ rfl) (newCellD 1 _ rfl)) ?_; rintro e w1 ⟨rfl, rfl⟩) | (refine Calls.mono (first2_any _ _ _ _ (newCell 0 _ rfl) (newCell 1 _ rfl)) ?_; rintro e w1 ⟨rfl, rfl⟩)))
  go_loopw [23] (fun i wr => ∃ k : Nat, k ≤ n ∧ i = .int .i64 k ∧ (mesN f n 0 = mesN f (n - k) k ∧ mesE f n 0 = mesE f (n - k) k) ∧ Below w.heap.size w wr)
    (fun i _ => n - (intOf i).toNat)
  case atStart => exact ⟨0, Nat.zero_le _, rfl, ⟨rfl, rfl⟩, by first | exact Below.refl _ _ | go_grown⟩
  case round =>
    obtain ⟨k, hk, rfl, hE, hB⟩ := hrel
    have HE := Lib.hid hE
    clear hE hd
    by_cases hlt : k < n
    · obtain rfl := hsa (by omega)
      have hs0 : w.heap.size ≤ wr.heap.size := hB.size
      obtain ⟨⟨t0, t1, t2, t3, t4, t5, t6⟩, hr⟩ : ∃ r, f k = r := ⟨_, rfl⟩
      have d0 := keepC hB (HC.out k 0 hlt (by omega))
      rw [hr] at d0
      rw [Nat.add_zero] at d0
      dsimp only [Ms.at] at d0
      have d1 := keepC hB (HC.out k 1 hlt (by omega))
      rw [hr] at d1
      dsimp only [Ms.at] at d1
      have d2 := keepC hB (HC.out k 2 hlt (by omega))
      rw [hr] at d2
      dsimp only [Ms.at] at d2
      have d3 := keepC hB (HC.out k 3 hlt (by omega))
      rw [hr] at d3
      dsimp only [Ms.at] at d3
      have d4 := keepC hB (HC.out k 4 hlt (by omega))
      rw [hr] at d4
      dsimp only [Ms.at] at d4
      have d5 := keepC hB (HC.out k 5 hlt (by omega))
      rw [hr] at d5
      dsimp only [Ms.at] at d5
      have d6 := keepC hB (HC.out k 6 hlt (by omega))
      rw [hr] at d6
      dsimp only [Ms.at] at d6
      obtain ⟨e0, he0⟩ : ∃ e, measE t0 t1 t2 t3 t4 t5 t6 = e := ⟨_, rfl⟩
      have HE0 := Lib.hid he0
      obtain ⟨d, hd2⟩ : ∃ d, mesS f k = d := ⟨_, rfl⟩
      have HS := Lib.hid (mes_step f n k hlt d hd2)
      by_cases h0 : k = 0
      · obtain rfl : e0 = d := by rw [← he0, ← hd2, mesS, if_pos h0, hr]; rfl
        have hk1 : ¬ 0 < k := by omega
        have HK := Lib.hid h0
        clear h0 he0 hr hd2 hk1
        have hk1 : ¬ 0 < k := by have := HK.out; omega
        by_cases hd3 : e0 = 0
        · have hnz : (e0 != 0) = false := by rw [hd3]; rfl
          have HD := Lib.hid hd3
          clear hd3
          go_wp2_with (go_at_call 84; refine (florMeasure_any _ _ _ _ _ _ _ _).mono ?_; rintro e w3 ⟨rfl, hb3⟩; rw [HE0.out]; have hB3 : Below w.heap.size w w3 := belowSeq hb3 (hB.alloc hs0 _))
          go_roundw
          case rel =>
            obtain ⟨s1, s2⟩ := HS.out
            obtain ⟨q1, q2⟩ := HE.out
            rw [if_pos HD.out] at s1 s2
            exact ⟨k + 1, by omega, by first | rfl | go_num, ⟨q1.trans s1, q2.trans s2⟩, hB3⟩
          case measure => simp [intOf]; omega
        · have hnz : (e0 != 0) = true := by simp [hd3]
          have HD := Lib.hid hd3
          clear hd3
          go_wp2_with (first | (go_at_call 84; refine (florMeasure_any _ _ _ _ _ _ _ _).mono ?_; rintro e w3 ⟨rfl, hb3⟩; rw [HE0.out]; have hB3 : Below w.heap.size w w3 := belowSeq hb3 (hB.alloc hs0 _)) | ((with_reducible refine bodyPost_ret (v := .tuple #[.int .i64 (k : Int), .int .i64 e0]) ?_ rfl ?_); (simp [results, Try.results65, go_sem]); exact ⟨by obtain ⟨s1, s2⟩ := HS.out; obtain ⟨q1, q2⟩ := HE.out; rw [if_neg HD.out] at s1 s2; rw [q1, q2, s1, s2], hB3⟩))
      · obtain ⟨q, hqk⟩ : ∃ q, k = q + 1 := ⟨k - 1, by omega⟩
        obtain ⟨⟨p0, p1, p2, p3, p4, p5, p6⟩, hp⟩ : ∃ r, f q = r := ⟨_, rfl⟩
        have c0 := keepC hB (HC.out q 0 (by omega) (by omega))
        rw [hp] at c0
        rw [Nat.add_zero] at c0
        dsimp only [Ms.at] at c0
        have c1 := keepC hB (HC.out q 1 (by omega) (by omega))
        rw [hp] at c1
        dsimp only [Ms.at] at c1
        have c2 := keepC hB (HC.out q 2 (by omega) (by omega))
        rw [hp] at c2
        dsimp only [Ms.at] at c2
        have c3 := keepC hB (HC.out q 3 (by omega) (by omega))
        rw [hp] at c3
        dsimp only [Ms.at] at c3
        have c4 := keepC hB (HC.out q 4 (by omega) (by omega))
        rw [hp] at c4
        dsimp only [Ms.at] at c4
        have c5 := keepC hB (HC.out q 5 (by omega) (by omega))
        rw [hp] at c5
        dsimp only [Ms.at] at c5
        have c6 := keepC hB (HC.out q 6 (by omega) (by omega))
        rw [hp] at c6
        dsimp only [Ms.at] at c6
        have hdd : firstE e0 (betE p0 t0) 0 = d := by rw [← he0, ← hd2, mesS, if_neg (by omega), hr, show k - 1 = q by omega, hp]; rfl
        clear hr hp hd2 h0 he0
        have hq1 : IntKind.i64.wrap ((k : Int) - 1) = (q : Int) := by rw [show (k : Int) - 1 = q by omega]; exact IntWalk.i64_in _ (by omega)
        have hq2 : (0 : Int) ≤ (q : Int) := by omega
        have hq3 : (q : Int) < (n : Int) := by omega
        have hq4 : 0 < k := by omega
        have HQ := Lib.hid hqk
        clear hqk
        go_wp2_with (go_at_call 84; refine (florMeasure_any _ _ _ _ _ _ _ _).mono ?_; rintro e w3 ⟨rfl, hb3⟩; rw [HE0.out]; have n0 := (newHeld hb3 0 _ rfl).1; have n1 := (newHeld hb3 1 _ rfl).1; have n2 := (newHeld hb3 2 _ rfl).1; have n3 := (newHeld hb3 3 _ rfl).1; have n4 := (newHeld hb3 4 _ rfl).1; have n5 := (newHeld hb3 5 _ rfl).1; have n6 := (newHeld hb3 6 _ rfl).1; have m0 := keepC hb3 (keepC ((Below.refl _ _).alloc (Nat.le_refl _) _) c0); have m1 := keepC hb3 (keepC ((Below.refl _ _).alloc (Nat.le_refl _) _) c1); have m2 := keepC hb3 (keepC ((Below.refl _ _).alloc (Nat.le_refl _) _) c2); have m3 := keepC hb3 (keepC ((Below.refl _ _).alloc (Nat.le_refl _) _) c3); have m4 := keepC hb3 (keepC ((Below.refl _ _).alloc (Nat.le_refl _) _) c4); have m5 := keepC hb3 (keepC ((Below.refl _ _).alloc (Nat.le_refl _) _) c5); have m6 := keepC hb3 (keepC ((Below.refl _ _).alloc (Nat.le_refl _) _) c6); have hB3 : Below w.heap.size w w3 := belowSeq hb3 (hB.alloc hs0 _))
        refine nameWorld (fun w' => w'.cell? ⟨wr.heap.size, 0, none⟩ = some (.int .i64 t0) ∧ w'.cell? ⟨wr.heap.size, 1, none⟩ = some (.int .i64 t1) ∧ w'.cell? ⟨wr.heap.size, 2, none⟩ = some (.int .i64 t2) ∧ w'.cell? ⟨wr.heap.size, 3, none⟩ = some (.int .i64 t3) ∧ w'.cell? ⟨wr.heap.size, 4, none⟩ = some (.int .i64 t4) ∧ w'.cell? ⟨wr.heap.size, 5, none⟩ = some (.int .i64 t5) ∧ w'.cell? ⟨wr.heap.size, 6, none⟩ = some (.int .i64 t6) ∧ w'.cell? ⟨b, off + q * 7, none⟩ = some (.int .i64 p0) ∧ w'.cell? ⟨b, off + q * 7 + 1, none⟩ = some (.int .i64 p1) ∧ w'.cell? ⟨b, off + q * 7 + 2, none⟩ = some (.int .i64 p2) ∧ w'.cell? ⟨b, off + q * 7 + 3, none⟩ = some (.int .i64 p3) ∧ w'.cell? ⟨b, off + q * 7 + 4, none⟩ = some (.int .i64 p4) ∧ w'.cell? ⟨b, off + q * 7 + 5, none⟩ = some (.int .i64 p5) ∧ w'.cell? ⟨b, off + q * 7 + 6, none⟩ = some (.int .i64 p6) ∧ Below w.heap.size w w') ⟨n0, n1, n2, n3, n4, n5, n6, m0, m1, m2, m3, m4, m5, m6, hB3⟩ (fun wc hc => ?_)
        clear n0 m0 n1 m1 n2 m2 n3 m3 n4 m4 n5 m5 n6 m6 hB3 hb3
        obtain ⟨x0, x1, x2, x3, x4, x5, x6, y0, y1, y2, y3, y4, y5, y6, hB3⟩ := hc
        clear d0 c0 d1 c1 d2 c2 d3 c3 d4 c4 d5 c5 d6 c6
        go_region_held3 (fun w' => w'.cell? ⟨wr.heap.size, 0, none⟩ = some (.int .i64 t0) ∧ w'.cell? ⟨wr.heap.size, 1, none⟩ = some (.int .i64 t1) ∧ w'.cell? ⟨wr.heap.size, 2, none⟩ = some (.int .i64 t2) ∧ w'.cell? ⟨wr.heap.size, 3, none⟩ = some (.int .i64 t3) ∧ w'.cell? ⟨wr.heap.size, 4, none⟩ = some (.int .i64 t4) ∧ w'.cell? ⟨wr.heap.size, 5, none⟩ = some (.int .i64 t5) ∧ w'.cell? ⟨wr.heap.size, 6, none⟩ = some (.int .i64 t6) ∧ w'.cell? ⟨b, off + q * 7, none⟩ = some (.int .i64 p0) ∧ w'.cell? ⟨b, off + q * 7 + 1, none⟩ = some (.int .i64 p1) ∧ w'.cell? ⟨b, off + q * 7 + 2, none⟩ = some (.int .i64 p2) ∧ w'.cell? ⟨b, off + q * 7 + 3, none⟩ = some (.int .i64 p3) ∧ w'.cell? ⟨b, off + q * 7 + 4, none⟩ = some (.int .i64 p4) ∧ w'.cell? ⟨b, off + q * 7 + 5, none⟩ = some (.int .i64 p5) ∧ w'.cell? ⟨b, off + q * 7 + 6, none⟩ = some (.int .i64 p6) ∧ Below wc.heap.size wc w')
            (first | (with_reducible assumption) | (have hk2 := hk1.out; have hk3 := hk2.size; (try go_split_ands); refine pack14 ?_ x0 x1 x2 x3 x4 x5 x6 y0 y1 y2 y3 y4 y5 y6; (first | (with_reducible assumption) | (with_reducible exact Below.refl _ _) | ((with_reducible apply belowSeq hb1); (with_reducible assumption)) | ((with_reducible refine Below.alloc ?_ ?_ _) <;> first | (with_reducible assumption) | (exact Below.size (by with_reducible assumption))) | (go_grown; done))) | ((try go_split_ands); refine pack14 ?_ x0 x1 x2 x3 x4 x5 x6 y0 y1 y2 y3 y4 y5 y6; (first | (with_reducible assumption) | (with_reducible exact Below.refl _ _) | ((with_reducible apply belowSeq hb1); (with_reducible assumption)) | ((with_reducible refine Below.alloc ?_ ?_ _) <;> first | (with_reducible assumption) | (exact Below.size (by with_reducible assumption))) | (go_grown; done))))
            (first
              | (go_at_call 85; (with_reducible refine Calls.mono (florBetween_any _ _ _ _ _ _ _ _ _ _ _ _ _ _ _) ?_); rintro e w1 ⟨rfl, hb1⟩)
              | (go_at_call 43; with_reducible first | (refine Calls.mono (first2_any _ _ _ _ (newCellD 0 _ rfl) (newCellD 1 _ rfl)) ?_; rintro e w4 ⟨rfl, rfl⟩) | (refine Calls.mono (first2_any _ _ _ _ (newCell 0 _ rfl) (newCell 1 _ rfl)) ?_; rintro e w4 ⟨rfl, rfl⟩)))
        rename_i hS
        have hW := hS.2.2.2.2.2.2.2.2.2.2.2.2.2.2
        clear hS x0 x1 x2 x3 x4 x5 x6 y0 y1 y2 y3 y4 y5 y6
        have hB9 := belowSeq hW hB3
        clear hW hB3
        clear hdd hq1 hq2 hq3 hq4
        by_cases hd3 : d = 0
        · have hnz : (d != 0) = false := by rw [hd3]; rfl
          have HD := Lib.hid hd3
          clear hd3
          go_wp2_with fail
          go_roundw
          case rel =>
            obtain ⟨s1, s2⟩ := HS.out
            obtain ⟨q1, q2⟩ := HE.out
            rw [if_pos HD.out] at s1 s2
            exact ⟨k + 1, by omega, by first | rfl | go_num, ⟨q1.trans s1, q2.trans s2⟩, hB9⟩
          case measure => simp [intOf]; omega
        · have hnz : (d != 0) = true := by simp [hd3]
          have HD := Lib.hid hd3
          clear hd3
          go_wp2_with ((with_reducible refine bodyPost_ret (v := .tuple #[.int .i64 (k : Int), .int .i64 d]) ?_ rfl ?_); (simp [results, Try.results65, go_sem]); exact ⟨by obtain ⟨s1, s2⟩ := HS.out; obtain ⟨q1, q2⟩ := HE.out; rw [if_neg HD.out] at s1 s2; rw [q1, q2, s1, s2], hB9⟩)
    · have e : k = n := by omega
      subst e
      go_wp2_with ((with_reducible refine bodyPost_ret (v := .tuple #[.int .i64 0, .int .i64 0]) ?_ rfl ?_); (simp [results, Try.results65, go_sem]); exact ⟨by obtain ⟨q1, q2⟩ := HE.out; rw [Nat.sub_self] at q1 q2; rw [q1, q2]; rfl, by go_grown⟩)
end Go.Proofs.Ytpccfjdgnmmfoaa
