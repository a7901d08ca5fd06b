/- FOR EVERY INPUT THE LAW FlorRates ANSWERS TRUE: the program's RatesOf answers as the reference's for every two wines and days. No condition. -/
import Derived.Test.YtcpkoapkmjcigaaG0
import Derived.Test.YtcpkoapkmjcigaaF10
import Derived.Test.YtcpkoapkmjcigaaF16
import Derived.Test.YtcpkoapkmjcigaaF19
import Derived.Test.YtcpkoapkmjcigaaLFlorRates
namespace Go.Proofs.Ytcpkoapkmjcigaa
open Go.RowKit

set_option maxHeartbeats 2000000 in
theorem rates_lm (v0 v1 s0 s1 c0 c1 u0 u1 t0 t1 q0 q1 days e0 e1 e2 e3 d : Int) (w : World)
    (hA : ∀ w : World, Calls Try.prog 20 #[] w fun e w' => e = .returned (.bool true) ∧ Below w.heap.size w w')
    (h1 : ∀ w : World, Calls Try.prog 42 #[.agg #[.int .i64 v0, .int .i64 v1, .int .i64 s0, .int .i64 s1, .int .i64 c0, .int .i64 c1], .agg #[.int .i64 u0, .int .i64 u1, .int .i64 t0, .int .i64 t1, .int .i64 q0, .int .i64 q1], .int .i64 days] w fun e w' => e = .returned (.tuple #[.agg #[.int .i64 e0, .int .i64 e1, .int .i64 e2, .int .i64 e3], .int .i64 d]) ∧ Below w.heap.size w w')
    (h2 : ∀ w : World, Calls Try.prog 43 #[.agg #[.int .i64 v0, .int .i64 v1, .int .i64 s0, .int .i64 s1, .int .i64 c0, .int .i64 c1], .agg #[.int .i64 u0, .int .i64 u1, .int .i64 t0, .int .i64 t1, .int .i64 q0, .int .i64 q1], .int .i64 days] w fun e w' => e = .returned (.tuple #[.agg #[.int .i64 e0, .int .i64 e1, .int .i64 e2, .int .i64 e3], .int .i64 d]) ∧ Below w.heap.size w w') :
    Calls Try.prog 9 #[.agg #[.int .i64 v0, .int .i64 v1, .int .i64 s0, .int .i64 s1, .int .i64 c0, .int .i64 c1], .agg #[.int .i64 u0, .int .i64 u1, .int .i64 t0, .int .i64 t1, .int .i64 q0, .int .i64 q1], .int .i64 days] w fun e w' => e = .returned (.bool true) ∧ Below w.heap.size w w' := by
  have HA := Lib.hid hA
  have H1 := Lib.hid h1
  have H2 := Lib.hid h2
  clear hA h1 h2
  go_enter Try.func9, Try.ntmps9
  go_upto_region 3 with (go_at_call 20; refine (HA.out _).mono ?_; rintro e w1 ⟨rfl, hb1⟩)
  refine nameWorld (fun w' => w'.cell? ⟨w.heap.size, 0, none⟩ = some (.int .i64 v0) ∧ w'.cell? ⟨w.heap.size, 1, none⟩ = some (.int .i64 v1) ∧ w'.cell? ⟨w.heap.size, 2, none⟩ = some (.int .i64 s0) ∧ w'.cell? ⟨w.heap.size, 3, none⟩ = some (.int .i64 s1) ∧ w'.cell? ⟨w.heap.size, 4, none⟩ = some (.int .i64 c0) ∧ w'.cell? ⟨w.heap.size, 5, none⟩ = some (.int .i64 c1) ∧ w'.cell? ⟨w.heap.size + 1, 0, none⟩ = some (.int .i64 u0) ∧ w'.cell? ⟨w.heap.size + 1, 1, none⟩ = some (.int .i64 u1) ∧ w'.cell? ⟨w.heap.size + 1, 2, none⟩ = some (.int .i64 t0) ∧ w'.cell? ⟨w.heap.size + 1, 3, none⟩ = some (.int .i64 t1) ∧ w'.cell? ⟨w.heap.size + 1, 4, none⟩ = some (.int .i64 q0) ∧ w'.cell? ⟨w.heap.size + 1, 5, none⟩ = some (.int .i64 q1) ∧ Below w.heap.size w w') (by refine ⟨?_, ?_, ?_, ?_, ?_, ?_, ?_, ?_, ?_, ?_, ?_, ?_, ?_⟩ <;> first | (exact keepC (by assumption) (by go_cell)) | (exact belowSeq (by assumption) (by (go_grown; done))) | (exact keepZ (by assumption) (by go_size))) (fun wc hc => ?_)
  obtain ⟨x0, x1, x2, x3, x4, x5, x6, x7, x8, x9, x10, x11, hB⟩ := hc
  clear hb1
  go_wp2_with (first | (go_at_call 42; (with_reducible refine Calls.mono (H1.out _) ?_); rintro e w2 ⟨rfl, hb2⟩; have y0 := keepC hb2 x0; have y1 := keepC hb2 x1; have y2 := keepC hb2 x2; have y3 := keepC hb2 x3; have y4 := keepC hb2 x4; have y5 := keepC hb2 x5; have y6 := keepC hb2 x6; have y7 := keepC hb2 x7; have y8 := keepC hb2 x8; have y9 := keepC hb2 x9; have y10 := keepC hb2 x10; have y11 := keepC hb2 x11; have hB2 := belowSeq hb2 hB; have hz2 : w.heap.size + 1 < w2.heap.size := World.block_lt_of_cell? w2 _ y6; have hz3 : w.heap.size < w2.heap.size := World.block_lt_of_cell? w2 _ y0) | (go_at_call 43; (with_reducible refine Calls.mono (H2.out _) ?_); rintro e w3 ⟨rfl, hb3⟩; have n0 := newHeld0 hb3 0 _ rfl; have n1 := newHeld0 hb3 1 _ rfl; have n2 := newHeld0 hb3 2 _ rfl; have n3 := newHeld0 hb3 3 _ rfl; have hz4 : w2.heap.size < w3.heap.size := World.block_lt_of_cell? w3 _ n0; have hB3 := belowSeq hb3 (hB2.alloc hB2.size _)))
  go_ret
  exact ⟨rfl, by first | exact hB3.alloc hB3.size _ | go_grown⟩
theorem ratesErr (v0 v1 s0 s1 c0 c1 u0 u1 t0 t1 q0 q1 days t : Int) (ht : (t != 0) = true) (hv : ∀ b, (b = true → 0 < v0 ∧ 0 < s0) → (b = false → ¬ (0 < v0 ∧ 0 < s0)) → first4 (wineE v0 v1 s0 s1 c0 c1) (wineE u0 u1 t0 t1 q0 q1) (numE days 1 365) (unlE b 25) = t) (w : World) :
    Calls Try.prog 42 #[.agg #[.int .i64 v0, .int .i64 v1, .int .i64 s0, .int .i64 s1, .int .i64 c0, .int .i64 c1], .agg #[.int .i64 u0, .int .i64 u1, .int .i64 t0, .int .i64 t1, .int .i64 q0, .int .i64 q1], .int .i64 days] w fun e w' => e = .returned (.tuple #[.agg #[.int .i64 0, .int .i64 0, .int .i64 0, .int .i64 0], .int .i64 t]) ∧ Below w.heap.size w w' := by
  by_cases h0 : 0 < v0
  · by_cases h1 : 0 < s0
    · have e := hv true (fun _ => ⟨h0, h1⟩) (fun h => by cases h)
      have := florRates_err_c v0 v1 s0 s1 c0 c1 u0 u1 t0 t1 q0 q1 days w h0 h1 (by rw [e]; exact ht)
      rwa [e] at this
    · have e := hv false (fun h => by cases h) (fun _ h => h1 h.2)
      have := florRates_err_b v0 v1 s0 s1 c0 c1 u0 u1 t0 t1 q0 q1 days w h0 h1 (by rw [e]; exact ht)
      rwa [e] at this
  · have e := hv false (fun h => by cases h) (fun _ h => h0 h.1)
    have := florRates_err_a v0 v1 s0 s1 c0 c1 u0 u1 t0 t1 q0 q1 days w h0 (by rw [e]; exact ht)
    rwa [e] at this
theorem rates_both (v0 v1 s0 s1 c0 c1 u0 u1 t0 t1 q0 q1 days : Int) : ∃ e0 e1 e2 e3 d : Int, (∀ w : World, Calls Try.prog 42 #[.agg #[.int .i64 v0, .int .i64 v1, .int .i64 s0, .int .i64 s1, .int .i64 c0, .int .i64 c1], .agg #[.int .i64 u0, .int .i64 u1, .int .i64 t0, .int .i64 t1, .int .i64 q0, .int .i64 q1], .int .i64 days] w fun e w' => e = .returned (.tuple #[.agg #[.int .i64 e0, .int .i64 e1, .int .i64 e2, .int .i64 e3], .int .i64 d]) ∧ Below w.heap.size w w') ∧ (∀ w : World, Calls Try.prog 43 #[.agg #[.int .i64 v0, .int .i64 v1, .int .i64 s0, .int .i64 s1, .int .i64 c0, .int .i64 c1], .agg #[.int .i64 u0, .int .i64 u1, .int .i64 t0, .int .i64 t1, .int .i64 q0, .int .i64 q1], .int .i64 days] w fun e w' => e = .returned (.tuple #[.agg #[.int .i64 e0, .int .i64 e1, .int .i64 e2, .int .i64 e3], .int .i64 d]) ∧ Below w.heap.size w w') := by
  by_cases hA : firstE (wineE v0 v1 s0 s1 c0 c1) (wineE u0 u1 t0 t1 q0 q1) 0 = 0
  rotate_left
  · refine ⟨0, 0, 0, 0, firstE (wineE v0 v1 s0 s1 c0 c1) (wineE u0 u1 t0 t1 q0 q1) 0, ratesErr v0 v1 s0 s1 c0 c1 u0 u1 t0 t1 q0 q1 days _ (by simpa using hA) (fun b _ _ => ?_), fun w => refRates_err v0 v1 s0 s1 c0 c1 u0 u1 t0 t1 q0 q1 days w (by simpa using hA)⟩
    rw [first4, firstE_mono hA, if_pos hA]
  have hf : (firstE (wineE v0 v1 s0 s1 c0 c1) (wineE u0 u1 t0 t1 q0 q1) 0 != 0) = false := by simpa using hA
  cases hI : inB days 1 365
  · refine ⟨0, 0, 0, 0, 2, ratesErr v0 v1 s0 s1 c0 c1 u0 u1 t0 t1 q0 q1 days 2 rfl (fun b _ _ => ?_), fun w => refRates_days v0 v1 s0 s1 c0 c1 u0 u1 t0 t1 q0 q1 days w hf hI⟩
    have hn : numE days 1 365 = 2 := by simp [numE, hI]
    rw [first4, firstE_last hA, hn]; rfl
  have hn : numE days 1 365 = 0 := by simp [numE, hI]
  have hF : ∀ b, first4 (wineE v0 v1 s0 s1 c0 c1) (wineE u0 u1 t0 t1 q0 q1) (numE days 1 365) (unlE b 25) = unlE b 25 := fun b => by rw [first4, firstE_last hA, hn]; rfl
  have hz := hA
  rw [firstE_zero, wineE_zero, wineE_zero] at hz
  obtain ⟨⟨⟨V0, V1, V2⟩, ⟨S0, S1, S2⟩, ⟨C0, C1, C2⟩⟩, ⟨⟨U0, U1, U2⟩, ⟨T0, T1, T2⟩, ⟨Q0, Q1, Q2⟩⟩, -⟩ := hz
  obtain ⟨D0, D1⟩ := inB_iff.1 hI
  by_cases h0 : 0 < v0
  rotate_left
  · exact ⟨0, 0, 0, 0, 25, ratesErr v0 v1 s0 s1 c0 c1 u0 u1 t0 t1 q0 q1 days 25 rfl (fun b h _ => by cases b; exact hF false; exact absurd (h rfl).1 h0), fun w => refRates_empty1 v0 v1 s0 s1 c0 c1 u0 u1 t0 t1 q0 q1 days w hf hI (by simp; omega)⟩
  by_cases h1 : 0 < s0
  rotate_left
  · exact ⟨0, 0, 0, 0, 25, ratesErr v0 v1 s0 s1 c0 c1 u0 u1 t0 t1 q0 q1 days 25 rfl (fun b h _ => by cases b; exact hF false; exact absurd (h rfl).2 h1), fun w => refRates_empty2 v0 v1 s0 s1 c0 c1 u0 u1 t0 t1 q0 q1 days w hf hI (by simp; omega) (by simp; omega)⟩
  have hd : (first4 (wineE v0 v1 s0 s1 c0 c1) (wineE u0 u1 t0 t1 q0 q1) (numE days 1 365) (unlE true 25) != 0) = false := by rw [hF]; rfl
  obtain ⟨mp0, mp1⟩ := mul_bd v0 s0 100000 10000 (by omega) (by omega) (by omega) (by omega)
  obtain ⟨mq0, mq1⟩ := mul_bd v1 s1 100000 10000 (by omega) (by omega) (by omega) (by omega)
  obtain ⟨mr0, mr1⟩ := mul_bd u0 t0 100000 10000 (by omega) (by omega) (by omega) (by omega)
  obtain ⟨ms0, ms1⟩ := mul_bd u1 t1 100000 10000 (by omega) (by omega) (by omega) (by omega)
  have mp2 : 0 < v0 * s0 := Int.mul_pos h0 h1
  have mq2 : 0 < v1 * s1 := Int.mul_pos (by omega) (by omega)
  have kW := fun w => rateWine v0 v1 s0 s1 c0 c1 u0 u1 t0 t1 q0 q1 days v0 v1 u0 u1 w (by omega) (by omega) (by omega) (by omega) (by omega) (by omega) (by omega) (by omega) (by omega) (by omega) (fun w => leastVolume_any v0 v1 s0 s1 c0 c1 w) (fun w => mostVolume_any u0 u1 t0 t1 q0 q1 w) (fun w => mostVolume_any v0 v1 s0 s1 c0 c1 w) (fun w => leastVolume_any u0 u1 t0 t1 q0 q1 w)
  have kA := fun w => rateAlc v0 v1 s0 s1 c0 c1 u0 u1 t0 t1 q0 q1 days (v0 * s0) (v1 * s1) (u0 * t0) (u1 * t1) w (by omega) (by omega) (by omega) (by omega) (by omega) (by omega) (by omega) (by omega) (by omega) (by omega) (fun w => leastAlcohol_any v0 v1 s0 s1 c0 c1 w (by omega) (by omega) (by omega) (by omega) (by omega) (by omega) (by omega) (by omega)) (fun w => mostAlcohol_any u0 u1 t0 t1 q0 q1 w (by omega) (by omega) (by omega) (by omega) (by omega) (by omega) (by omega) (by omega)) (fun w => mostAlcohol_any v0 v1 s0 s1 c0 c1 w (by omega) (by omega) (by omega) (by omega) (by omega) (by omega) (by omega) (by omega)) (fun w => leastAlcohol_any u0 u1 t0 t1 q0 q1 w (by omega) (by omega) (by omega) (by omega) (by omega) (by omega) (by omega) (by omega))
  have gW := fun w => refRate_any v0 v1 u0 u1 days w (by omega) (by omega) (by omega) (by omega) (by omega) (by omega) (by omega) (by omega) (by omega) (by omega)
  have gA := fun w => refRate_any (v0 * s0) (v1 * s1) (u0 * t0) (u1 * t1) days w (by omega) (by omega) (by omega) (by omega) (by omega) (by omega) (by omega) (by omega) (by omega) (by omega)
  have g1 := fun w => alcohol_any v0 v1 s0 s1 c0 c1 w (by omega) (by omega) (by omega) (by omega) (by omega) (by omega) (by omega) (by omega)
  have g2 := fun w => alcohol_any u0 u1 t0 t1 q0 q1 w (by omega) (by omega) (by omega) (by omega) (by omega) (by omega) (by omega) (by omega)
  generalize mx (fl (1000000 * (v0 - u1)) (v0 * days)) 0 = X0 at kW gW
  generalize mn (ce (1000000 * (v1 - u0)) (v1 * days)) 2000 = X1 at kW gW
  generalize mx (fl (1000000 * (v0 * s0 - u1 * t1)) (v0 * s0 * days)) 0 = Y0 at kA gA
  generalize mn (ce (1000000 * (v1 * s1 - u0 * t0)) (v1 * s1 * days)) 2000 = Y1 at kA gA
  by_cases i0 : X1 < X0
  · exact ⟨0, 0, 0, 0, 13, fun w => florRates_clash1 v0 v1 s0 s1 c0 c1 u0 u1 t0 t1 q0 q1 days w h0 h1 hd X0 X1 Y0 Y1 i0 kW kA, fun w => refRates_clash1 v0 v1 s0 s1 c0 c1 u0 u1 t0 t1 q0 q1 days w hf hI (by simp; omega) (by simp; omega) _ _ _ _ X0 X1 Y0 Y1 i0 g1 g2 gW gA⟩
  by_cases i1 : Y1 < Y0
  · exact ⟨0, 0, 0, 0, 13, fun w => florRates_clash2 v0 v1 s0 s1 c0 c1 u0 u1 t0 t1 q0 q1 days w h0 h1 hd X0 X1 Y0 Y1 (by omega) i1 kW kA, fun w => refRates_clash2 v0 v1 s0 s1 c0 c1 u0 u1 t0 t1 q0 q1 days w hf hI (by simp; omega) (by simp; omega) _ _ _ _ X0 X1 Y0 Y1 (by omega) i1 g1 g2 gW gA⟩
  exact ⟨X0, X1, Y0, Y1, 0, fun w => florRates_fine v0 v1 s0 s1 c0 c1 u0 u1 t0 t1 q0 q1 days w h0 h1 hd X0 X1 Y0 Y1 (by omega) (by omega) kW kA, fun w => refRates_fine v0 v1 s0 s1 c0 c1 u0 u1 t0 t1 q0 q1 days w hf hI (by simp; omega) (by simp; omega) _ _ _ _ X0 X1 Y0 Y1 (by omega) (by omega) g1 g2 gW gA⟩
theorem florRates_holds : Rows.FlorRatesSaid :=
  FlorRates.over (fun v0 v1 s0 s1 c0 c1 u0 u1 t0 t1 q0 q1 days w _ => by
    obtain ⟨e0, e1, e2, e3, d, h1, h2⟩ := rates_both v0 v1 s0 s1 c0 c1 u0 u1 t0 t1 q0 q1 days
    exact rates_lm v0 v1 s0 s1 c0 c1 u0 u1 t0 t1 q0 q1 days e0 e1 e2 e3 d w awake_any h1 h2)
end Go.Proofs.Ytcpkoapkmjcigaa
