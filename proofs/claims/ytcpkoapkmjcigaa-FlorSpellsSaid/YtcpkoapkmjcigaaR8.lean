/- Contract of the reference of chapter 3: SafeDays. -/
import Derived.Test.YtcpkoapkmjcigaaR5
namespace Go.Proofs.Ytcpkoapkmjcigaa
open Go.RowKit

def sLo (s0 a0 g1 d : Int) : Int := fl (s0 * lft g1 d) (lft a0 d)
/-- n is for how many days the strength is kept -/
def isSafe (s0 a0 g1 least : Int) (n : Nat) : Prop := n ≤ 365 ∧ (∀ j : Nat, j < n → least ≤ sLo s0 a0 g1 (j + 1)) ∧ (n = 365 ∨ sLo s0 a0 g1 (n + 1) < least)
theorem safe_exists (s0 a0 g1 least : Int) : ∃ n, isSafe s0 a0 g1 least n := by
  have key : ∀ f n : Nat, n + f = 365 → (∀ j : Nat, j < n → least ≤ sLo s0 a0 g1 (j + 1)) → ∃ n, isSafe s0 a0 g1 least n := by
    intro f
    induction f with
    | zero => intro n hn h; exact ⟨n, by omega, h, Or.inl (by omega)⟩
    | succ f ih =>
      intro n hn h
      by_cases c : sLo s0 a0 g1 (n + 1) < least
      · exact ⟨n, by omega, h, Or.inr c⟩
      · refine ih (n + 1) (by omega) fun j hj => ?_
        by_cases e : j = n
        · subst e; omega
        · exact h j (by omega)
  exact key 365 0 (by omega) (fun j hj => by omega)
theorem safe_one {s0 a0 g1 least : Int} {n m : Nat} (hn : isSafe s0 a0 g1 least n) (hm : isSafe s0 a0 g1 least m) : n = m := by
  have key : ∀ {n m : Nat}, isSafe s0 a0 g1 least n → isSafe s0 a0 g1 least m → ¬ n < m := by
    intro n m hn hm h
    rcases hn.2.2 with e | e
    · have := hm.1; omega
    · have := hm.2.1 n h; omega
  have a := key hn hm
  have b := key hm hn
  omega
theorem field_lo (a b : Int) (w : World) : (Instr.field 23 (.agg #[.int .i64 a, .int .i64 b]) 0).run Try.prog w = .ok (.int .i64 a) w := by kernel_rfl
theorem field_hi (a b : Int) (w : World) : (Instr.field 23 (.agg #[.int .i64 a, .int .i64 b]) 1).run Try.prog w = .ok (.int .i64 b) w := by kernel_rfl
set_option maxHeartbeats 2000000 in
set_option maxRecDepth 100000 in
theorem safe_wrong (v0 v1 s0 s1 c0 c1 a0 a1 g0 g1 least : Int) (w : World) (h : (firstE (wineE v0 v1 s0 s1 c0 c1) (rateE a0 a1 g0 g1) (strE least) != 0) = true) :
    Calls Try.prog 38 #[.agg #[.int .i64 v0, .int .i64 v1, .int .i64 s0, .int .i64 s1, .int .i64 c0, .int .i64 c1], .agg #[.int .i64 a0, .int .i64 a1, .int .i64 g0, .int .i64 g1], .int .i64 least] w fun e w' => e = .returned (.tuple #[.int .i64 0, .int .i64 (firstE (wineE v0 v1 s0 s1 c0 c1) (rateE a0 a1 g0 g1) (strE least))]) ∧ Below w.heap.size w w' := by
  go_enter Try.func38, Try.ntmps38
  go_wp2_with fail
  refine nameWorld (fun w' => w'.cell? ⟨w.heap.size, 0, none⟩ = some (.int .i64 v0) ∧ w'.cell? ⟨w.heap.size, 1, none⟩ = some (.int .i64 v1) ∧ w'.cell? ⟨w.heap.size, 2, none⟩ = some (.int .i64 s0) ∧ w'.cell? ⟨w.heap.size, 3, none⟩ = some (.int .i64 s1) ∧ w'.cell? ⟨w.heap.size, 4, none⟩ = some (.int .i64 c0) ∧ w'.cell? ⟨w.heap.size, 5, none⟩ = some (.int .i64 c1) ∧ w'.cell? ⟨w.heap.size + 1, 0, none⟩ = some (.int .i64 a0) ∧ w'.cell? ⟨w.heap.size + 1, 1, none⟩ = some (.int .i64 a1) ∧ w'.cell? ⟨w.heap.size + 1, 2, none⟩ = some (.int .i64 g0) ∧ w'.cell? ⟨w.heap.size + 1, 3, none⟩ = some (.int .i64 g1) ∧ Below w.heap.size w w') (by refine ⟨?_, ?_, ?_, ?_, ?_, ?_, ?_, ?_, ?_, ?_, ?_⟩ <;> first | (with_reducible assumption) | (go_grown; done) | (go_cell; done) | go_size | ((repeat first | (with_reducible assumption) | (with_reducible refine szA ?_) | (with_reducible refine szS ?_) | (with_reducible refine szD ?_)); done) | ((repeat first | (with_reducible assumption) | (with_reducible refine cvA ?_) | (with_reducible refine cvS ?_) | (with_reducible refine cvD ?_)); done) | (refine cv_of (v := .int .i64 0) ?_; go_cell; done) | (go_simp; done) | go_keep) (fun wc hc => ?_)
  obtain ⟨x0, x1, x2, x3, x4, x5, x6, x7, x8, x9, hB⟩ := hc
  go_region_held3 (fun w' => w'.cell? ⟨w.heap.size, 0, none⟩ = some (.int .i64 v0) ∧ w'.cell? ⟨w.heap.size, 1, none⟩ = some (.int .i64 v1) ∧ w'.cell? ⟨w.heap.size, 2, none⟩ = some (.int .i64 s0) ∧ w'.cell? ⟨w.heap.size, 3, none⟩ = some (.int .i64 s1) ∧ w'.cell? ⟨w.heap.size, 4, none⟩ = some (.int .i64 c0) ∧ w'.cell? ⟨w.heap.size, 5, none⟩ = some (.int .i64 c1) ∧ w'.cell? ⟨w.heap.size + 1, 0, none⟩ = some (.int .i64 a0) ∧ w'.cell? ⟨w.heap.size + 1, 1, none⟩ = some (.int .i64 a1) ∧ w'.cell? ⟨w.heap.size + 1, 2, none⟩ = some (.int .i64 g0) ∧ w'.cell? ⟨w.heap.size + 1, 3, none⟩ = some (.int .i64 g1) ∧ Below wc.heap.size wc w')
      (first | (with_reducible assumption) | (have hk2 := hk1.out; have hk3 := hk2.size; (try go_split_ands); refine pack10 ?_ x0 x1 x2 x3 x4 x5 x6 x7 x8 x9; (first | (with_reducible assumption) | (with_reducible exact Below.refl _ _) | ((with_reducible apply belowSeq hb1); (with_reducible assumption)) | ((with_reducible refine Below.alloc ?_ ?_ _) <;> first | (with_reducible assumption) | (exact Below.size (by with_reducible assumption))) | (go_grown; done))) | ((try go_split_ands); refine pack10 ?_ x0 x1 x2 x3 x4 x5 x6 x7 x8 x9; (first | (with_reducible assumption) | (with_reducible exact Below.refl _ _) | ((with_reducible apply belowSeq hb1); (with_reducible assumption)) | ((with_reducible refine Below.alloc ?_ ?_ _) <;> first | (with_reducible assumption) | (exact Below.size (by with_reducible assumption))) | (go_grown; done))))
      (first
        | (go_at_call 22; refine (checkWine_any _ _ _ _ _ _ _).mono ?_; rintro e w1 ⟨rfl, hb1⟩)
        | (go_at_call 24; refine (checkRate_any _ _ _ _ _).mono ?_; rintro e w1 ⟨rfl, hb1⟩)
        | (go_at_call 61; refine (strengthErr_any _ _).mono ?_; rintro e w1 ⟨rfl, rfl⟩)
        | (go_at_call 74; refine (first_any _ _ _ _).mono ?_; rintro e w1 ⟨rfl, rfl⟩))
  rename_i hS
  have hW := hS.2.2.2.2.2.2.2.2.2.2
  clear hS
  have y0 := keepC hW x0
  have y1 := keepC hW x1
  have y2 := keepC hW x2
  have y3 := keepC hW x3
  have y4 := keepC hW x4
  have y5 := keepC hW x5
  have y6 := keepC hW x6
  have y7 := keepC hW x7
  have y8 := keepC hW x8
  have y9 := keepC hW x9
  have hB2 := belowSeq hW hB
  clear hW hB x0 x1 x2 x3 x4 x5 x6 x7 x8 x9
  go_wp2
  exact bodyPost_ret (v := .tuple #[.int .i64 0, .int .i64 (firstE (wineE v0 v1 s0 s1 c0 c1) (rateE a0 a1 g0 g1) (strE least))]) (by simp [results, Try.results38, go_sem]) rfl ⟨rfl, hB2⟩
set_option maxHeartbeats 2000000 in
set_option maxRecDepth 100000 in
theorem safe_break (v0 v1 s0 s1 c0 c1 a0 a1 g0 g1 least : Int) (w : World) (h : (firstE (wineE v0 v1 s0 s1 c0 c1) (rateE a0 a1 g0 g1) (strE least) != 0) = false) (hl : s0 < least) :
    Calls Try.prog 38 #[.agg #[.int .i64 v0, .int .i64 v1, .int .i64 s0, .int .i64 s1, .int .i64 c0, .int .i64 c1], .agg #[.int .i64 a0, .int .i64 a1, .int .i64 g0, .int .i64 g1], .int .i64 least] w fun e w' => e = .returned (.tuple #[.int .i64 0, .int .i64 24]) ∧ Below w.heap.size w w' := by
  go_enter Try.func38, Try.ntmps38
  go_wp2_with fail
  refine nameWorld (fun w' => w'.cell? ⟨w.heap.size, 0, none⟩ = some (.int .i64 v0) ∧ w'.cell? ⟨w.heap.size, 1, none⟩ = some (.int .i64 v1) ∧ w'.cell? ⟨w.heap.size, 2, none⟩ = some (.int .i64 s0) ∧ w'.cell? ⟨w.heap.size, 3, none⟩ = some (.int .i64 s1) ∧ w'.cell? ⟨w.heap.size, 4, none⟩ = some (.int .i64 c0) ∧ w'.cell? ⟨w.heap.size, 5, none⟩ = some (.int .i64 c1) ∧ w'.cell? ⟨w.heap.size + 1, 0, none⟩ = some (.int .i64 a0) ∧ w'.cell? ⟨w.heap.size + 1, 1, none⟩ = some (.int .i64 a1) ∧ w'.cell? ⟨w.heap.size + 1, 2, none⟩ = some (.int .i64 g0) ∧ w'.cell? ⟨w.heap.size + 1, 3, none⟩ = some (.int .i64 g1) ∧ Below w.heap.size w w') (by refine ⟨?_, ?_, ?_, ?_, ?_, ?_, ?_, ?_, ?_, ?_, ?_⟩ <;> first | (with_reducible assumption) | (go_grown; done) | (go_cell; done) | go_size | ((repeat first | (with_reducible assumption) | (with_reducible refine szA ?_) | (with_reducible refine szS ?_) | (with_reducible refine szD ?_)); done) | ((repeat first | (with_reducible assumption) | (with_reducible refine cvA ?_) | (with_reducible refine cvS ?_) | (with_reducible refine cvD ?_)); done) | (refine cv_of (v := .int .i64 0) ?_; go_cell; done) | (go_simp; done) | go_keep) (fun wc hc => ?_)
  obtain ⟨x0, x1, x2, x3, x4, x5, x6, x7, x8, x9, hB⟩ := hc
  go_region_held3 (fun w' => w'.cell? ⟨w.heap.size, 0, none⟩ = some (.int .i64 v0) ∧ w'.cell? ⟨w.heap.size, 1, none⟩ = some (.int .i64 v1) ∧ w'.cell? ⟨w.heap.size, 2, none⟩ = some (.int .i64 s0) ∧ w'.cell? ⟨w.heap.size, 3, none⟩ = some (.int .i64 s1) ∧ w'.cell? ⟨w.heap.size, 4, none⟩ = some (.int .i64 c0) ∧ w'.cell? ⟨w.heap.size, 5, none⟩ = some (.int .i64 c1) ∧ w'.cell? ⟨w.heap.size + 1, 0, none⟩ = some (.int .i64 a0) ∧ w'.cell? ⟨w.heap.size + 1, 1, none⟩ = some (.int .i64 a1) ∧ w'.cell? ⟨w.heap.size + 1, 2, none⟩ = some (.int .i64 g0) ∧ w'.cell? ⟨w.heap.size + 1, 3, none⟩ = some (.int .i64 g1) ∧ Below wc.heap.size wc w')
      (first | (with_reducible assumption) | (have hk2 := hk1.out; have hk3 := hk2.size; (try go_split_ands); refine pack10 ?_ x0 x1 x2 x3 x4 x5 x6 x7 x8 x9; (first | (with_reducible assumption) | (with_reducible exact Below.refl _ _) | ((with_reducible apply belowSeq hb1); (with_reducible assumption)) | ((with_reducible refine Below.alloc ?_ ?_ _) <;> first | (with_reducible assumption) | (exact Below.size (by with_reducible assumption))) | (go_grown; done))) | ((try go_split_ands); refine pack10 ?_ x0 x1 x2 x3 x4 x5 x6 x7 x8 x9; (first | (with_reducible assumption) | (with_reducible exact Below.refl _ _) | ((with_reducible apply belowSeq hb1); (with_reducible assumption)) | ((with_reducible refine Below.alloc ?_ ?_ _) <;> first | (with_reducible assumption) | (exact Below.size (by with_reducible assumption))) | (go_grown; done))))
      (first
        | (go_at_call 22; refine (checkWine_any _ _ _ _ _ _ _).mono ?_; rintro e w1 ⟨rfl, hb1⟩)
        | (go_at_call 24; refine (checkRate_any _ _ _ _ _).mono ?_; rintro e w1 ⟨rfl, hb1⟩)
        | (go_at_call 61; refine (strengthErr_any _ _).mono ?_; rintro e w1 ⟨rfl, rfl⟩)
        | (go_at_call 74; refine (first_any _ _ _ _).mono ?_; rintro e w1 ⟨rfl, rfl⟩))
  rename_i hS
  have hW := hS.2.2.2.2.2.2.2.2.2.2
  clear hS
  have y0 := keepC hW x0
  have y1 := keepC hW x1
  have y2 := keepC hW x2
  have y3 := keepC hW x3
  have y4 := keepC hW x4
  have y5 := keepC hW x5
  have y6 := keepC hW x6
  have y7 := keepC hW x7
  have y8 := keepC hW x8
  have y9 := keepC hW x9
  have hB2 := belowSeq hW hB
  clear hW hB x0 x1 x2 x3 x4 x5 x6 x7 x8 x9
  go_wp2
  exact bodyPost_ret (v := .tuple #[.int .i64 0, .int .i64 24]) (by simp [results, Try.results38, go_sem]) rfl ⟨rfl, hB2⟩
set_option maxHeartbeats 2000000 in
set_option maxRecDepth 100000 in
theorem safe_fine (v0 v1 s0 s1 c0 c1 a0 a1 g0 g1 least : Int) (w : World) (n : Nat) (h : (firstE (wineE v0 v1 s0 s1 c0 c1) (rateE a0 a1 g0 g1) (strE least) != 0) = false) (hl : least ≤ s0) (hn : isSafe s0 a0 g1 least n) :
    Calls Try.prog 38 #[.agg #[.int .i64 v0, .int .i64 v1, .int .i64 s0, .int .i64 s1, .int .i64 c0, .int .i64 c1], .agg #[.int .i64 a0, .int .i64 a1, .int .i64 g0, .int .i64 g1], .int .i64 least] w fun e w' => e = .returned (.tuple #[.int .i64 n, .int .i64 0]) ∧ Below w.heap.size w w' := by
  have hz : firstE (wineE v0 v1 s0 s1 c0 c1) (rateE a0 a1 g0 g1) (strE least) = 0 := by simpa using h
  rw [firstE_zero, wineE_zero, rateE_zero, strE_zero] at hz
  obtain ⟨⟨⟨V0, V1, V2⟩, ⟨S0, S1, S2⟩, ⟨C0, C1, C2⟩⟩, ⟨⟨A0, A1, A2⟩, ⟨G0, G1, G2⟩⟩, L0, L1⟩ := hz
  go_enter Try.func38, Try.ntmps38
  go_wp2_with fail
  refine nameWorld (fun w' => w'.cell? ⟨w.heap.size, 0, none⟩ = some (.int .i64 v0) ∧ w'.cell? ⟨w.heap.size, 1, none⟩ = some (.int .i64 v1) ∧ w'.cell? ⟨w.heap.size, 2, none⟩ = some (.int .i64 s0) ∧ w'.cell? ⟨w.heap.size, 3, none⟩ = some (.int .i64 s1) ∧ w'.cell? ⟨w.heap.size, 4, none⟩ = some (.int .i64 c0) ∧ w'.cell? ⟨w.heap.size, 5, none⟩ = some (.int .i64 c1) ∧ w'.cell? ⟨w.heap.size + 1, 0, none⟩ = some (.int .i64 a0) ∧ w'.cell? ⟨w.heap.size + 1, 1, none⟩ = some (.int .i64 a1) ∧ w'.cell? ⟨w.heap.size + 1, 2, none⟩ = some (.int .i64 g0) ∧ w'.cell? ⟨w.heap.size + 1, 3, none⟩ = some (.int .i64 g1) ∧ Below w.heap.size w w') (by refine ⟨?_, ?_, ?_, ?_, ?_, ?_, ?_, ?_, ?_, ?_, ?_⟩ <;> first | (with_reducible assumption) | (go_grown; done) | (go_cell; done) | go_size | ((repeat first | (with_reducible assumption) | (with_reducible refine szA ?_) | (with_reducible refine szS ?_) | (with_reducible refine szD ?_)); done) | ((repeat first | (with_reducible assumption) | (with_reducible refine cvA ?_) | (with_reducible refine cvS ?_) | (with_reducible refine cvD ?_)); done) | (refine cv_of (v := .int .i64 0) ?_; go_cell; done) | (go_simp; done) | go_keep) (fun wc hc => ?_)
  obtain ⟨x0, x1, x2, x3, x4, x5, x6, x7, x8, x9, hB⟩ := hc
  go_region_held3 (fun w' => w'.cell? ⟨w.heap.size, 0, none⟩ = some (.int .i64 v0) ∧ w'.cell? ⟨w.heap.size, 1, none⟩ = some (.int .i64 v1) ∧ w'.cell? ⟨w.heap.size, 2, none⟩ = some (.int .i64 s0) ∧ w'.cell? ⟨w.heap.size, 3, none⟩ = some (.int .i64 s1) ∧ w'.cell? ⟨w.heap.size, 4, none⟩ = some (.int .i64 c0) ∧ w'.cell? ⟨w.heap.size, 5, none⟩ = some (.int .i64 c1) ∧ w'.cell? ⟨w.heap.size + 1, 0, none⟩ = some (.int .i64 a0) ∧ w'.cell? ⟨w.heap.size + 1, 1, none⟩ = some (.int .i64 a1) ∧ w'.cell? ⟨w.heap.size + 1, 2, none⟩ = some (.int .i64 g0) ∧ w'.cell? ⟨w.heap.size + 1, 3, none⟩ = some (.int .i64 g1) ∧ Below wc.heap.size wc w')
      (first | (with_reducible assumption) | (have hk2 := hk1.out; have hk3 := hk2.size; (try go_split_ands); refine pack10 ?_ x0 x1 x2 x3 x4 x5 x6 x7 x8 x9; (first | (with_reducible assumption) | (with_reducible exact Below.refl _ _) | ((with_reducible apply belowSeq hb1); (with_reducible assumption)) | ((with_reducible refine Below.alloc ?_ ?_ _) <;> first | (with_reducible assumption) | (exact Below.size (by with_reducible assumption))) | (go_grown; done))) | ((try go_split_ands); refine pack10 ?_ x0 x1 x2 x3 x4 x5 x6 x7 x8 x9; (first | (with_reducible assumption) | (with_reducible exact Below.refl _ _) | ((with_reducible apply belowSeq hb1); (with_reducible assumption)) | ((with_reducible refine Below.alloc ?_ ?_ _) <;> first | (with_reducible assumption) | (exact Below.size (by with_reducible assumption))) | (go_grown; done))))
      (first
        | (go_at_call 22; refine (checkWine_any _ _ _ _ _ _ _).mono ?_; rintro e w1 ⟨rfl, hb1⟩)
        | (go_at_call 24; refine (checkRate_any _ _ _ _ _).mono ?_; rintro e w1 ⟨rfl, hb1⟩)
        | (go_at_call 61; refine (strengthErr_any _ _).mono ?_; rintro e w1 ⟨rfl, rfl⟩)
        | (go_at_call 74; refine (first_any _ _ _ _).mono ?_; rintro e w1 ⟨rfl, rfl⟩))
  rename_i hS
  have hW := hS.2.2.2.2.2.2.2.2.2.2
  clear hS
  have y0 := keepC hW x0
  have y1 := keepC hW x1
  have y2 := keepC hW x2
  have y3 := keepC hW x3
  have y4 := keepC hW x4
  have y5 := keepC hW x5
  have y6 := keepC hW x6
  have y7 := keepC hW x7
  have y8 := keepC hW x8
  have y9 := keepC hW x9
  have hB2 := belowSeq hW hB
  clear hW hB x0 x1 x2 x3 x4 x5 x6 x7 x8 x9
  go_wp2_with fail
  go_loopw [9] (fun d wr => ∃ k : Nat, k ≤ n ∧ d = .int .i64 k ∧ wr.cell? ⟨w.heap.size, 0, none⟩ = some (.int .i64 v0) ∧ wr.cell? ⟨w.heap.size, 1, none⟩ = some (.int .i64 v1) ∧ wr.cell? ⟨w.heap.size, 2, none⟩ = some (.int .i64 s0) ∧ wr.cell? ⟨w.heap.size, 3, none⟩ = some (.int .i64 s1) ∧ wr.cell? ⟨w.heap.size, 4, none⟩ = some (.int .i64 c0) ∧ wr.cell? ⟨w.heap.size, 5, none⟩ = some (.int .i64 c1) ∧ wr.cell? ⟨w.heap.size + 1, 0, none⟩ = some (.int .i64 a0) ∧ wr.cell? ⟨w.heap.size + 1, 1, none⟩ = some (.int .i64 a1) ∧ wr.cell? ⟨w.heap.size + 1, 2, none⟩ = some (.int .i64 g0) ∧ wr.cell? ⟨w.heap.size + 1, 3, none⟩ = some (.int .i64 g1) ∧ Below w.heap.size w wr)
    (fun d _ => 400 - (intOf d).toNat)
  case atStart => exact ⟨0, Nat.zero_le _, rfl, y0, y1, y2, y3, y4, y5, y6, y7, y8, y9, hB2⟩
  case round =>
    clear hB2 y0 y1 y2 y3 y4 y5 y6 y7 y8 y9
    obtain ⟨k, hk, rfl, x0, x1, x2, x3, x4, x5, x6, x7, x8, x9, hB⟩ := hrel
    have u0 : IntKind.i64.wrap ((k : Int) + 1) = (k : Int) + 1 := IntWalk.i64_in _ (by have := hn.1; omega)
    have hS1 := Lib.hid (fun (w : World) (hk : (k : Int) < 365) => strength_any v0 v1 s0 s1 c0 c1 a0 a1 g0 g1 ((k : Int) + 1) w (by omega) (by omega) (by omega) (by omega) (by omega) (by omega) (by omega) (by omega) (by omega) (by omega) (by omega) (by omega) (by omega) (by omega))
    have hfd := field_lo
    by_cases c : k < n
    · have g : least ≤ fl (s0 * lft g1 ((k : Int) + 1)) (lft a0 ((k : Int) + 1)) := hn.2.1 k c
      have hlt : (k : Int) < 365 := by have := hn.1; omega
      go_wp2_with (go_at_call 82; refine ((hS1.out _ (by assumption))).mono ?_; rintro e w1 ⟨rfl, hb1⟩; have z0 := keepC hb1 x0; have z1 := keepC hb1 x1; have z2 := keepC hb1 x2; have z3 := keepC hb1 x3; have z4 := keepC hb1 x4; have z5 := keepC hb1 x5; have z6 := keepC hb1 x6; have z7 := keepC hb1 x7; have z8 := keepC hb1 x8; have z9 := keepC hb1 x9; have hB2 := belowSeq hb1 hB)
      go_roundw
      case rel => exact ⟨k + 1, by omega, by go_num, z0, z1, z2, z3, z4, z5, z6, z7, z8, z9, hB2⟩
      case measure => simp [intOf]; omega
    · have e : k = n := by omega
      subst e
      by_cases q : k = 365
      · have hge : ¬ (k : Int) < 365 := by omega
        have Q := Lib.hid q
        clear q
        go_wp2
        exact bodyPost_ret (v := .tuple #[.int .i64 k, .int .i64 0]) (by simp [results, Try.results38, go_sem]) rfl ⟨rfl, hB⟩
      · have hlt : (k : Int) < 365 := by have := hn.1; omega
        have g : fl (s0 * lft g1 ((k : Int) + 1)) (lft a0 ((k : Int) + 1)) < least := hn.2.2.resolve_left q
        go_wp2_with (go_at_call 82; refine ((hS1.out _ (by assumption))).mono ?_; rintro e w1 ⟨rfl, hb1⟩; have z0 := keepC hb1 x0; have z1 := keepC hb1 x1; have z2 := keepC hb1 x2; have z3 := keepC hb1 x3; have z4 := keepC hb1 x4; have z5 := keepC hb1 x5; have z6 := keepC hb1 x6; have z7 := keepC hb1 x7; have z8 := keepC hb1 x8; have z9 := keepC hb1 x9; have hB2 := belowSeq hb1 hB)
        exact bodyPost_ret (v := .tuple #[.int .i64 k, .int .i64 0]) (by simp [results, Try.results38, go_sem]) rfl ⟨rfl, hB2⟩
end Go.Proofs.Ytcpkoapkmjcigaa
