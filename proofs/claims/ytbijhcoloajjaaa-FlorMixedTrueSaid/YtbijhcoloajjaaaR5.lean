/- Contracts of the reference of chapter 3: StrengthErr, needed, SpiritFor. -/
import Derived.Test.YtbijhcoloajjaaaE3
namespace Go.Proofs.Ytbijhcoloajjaaa
open Go.RowKit

def strE (n : Int) : Int := if inB n 0 10000 then 0 else 2
theorem strE_zero {n : Int} : strE n = 0 ↔ 0 ≤ n ∧ n ≤ 10000 := by
  unfold strE
  constructor
  · intro h
    split at h
    · rename_i hc; simpa [inB_iff] using hc
    · omega
  · intro h; rw [if_pos (by simpa [inB_iff] using h)]
theorem strengthErr_any (n : Int) (w : World) :
    Calls Try.prog 21 #[.int .i64 n] w fun e w' => e = .returned (.int .i64 (strE n)) ∧ w = w' := by
  cases h : inB n 0 10000
  all_goals
    go_enter Try.func21, Try.ntmps21
    go_wp2_with (go_at_call 14; refine (within_any _ _ _ _).mono ?_; rintro e w1 ⟨rfl, rfl⟩)
    go_ret
    exact ⟨by simp [strE, h], rfl⟩
def ndE (volume own strength target : Int) : Int := if target ≤ own then 0 else ce (volume * (target - own)) (strength - target)
theorem needed_any (volume own strength target : Int) (w : World) (v0 : 0 ≤ volume) (v1 : volume ≤ 100000) (o0 : 0 ≤ own) (t1 : target < strength) (s1 : strength ≤ 10000) (t0 : 0 ≤ target) :
    Calls Try.prog 50 #[.int .i64 volume, .int .i64 own, .int .i64 strength, .int .i64 target] w fun e w' => e = .returned (.int .i64 (ndE volume own strength target)) ∧ w = w' := by
  by_cases h : target ≤ own
  · go_enter Try.func50, Try.ntmps50
    go_wp2
    go_ret
    exact ⟨ret_int (by rw [ndE, if_pos (by omega)]), rfl⟩
  · have u0 : IntKind.i64.wrap (target - own) = target - own := IntWalk.i64_in _ (by omega)
    obtain ⟨P0, P1⟩ := mul_bd volume (target - own) 100000 10000 v0 v1 (by omega) (by omega)
    have u1 : IntKind.i64.wrap (volume * (target - own)) = volume * (target - own) := IntWalk.i64_in _ (by omega)
    have u2 : IntKind.i64.wrap (strength - target) = strength - target := IntWalk.i64_in _ (by omega)
    have C := Lib.hid (fun w => ce_any (volume * (target - own)) (strength - target) w (by omega) (by omega) (by omega) (by omega))
    go_enter Try.func50, Try.ntmps50
    go_wp2_with (go_at_call 61; refine (C.out _).mono ?_; rintro e w1 ⟨rfl, rfl⟩)
    go_ret
    exact ⟨ret_int (by rw [ndE, if_neg (by omega)]), rfl⟩
set_option maxHeartbeats 1000000 in
theorem spirit_wrong (v0 v1 s0 s1 c0 c1 st tg : Int) (w : World) (h : (firstE (wineE v0 v1 s0 s1 c0 c1) (strE st) (strE tg) != 0) = true) :
    Calls Try.prog 20 #[.agg #[.int .i64 v0, .int .i64 v1, .int .i64 s0, .int .i64 s1, .int .i64 c0, .int .i64 c1], .int .i64 st, .int .i64 tg] w fun e w' => e = .returned (.tuple #[.agg #[.int .i64 0, .int .i64 0], .int .i64 (firstE (wineE v0 v1 s0 s1 c0 c1) (strE st) (strE tg))]) ∧ Below w.heap.size w w' := by
  go_enter Try.func20, Try.ntmps20
  go_wp2_with (first | (go_at_call 12; refine (checkWine_any _ _ _ _ _ _ _).mono ?_; rintro e w1 ⟨rfl, hb1⟩; have X0 : w1.cell? ⟨w.heap.size, 0, none⟩ = some (.int .i64 v0) := keepC hb1 (by go_cell); have X1 : w1.cell? ⟨w.heap.size, 1, none⟩ = some (.int .i64 v1) := keepC hb1 (by go_cell); have X2 : w1.cell? ⟨w.heap.size, 2, none⟩ = some (.int .i64 s0) := keepC hb1 (by go_cell); have X3 : w1.cell? ⟨w.heap.size, 3, none⟩ = some (.int .i64 s1) := keepC hb1 (by go_cell); have X4 : w1.cell? ⟨w.heap.size, 4, none⟩ = some (.int .i64 c0) := keepC hb1 (by go_cell); have X5 : w1.cell? ⟨w.heap.size, 5, none⟩ = some (.int .i64 c1) := keepC hb1 (by go_cell); have n0 := newHeld hb1 0 _ rfl; rw [World.size_alloc] at n0; have R0 := cv_of n0.1; have Z0 := n0.2; clear n0; have n1 := newHeld hb1 1 _ rfl; rw [World.size_alloc] at n1; have R1 := cv_of n1.1; have Z1 := n1.2; clear n1; have hB2 : Below w.heap.size w w1 := belowSeq hb1 (by go_grown); have hq1 : w.heap.size < w1.heap.size := World.block_lt_of_cell? w1 _ X0; have hq2 : w.heap.size + 1 < w1.heap.size := World.block_lt_of_cell? w1 _ R0; clear hb1; have rr0 : ∀ x0 : Value, (w1.setCell ⟨w.heap.size + 1, 0, none⟩ x0).cell? ⟨w.heap.size + 1, 0, none⟩ = some x0 := fun _ => World.cell?_setCell_same _ _ _ (R0); have rr1 : ∀ x0 x1 : Value, ((w1.setCell ⟨w.heap.size + 1, 0, none⟩ x0).setCell ⟨w.heap.size + 1, 1, none⟩ x1).cell? ⟨w.heap.size + 1, 1, none⟩ = some x1 := fun _ _ => World.cell?_setCell_same _ _ _ (cvS (R1))) | (go_at_call 21; refine (strengthErr_any _ _).mono ?_; rintro e w1 ⟨rfl, rfl⟩) | (go_at_call 39; refine (first_any _ _ _ _).mono ?_; rintro e w1 ⟨rfl, rfl⟩))
  exact bodyPost_ret (v := .tuple #[.agg #[.int .i64 0, .int .i64 0], .int .i64 (firstE (wineE v0 v1 s0 s1 c0 c1) (strE st) (strE tg))]) (by simp [results, Try.results20, go_sem, rr0, rr1]) rfl ⟨rfl, by go_grown⟩
set_option maxHeartbeats 1000000 in
theorem spirit_zero (v0 v1 s0 s1 c0 c1 st tg : Int) (w : World) (h : (firstE (wineE v0 v1 s0 s1 c0 c1) (strE st) (strE tg) != 0) = false) (hl : st ≤ tg) :
    Calls Try.prog 20 #[.agg #[.int .i64 v0, .int .i64 v1, .int .i64 s0, .int .i64 s1, .int .i64 c0, .int .i64 c1], .int .i64 st, .int .i64 tg] w fun e w' => e = .returned (.tuple #[.agg #[.int .i64 0, .int .i64 0], .int .i64 11]) ∧ Below w.heap.size w w' := by
  go_enter Try.func20, Try.ntmps20
  go_wp2_with (first | (go_at_call 12; refine (checkWine_any _ _ _ _ _ _ _).mono ?_; rintro e w1 ⟨rfl, hb1⟩; have X0 : w1.cell? ⟨w.heap.size, 0, none⟩ = some (.int .i64 v0) := keepC hb1 (by go_cell); have X1 : w1.cell? ⟨w.heap.size, 1, none⟩ = some (.int .i64 v1) := keepC hb1 (by go_cell); have X2 : w1.cell? ⟨w.heap.size, 2, none⟩ = some (.int .i64 s0) := keepC hb1 (by go_cell); have X3 : w1.cell? ⟨w.heap.size, 3, none⟩ = some (.int .i64 s1) := keepC hb1 (by go_cell); have X4 : w1.cell? ⟨w.heap.size, 4, none⟩ = some (.int .i64 c0) := keepC hb1 (by go_cell); have X5 : w1.cell? ⟨w.heap.size, 5, none⟩ = some (.int .i64 c1) := keepC hb1 (by go_cell); have n0 := newHeld hb1 0 _ rfl; rw [World.size_alloc] at n0; have R0 := cv_of n0.1; have Z0 := n0.2; clear n0; have n1 := newHeld hb1 1 _ rfl; rw [World.size_alloc] at n1; have R1 := cv_of n1.1; have Z1 := n1.2; clear n1; have hB2 : Below w.heap.size w w1 := belowSeq hb1 (by go_grown); have hq1 : w.heap.size < w1.heap.size := World.block_lt_of_cell? w1 _ X0; have hq2 : w.heap.size + 1 < w1.heap.size := World.block_lt_of_cell? w1 _ R0; clear hb1; have rr0 : ∀ x0 : Value, (w1.setCell ⟨w.heap.size + 1, 0, none⟩ x0).cell? ⟨w.heap.size + 1, 0, none⟩ = some x0 := fun _ => World.cell?_setCell_same _ _ _ (R0); have rr1 : ∀ x0 x1 : Value, ((w1.setCell ⟨w.heap.size + 1, 0, none⟩ x0).setCell ⟨w.heap.size + 1, 1, none⟩ x1).cell? ⟨w.heap.size + 1, 1, none⟩ = some x1 := fun _ _ => World.cell?_setCell_same _ _ _ (cvS (R1))) | (go_at_call 21; refine (strengthErr_any _ _).mono ?_; rintro e w1 ⟨rfl, rfl⟩) | (go_at_call 39; refine (first_any _ _ _ _).mono ?_; rintro e w1 ⟨rfl, rfl⟩))
  exact bodyPost_ret (v := .tuple #[.agg #[.int .i64 0, .int .i64 0], .int .i64 11]) (by simp [results, Try.results20, go_sem, rr0, rr1]) rfl ⟨rfl, by go_grown⟩
set_option maxHeartbeats 1000000 in
theorem spirit_large (v0 v1 s0 s1 c0 c1 st tg : Int) (w : World) (h : (firstE (wineE v0 v1 s0 s1 c0 c1) (strE st) (strE tg) != 0) = false) (hl : tg < st) (hn : 100000 < ndE v1 s0 st tg) :
    Calls Try.prog 20 #[.agg #[.int .i64 v0, .int .i64 v1, .int .i64 s0, .int .i64 s1, .int .i64 c0, .int .i64 c1], .int .i64 st, .int .i64 tg] w fun e w' => e = .returned (.tuple #[.agg #[.int .i64 0, .int .i64 0], .int .i64 8]) ∧ Below w.heap.size w w' := by
  have hz : firstE (wineE v0 v1 s0 s1 c0 c1) (strE st) (strE tg) = 0 := by simpa using h
  rw [firstE_zero, wineE_zero, strE_zero, strE_zero] at hz
  obtain ⟨⟨⟨i0, i1, i2⟩, ⟨i3, i4, i5⟩, -⟩, ⟨i6, i7⟩, ⟨i8, i9⟩⟩ := hz
  go_enter Try.func20, Try.ntmps20
  go_upto_region 6 with (first | (go_at_call 12; refine (checkWine_any _ _ _ _ _ _ _).mono ?_; rintro e w1 ⟨rfl, hb1⟩; have X0 : w1.cell? ⟨w.heap.size, 0, none⟩ = some (.int .i64 v0) := keepC hb1 (by go_cell); have X1 : w1.cell? ⟨w.heap.size, 1, none⟩ = some (.int .i64 v1) := keepC hb1 (by go_cell); have X2 : w1.cell? ⟨w.heap.size, 2, none⟩ = some (.int .i64 s0) := keepC hb1 (by go_cell); have X3 : w1.cell? ⟨w.heap.size, 3, none⟩ = some (.int .i64 s1) := keepC hb1 (by go_cell); have X4 : w1.cell? ⟨w.heap.size, 4, none⟩ = some (.int .i64 c0) := keepC hb1 (by go_cell); have X5 : w1.cell? ⟨w.heap.size, 5, none⟩ = some (.int .i64 c1) := keepC hb1 (by go_cell); have n0 := newHeld hb1 0 _ rfl; rw [World.size_alloc] at n0; have R0 := cv_of n0.1; have Z0 := n0.2; clear n0; have n1 := newHeld hb1 1 _ rfl; rw [World.size_alloc] at n1; have R1 := cv_of n1.1; have Z1 := n1.2; clear n1; have hB2 : Below w.heap.size w w1 := belowSeq hb1 (by go_grown); have hq1 : w.heap.size < w1.heap.size := World.block_lt_of_cell? w1 _ X0; have hq2 : w.heap.size + 1 < w1.heap.size := World.block_lt_of_cell? w1 _ R0; clear hb1; have rr0 : ∀ x0 : Value, (w1.setCell ⟨w.heap.size + 1, 0, none⟩ x0).cell? ⟨w.heap.size + 1, 0, none⟩ = some x0 := fun _ => World.cell?_setCell_same _ _ _ (R0); have rr1 : ∀ x0 x1 : Value, ((w1.setCell ⟨w.heap.size + 1, 0, none⟩ x0).setCell ⟨w.heap.size + 1, 1, none⟩ x1).cell? ⟨w.heap.size + 1, 1, none⟩ = some x1 := fun _ _ => World.cell?_setCell_same _ _ _ (cvS (R1))) | (go_at_call 21; refine (strengthErr_any _ _).mono ?_; rintro e w1 ⟨rfl, rfl⟩) | (go_at_call 39; refine (first_any _ _ _ _).mono ?_; rintro e w1 ⟨rfl, rfl⟩))
  go_cut [9] (fun s9 wx => ∃ b9 : Nat, s9 = .pointer (some ⟨b9, 0, none⟩) ∧ w.heap.size + 1 < b9 ∧ wx.cell? ⟨b9, 0, none⟩ = some (.int .i64 (ndE v0 s1 st tg)) ∧ wx.cell? ⟨b9, 1, none⟩ = some (.int .i64 (ndE v1 s0 st tg)) ∧ wx.cell? ⟨w.heap.size + 1, 0, none⟩ = some (cv wx ⟨w.heap.size + 1, 0, none⟩) ∧ wx.cell? ⟨w.heap.size + 1, 1, none⟩ = some (cv wx ⟨w.heap.size + 1, 1, none⟩) ∧ wx.frozen? ⟨w.heap.size + 1, 0, none⟩ = false ∧ wx.frozen? ⟨w.heap.size + 1, 1, none⟩ = false ∧ Below w.heap.size w wx)
  case first =>
    refine nameWorld (fun w' => w'.cell? ⟨w.heap.size, 0, none⟩ = some (.int .i64 v0) ∧ w'.cell? ⟨w.heap.size, 1, none⟩ = some (.int .i64 v1) ∧ w'.cell? ⟨w.heap.size, 2, none⟩ = some (.int .i64 s0) ∧ w'.cell? ⟨w.heap.size, 3, none⟩ = some (.int .i64 s1) ∧ w'.cell? ⟨w.heap.size + 1, 0, none⟩ = some (cv w' ⟨w.heap.size + 1, 0, none⟩) ∧ w'.cell? ⟨w.heap.size + 1, 1, none⟩ = some (cv w' ⟨w.heap.size + 1, 1, none⟩) ∧ w'.frozen? ⟨w.heap.size + 1, 0, none⟩ = false ∧ w'.frozen? ⟨w.heap.size + 1, 1, none⟩ = false ∧ Below w.heap.size w w' ∧ w.heap.size + 1 < w'.heap.size) (by refine ⟨?_, ?_, ?_, ?_, ?_, ?_, ?_, ?_, ?_, ?_⟩ <;> first | (with_reducible assumption) | (go_grown; done) | (go_cell; done) | go_size | ((repeat first | (with_reducible assumption) | (with_reducible refine szA ?_) | (with_reducible refine szS ?_) | (with_reducible refine szD ?_)); done) | ((repeat first | (with_reducible assumption) | (with_reducible refine cvA ?_) | (with_reducible refine cvS ?_) | (with_reducible refine cvD ?_)); done) | (refine cv_of (v := .int .i64 0) ?_; go_cell; done) | (go_simp; done) | go_keep) (fun wc hc => ?_)
    obtain ⟨x0, x1, x2, x3, r0, r1, z0, z1, hB, hz⟩ := hc
    have hr := Lib.hid (And.intro r0 (And.intro r1 (And.intro z0 z1)))
    clear X0 X1 X2 X3 X4 X5 rr0 rr1 R0 R1 Z0 Z1 hB2 r0 r1 z0 z1
    go_region_held3 (fun w' => w'.cell? ⟨w.heap.size, 0, none⟩ = some (.int .i64 v0) ∧ w'.cell? ⟨w.heap.size, 1, none⟩ = some (.int .i64 v1) ∧ w'.cell? ⟨w.heap.size, 2, none⟩ = some (.int .i64 s0) ∧ w'.cell? ⟨w.heap.size, 3, none⟩ = some (.int .i64 s1) ∧ Below wc.heap.size wc w')
        (first | (with_reducible assumption) | (have hk2 := hk1.out; have hk3 := hk2.size; (try go_split_ands); refine pack4 ?_ x0 x1 x2 x3; (first | (with_reducible assumption) | (with_reducible exact Below.refl _ _) | ((with_reducible apply belowSeq hb1); (with_reducible assumption)) | ((with_reducible refine Below.alloc ?_ ?_ _) <;> first | (with_reducible assumption) | (exact Below.size (by with_reducible assumption))) | (go_grown; done))) | ((try go_split_ands); refine pack4 ?_ x0 x1 x2 x3; (first | (with_reducible assumption) | (with_reducible exact Below.refl _ _) | ((with_reducible apply belowSeq hb1); (with_reducible assumption)) | ((with_reducible refine Below.alloc ?_ ?_ _) <;> first | (with_reducible assumption) | (exact Below.size (by with_reducible assumption))) | (go_grown; done))))
        (first
          | (go_at_call 50; refine (needed_any _ _ _ _ _ (by omega) (by omega) (by omega) (by omega) (by omega) (by omega)).mono ?_; rintro e w1 ⟨rfl, rfl⟩))
    all_goals (rename_i hS; have hX := hS.2.2.2.2; clear hS; obtain ⟨r0, r1, z0, z1⟩ := hr.out)
    all_goals (go_wp2_with fail; go_meet)
    all_goals (refine ⟨_, rfl, ?_, ?_, ?_, ?_, ?_, ?_, ?_, ?_⟩)
    all_goals first | (show _ < _; omega) | (with_reducible apply keepV hX r0) | (with_reducible apply keepV hX r1) | (with_reducible apply keepF hX r0 z0) | (with_reducible apply keepF hX r1 z1) | (with_reducible apply belowSeq hX hB) | (go_cell; done)
  case rest =>
    obtain ⟨b9, rfl, hb9, o0, o1, r0, r1, z0, z1, hB⟩ := hcut
    clear X0 X1 X2 X3 X4 X5 rr0 rr1 R0 R1 Z0 Z1 hB2
    have rr0 := fun (x0 : Value) => World.cell?_setCell_same _ _ x0 r0
    have rr1 := fun (x0 x1 : Value) => World.cell?_setCell_same _ _ x1 (cvS (p := ⟨w.heap.size + 1, 0, none⟩) (v := x0) r1)
    go_wp2
    exact bodyPost_ret (v := .tuple #[.agg #[.int .i64 0, .int .i64 0], .int .i64 8]) (by simp [results, Try.results20, go_sem, rr0, rr1]) rfl ⟨rfl, by go_grown⟩
set_option maxHeartbeats 1000000 in
theorem spirit_fine (v0 v1 s0 s1 c0 c1 st tg : Int) (w : World) (h : (firstE (wineE v0 v1 s0 s1 c0 c1) (strE st) (strE tg) != 0) = false) (hl : tg < st) (hn : ndE v1 s0 st tg ≤ 100000) :
    Calls Try.prog 20 #[.agg #[.int .i64 v0, .int .i64 v1, .int .i64 s0, .int .i64 s1, .int .i64 c0, .int .i64 c1], .int .i64 st, .int .i64 tg] w fun e w' => e = .returned (.tuple #[.agg #[.int .i64 (ndE v0 s1 st tg), .int .i64 (ndE v1 s0 st tg)], .int .i64 0]) ∧ Below w.heap.size w w' := by
  have hz : firstE (wineE v0 v1 s0 s1 c0 c1) (strE st) (strE tg) = 0 := by simpa using h
  rw [firstE_zero, wineE_zero, strE_zero, strE_zero] at hz
  obtain ⟨⟨⟨i0, i1, i2⟩, ⟨i3, i4, i5⟩, -⟩, ⟨i6, i7⟩, ⟨i8, i9⟩⟩ := hz
  go_enter Try.func20, Try.ntmps20
  go_upto_region 6 with (first | (go_at_call 12; refine (checkWine_any _ _ _ _ _ _ _).mono ?_; rintro e w1 ⟨rfl, hb1⟩; have X0 : w1.cell? ⟨w.heap.size, 0, none⟩ = some (.int .i64 v0) := keepC hb1 (by go_cell); have X1 : w1.cell? ⟨w.heap.size, 1, none⟩ = some (.int .i64 v1) := keepC hb1 (by go_cell); have X2 : w1.cell? ⟨w.heap.size, 2, none⟩ = some (.int .i64 s0) := keepC hb1 (by go_cell); have X3 : w1.cell? ⟨w.heap.size, 3, none⟩ = some (.int .i64 s1) := keepC hb1 (by go_cell); have X4 : w1.cell? ⟨w.heap.size, 4, none⟩ = some (.int .i64 c0) := keepC hb1 (by go_cell); have X5 : w1.cell? ⟨w.heap.size, 5, none⟩ = some (.int .i64 c1) := keepC hb1 (by go_cell); have n0 := newHeld hb1 0 _ rfl; rw [World.size_alloc] at n0; have R0 := cv_of n0.1; have Z0 := n0.2; clear n0; have n1 := newHeld hb1 1 _ rfl; rw [World.size_alloc] at n1; have R1 := cv_of n1.1; have Z1 := n1.2; clear n1; have hB2 : Below w.heap.size w w1 := belowSeq hb1 (by go_grown); have hq1 : w.heap.size < w1.heap.size := World.block_lt_of_cell? w1 _ X0; have hq2 : w.heap.size + 1 < w1.heap.size := World.block_lt_of_cell? w1 _ R0; clear hb1; have rr0 : ∀ x0 : Value, (w1.setCell ⟨w.heap.size + 1, 0, none⟩ x0).cell? ⟨w.heap.size + 1, 0, none⟩ = some x0 := fun _ => World.cell?_setCell_same _ _ _ (R0); have rr1 : ∀ x0 x1 : Value, ((w1.setCell ⟨w.heap.size + 1, 0, none⟩ x0).setCell ⟨w.heap.size + 1, 1, none⟩ x1).cell? ⟨w.heap.size + 1, 1, none⟩ = some x1 := fun _ _ => World.cell?_setCell_same _ _ _ (cvS (R1))) | (go_at_call 21; refine (strengthErr_any _ _).mono ?_; rintro e w1 ⟨rfl, rfl⟩) | (go_at_call 39; refine (first_any _ _ _ _).mono ?_; rintro e w1 ⟨rfl, rfl⟩))
  go_cut [9] (fun s9 wx => ∃ b9 : Nat, s9 = .pointer (some ⟨b9, 0, none⟩) ∧ w.heap.size + 1 < b9 ∧ wx.cell? ⟨b9, 0, none⟩ = some (.int .i64 (ndE v0 s1 st tg)) ∧ wx.cell? ⟨b9, 1, none⟩ = some (.int .i64 (ndE v1 s0 st tg)) ∧ wx.cell? ⟨w.heap.size + 1, 0, none⟩ = some (cv wx ⟨w.heap.size + 1, 0, none⟩) ∧ wx.cell? ⟨w.heap.size + 1, 1, none⟩ = some (cv wx ⟨w.heap.size + 1, 1, none⟩) ∧ wx.frozen? ⟨w.heap.size + 1, 0, none⟩ = false ∧ wx.frozen? ⟨w.heap.size + 1, 1, none⟩ = false ∧ Below w.heap.size w wx)
  case first =>
    refine nameWorld (fun w' => w'.cell? ⟨w.heap.size, 0, none⟩ = some (.int .i64 v0) ∧ w'.cell? ⟨w.heap.size, 1, none⟩ = some (.int .i64 v1) ∧ w'.cell? ⟨w.heap.size, 2, none⟩ = some (.int .i64 s0) ∧ w'.cell? ⟨w.heap.size, 3, none⟩ = some (.int .i64 s1) ∧ w'.cell? ⟨w.heap.size + 1, 0, none⟩ = some (cv w' ⟨w.heap.size + 1, 0, none⟩) ∧ w'.cell? ⟨w.heap.size + 1, 1, none⟩ = some (cv w' ⟨w.heap.size + 1, 1, none⟩) ∧ w'.frozen? ⟨w.heap.size + 1, 0, none⟩ = false ∧ w'.frozen? ⟨w.heap.size + 1, 1, none⟩ = false ∧ Below w.heap.size w w' ∧ w.heap.size + 1 < w'.heap.size) (by refine ⟨?_, ?_, ?_, ?_, ?_, ?_, ?_, ?_, ?_, ?_⟩ <;> first | (with_reducible assumption) | (go_grown; done) | (go_cell; done) | go_size | ((repeat first | (with_reducible assumption) | (with_reducible refine szA ?_) | (with_reducible refine szS ?_) | (with_reducible refine szD ?_)); done) | ((repeat first | (with_reducible assumption) | (with_reducible refine cvA ?_) | (with_reducible refine cvS ?_) | (with_reducible refine cvD ?_)); done) | (refine cv_of (v := .int .i64 0) ?_; go_cell; done) | (go_simp; done) | go_keep) (fun wc hc => ?_)
    obtain ⟨x0, x1, x2, x3, r0, r1, z0, z1, hB, hz⟩ := hc
    have hr := Lib.hid (And.intro r0 (And.intro r1 (And.intro z0 z1)))
    clear X0 X1 X2 X3 X4 X5 rr0 rr1 R0 R1 Z0 Z1 hB2 r0 r1 z0 z1
    go_region_held3 (fun w' => w'.cell? ⟨w.heap.size, 0, none⟩ = some (.int .i64 v0) ∧ w'.cell? ⟨w.heap.size, 1, none⟩ = some (.int .i64 v1) ∧ w'.cell? ⟨w.heap.size, 2, none⟩ = some (.int .i64 s0) ∧ w'.cell? ⟨w.heap.size, 3, none⟩ = some (.int .i64 s1) ∧ Below wc.heap.size wc w')
        (first | (with_reducible assumption) | (have hk2 := hk1.out; have hk3 := hk2.size; (try go_split_ands); refine pack4 ?_ x0 x1 x2 x3; (first | (with_reducible assumption) | (with_reducible exact Below.refl _ _) | ((with_reducible apply belowSeq hb1); (with_reducible assumption)) | ((with_reducible refine Below.alloc ?_ ?_ _) <;> first | (with_reducible assumption) | (exact Below.size (by with_reducible assumption))) | (go_grown; done))) | ((try go_split_ands); refine pack4 ?_ x0 x1 x2 x3; (first | (with_reducible assumption) | (with_reducible exact Below.refl _ _) | ((with_reducible apply belowSeq hb1); (with_reducible assumption)) | ((with_reducible refine Below.alloc ?_ ?_ _) <;> first | (with_reducible assumption) | (exact Below.size (by with_reducible assumption))) | (go_grown; done))))
        (first
          | (go_at_call 50; refine (needed_any _ _ _ _ _ (by omega) (by omega) (by omega) (by omega) (by omega) (by omega)).mono ?_; rintro e w1 ⟨rfl, rfl⟩))
    all_goals (rename_i hS; have hX := hS.2.2.2.2; clear hS; obtain ⟨r0, r1, z0, z1⟩ := hr.out)
    all_goals (go_wp2_with fail; go_meet)
    all_goals (refine ⟨_, rfl, ?_, ?_, ?_, ?_, ?_, ?_, ?_, ?_⟩)
    all_goals first | (show _ < _; omega) | (with_reducible apply keepV hX r0) | (with_reducible apply keepV hX r1) | (with_reducible apply keepF hX r0 z0) | (with_reducible apply keepF hX r1 z1) | (with_reducible apply belowSeq hX hB) | (go_cell; done)
  case rest =>
    obtain ⟨b9, rfl, hb9, o0, o1, r0, r1, z0, z1, hB⟩ := hcut
    clear X0 X1 X2 X3 X4 X5 rr0 rr1 R0 R1 Z0 Z1 hB2
    have rr0 := fun (x0 : Value) => World.cell?_setCell_same _ _ x0 r0
    have rr1 := fun (x0 x1 : Value) => World.cell?_setCell_same _ _ x1 (cvS (p := ⟨w.heap.size + 1, 0, none⟩) (v := x0) r1)
    go_wp2
    exact bodyPost_ret (v := .tuple #[.agg #[.int .i64 (ndE v0 s1 st tg), .int .i64 (ndE v1 s0 st tg)], .int .i64 0]) (by simp [results, Try.results20, go_sem, rr0, rr1]) rfl ⟨rfl, by go_grown⟩
end Go.Proofs.Ytbijhcoloajjaaa
