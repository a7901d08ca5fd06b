/- Contract of the reference of chapter 3: Drawn. -/
import Derived.Test.YtcpkoapkmjcigaaR2
namespace Go.Proofs.Ytcpkoapkmjcigaa
open Go.RowKit

theorem firstE_zero {a b c : Int} : firstE a b c = 0 ↔ a = 0 ∧ b = 0 ∧ c = 0 := by
  unfold firstE
  by_cases ha : a = 0 <;> by_cases hb : b = 0 <;> simp [ha, hb]
theorem rangeE_zero {lo hi most : Int} : rangeE lo hi most = 0 ↔ 0 ≤ lo ∧ lo ≤ hi ∧ hi ≤ most := by
  unfold rangeE
  constructor
  · intro h
    split at h
    · rename_i hc
      simp only [Bool.and_eq_true, inB_iff] at hc
      split at h
      · omega
      · omega
    · omega
  · intro h
    rw [if_pos (by simp only [Bool.and_eq_true, inB_iff]; omega), if_neg (by omega)]
theorem wineE_zero {v0 v1 s0 s1 c0 c1 : Int} : wineE v0 v1 s0 s1 c0 c1 = 0 ↔ (0 ≤ v0 ∧ v0 ≤ v1 ∧ v1 ≤ 100000) ∧ (0 ≤ s0 ∧ s0 ≤ s1 ∧ s1 ≤ 10000) ∧ (0 ≤ c0 ∧ c0 ≤ c1 ∧ c1 ≤ 100000) := by
  rw [wineE, firstE_zero, rangeE_zero, rangeE_zero, rangeE_zero]
theorem newHeld {Wp w1 : World} {cs : Array Value} {t : TypeId} (hb : Below (Wp.alloc (.cells cs t)).heap.size (Wp.alloc (.cells cs t)) w1) (i : Nat) (v : Value) (hv : cs[i]? = some v) :
    w1.cell? ⟨Wp.heap.size, i, none⟩ = some v ∧ w1.frozen? ⟨Wp.heap.size, i, none⟩ = false := by
  have h1 : (Wp.alloc (.cells cs t)).cell? ⟨Wp.heap.size, i, none⟩ = some v := by simp [World.cell?_alloc_new, hv]
  refine ⟨keepC hb h1, ?_⟩
  rw [hb.frozen (World.block_lt_of_cell? _ _ h1)]
  exact World.frozen?_alloc_at (w := Wp) cs t _ i rfl
def drA (v0 v1 s0 s1 c0 c1 u0 u1 : Int) : Int := firstE (wineE v0 v1 s0 s1 c0 c1) (rangeE u0 u1 100000) 0
set_option maxHeartbeats 1000000 in
theorem drawn_wrong (v0 v1 s0 s1 c0 c1 u0 u1 : Int) (w : World) (h : (firstE (wineE v0 v1 s0 s1 c0 c1) (rangeE u0 u1 100000) 0 != 0) = true) :
    Calls Try.prog 35 #[.agg #[.int .i64 v0, .int .i64 v1, .int .i64 s0, .int .i64 s1, .int .i64 c0, .int .i64 c1], .agg #[.int .i64 u0, .int .i64 u1]] w fun e w' => e = .returned (.tuple #[.agg #[.int .i64 0, .int .i64 0, .int .i64 0, .int .i64 0, .int .i64 0, .int .i64 0], .int .i64 (firstE (wineE v0 v1 s0 s1 c0 c1) (rangeE u0 u1 100000) 0)]) ∧ Below w.heap.size w w' := by
  go_enter Try.func35, Try.ntmps35
  go_wp2_with fail
  refine nameWorld (fun w' => w'.cell? ⟨w.heap.size, 0, none⟩ = some (.int .i64 v0) ∧ w'.cell? ⟨w.heap.size, 1, none⟩ = some (.int .i64 v1) ∧ w'.cell? ⟨w.heap.size, 2, none⟩ = some (.int .i64 s0) ∧ w'.cell? ⟨w.heap.size, 3, none⟩ = some (.int .i64 s1) ∧ w'.cell? ⟨w.heap.size, 4, none⟩ = some (.int .i64 c0) ∧ w'.cell? ⟨w.heap.size, 5, none⟩ = some (.int .i64 c1) ∧ w'.cell? ⟨w.heap.size + 1, 0, none⟩ = some (.int .i64 u0) ∧ w'.cell? ⟨w.heap.size + 1, 1, none⟩ = some (.int .i64 u1) ∧ w'.cell? ⟨w.heap.size + 1 + 1, 0, none⟩ = some (cv w' ⟨w.heap.size + 1 + 1, 0, none⟩) ∧ w'.cell? ⟨w.heap.size + 1 + 1, 1, none⟩ = some (cv w' ⟨w.heap.size + 1 + 1, 1, none⟩) ∧ w'.cell? ⟨w.heap.size + 1 + 1, 2, none⟩ = some (cv w' ⟨w.heap.size + 1 + 1, 2, none⟩) ∧ w'.cell? ⟨w.heap.size + 1 + 1, 3, none⟩ = some (cv w' ⟨w.heap.size + 1 + 1, 3, none⟩) ∧ w'.cell? ⟨w.heap.size + 1 + 1, 4, none⟩ = some (cv w' ⟨w.heap.size + 1 + 1, 4, none⟩) ∧ w'.cell? ⟨w.heap.size + 1 + 1, 5, none⟩ = some (cv w' ⟨w.heap.size + 1 + 1, 5, none⟩) ∧ w'.frozen? ⟨w.heap.size + 1 + 1, 0, none⟩ = false ∧ w'.frozen? ⟨w.heap.size + 1 + 1, 1, none⟩ = false ∧ w'.frozen? ⟨w.heap.size + 1 + 1, 2, none⟩ = false ∧ w'.frozen? ⟨w.heap.size + 1 + 1, 3, none⟩ = false ∧ w'.frozen? ⟨w.heap.size + 1 + 1, 4, none⟩ = false ∧ w'.frozen? ⟨w.heap.size + 1 + 1, 5, none⟩ = false ∧ w'.frozen? ⟨w.heap.size, 0, none⟩ = false ∧ w'.frozen? ⟨w.heap.size, 1, none⟩ = false ∧ Below w.heap.size w w') (by refine ⟨?_, ?_, ?_, ?_, ?_, ?_, ?_, ?_, ?_, ?_, ?_, ?_, ?_, ?_, ?_, ?_, ?_, ?_, ?_, ?_, ?_, ?_, ?_⟩ <;> first | (with_reducible assumption) | (go_grown; done) | (go_cell; done) | go_size | ((repeat first | (with_reducible assumption) | (with_reducible refine szA ?_) | (with_reducible refine szS ?_) | (with_reducible refine szD ?_)); done) | ((repeat first | (with_reducible assumption) | (with_reducible refine cvA ?_) | (with_reducible refine cvS ?_) | (with_reducible refine cvD ?_)); done) | (refine cv_of (v := .int .i64 0) ?_; go_cell; done) | (go_simp; done) | go_keep) (fun wc hc => ?_)
  obtain ⟨x0, x1, x2, x3, x4, x5, x6, x7, r0, r1, r2, r3, r4, r5, z0, z1, z2, z3, z4, z5, y0, y1, hB⟩ := hc
  have hr := Lib.hid (And.intro r0 (And.intro r1 (And.intro r2 (And.intro r3 (And.intro r4 (And.intro r5 (And.intro z0 (And.intro z1 (And.intro z2 (And.intro z3 (And.intro z4 (And.intro z5 (And.intro y0 y1)))))))))))))
  clear r0 r1 r2 r3 r4 r5 z0 z1 z2 z3 z4 z5 y0 y1
  go_region_held3 (fun w' => w'.cell? ⟨w.heap.size, 0, none⟩ = some (.int .i64 v0) ∧ w'.cell? ⟨w.heap.size, 1, none⟩ = some (.int .i64 v1) ∧ w'.cell? ⟨w.heap.size, 2, none⟩ = some (.int .i64 s0) ∧ w'.cell? ⟨w.heap.size, 3, none⟩ = some (.int .i64 s1) ∧ w'.cell? ⟨w.heap.size, 4, none⟩ = some (.int .i64 c0) ∧ w'.cell? ⟨w.heap.size, 5, none⟩ = some (.int .i64 c1) ∧ w'.cell? ⟨w.heap.size + 1, 0, none⟩ = some (.int .i64 u0) ∧ w'.cell? ⟨w.heap.size + 1, 1, none⟩ = some (.int .i64 u1) ∧ Below wc.heap.size wc w')
      (first | (with_reducible assumption) | (have hk2 := hk1.out; have hk3 := hk2.size; (try go_split_ands); refine pack8 ?_ x0 x1 x2 x3 x4 x5 x6 x7; (first | (with_reducible assumption) | (with_reducible exact Below.refl _ _) | ((with_reducible apply belowSeq hb1); (with_reducible assumption)) | ((with_reducible refine Below.alloc ?_ ?_ _) <;> first | (with_reducible assumption) | (exact Below.size (by with_reducible assumption))) | (go_grown; done))) | ((try go_split_ands); refine pack8 ?_ x0 x1 x2 x3 x4 x5 x6 x7; (first | (with_reducible assumption) | (with_reducible exact Below.refl _ _) | ((with_reducible apply belowSeq hb1); (with_reducible assumption)) | ((with_reducible refine Below.alloc ?_ ?_ _) <;> first | (with_reducible assumption) | (exact Below.size (by with_reducible assumption))) | (go_grown; done))))
      (first
        | (go_at_call 22; refine (checkWine_any _ _ _ _ _ _ _).mono ?_; rintro e w1 ⟨rfl, hb1⟩)
        | (go_at_call 75; refine (rangeErr_any _ _ _ _).mono ?_; rintro e w1 ⟨rfl, hb1⟩)
        | (go_at_call 74; refine (first_any _ _ _ _).mono ?_; rintro e w1 ⟨rfl, rfl⟩))
  rename_i hS
  obtain ⟨-, -, -, -, -, -, -, -, hB1⟩ := hS
  obtain ⟨r0, r1, r2, r3, r4, r5, z0, z1, z2, z3, z4, z5, y0, y1⟩ := hr.out
  clear hr
  have R0 := keepV hB1 r0
  have Z0 := keepF hB1 r0 z0
  have R1 := keepV hB1 r1
  have Z1 := keepF hB1 r1 z1
  have R2 := keepV hB1 r2
  have Z2 := keepF hB1 r2 z2
  have R3 := keepV hB1 r3
  have Z3 := keepF hB1 r3 z3
  have R4 := keepV hB1 r4
  have Z4 := keepF hB1 r4 z4
  have R5 := keepV hB1 r5
  have Z5 := keepF hB1 r5 z5
  have Y0 := keepF hB1 x0 y0
  have Y1 := keepF hB1 x1 y1
  have X0 := keepC hB1 x0
  have X1 := keepC hB1 x1
  have X2 := keepC hB1 x2
  have X3 := keepC hB1 x3
  have X4 := keepC hB1 x4
  have X5 := keepC hB1 x5
  have X6 := keepC hB1 x6
  have X7 := keepC hB1 x7
  have hB2 : Below w.heap.size w w1 := belowSeq hB1 hB
  have rr0 : ∀ x0 : Value, (w1.setCell ⟨w.heap.size + 1 + 1, 0, none⟩ x0).cell? ⟨w.heap.size + 1 + 1, 0, none⟩ = some x0 := fun _ => World.cell?_setCell_same _ _ _ (R0)
  have rr1 : ∀ x0 x1 : Value, ((w1.setCell ⟨w.heap.size + 1 + 1, 0, none⟩ x0).setCell ⟨w.heap.size + 1 + 1, 1, none⟩ x1).cell? ⟨w.heap.size + 1 + 1, 1, none⟩ = some x1 := fun _ _ => World.cell?_setCell_same _ _ _ (cvS (R1))
  have rr2 : ∀ x0 x1 x2 : Value, (((w1.setCell ⟨w.heap.size + 1 + 1, 0, none⟩ x0).setCell ⟨w.heap.size + 1 + 1, 1, none⟩ x1).setCell ⟨w.heap.size + 1 + 1, 2, none⟩ x2).cell? ⟨w.heap.size + 1 + 1, 2, none⟩ = some x2 := fun _ _ _ => World.cell?_setCell_same _ _ _ (cvS (cvS (R2)))
  have rr3 : ∀ x0 x1 x2 x3 : Value, ((((w1.setCell ⟨w.heap.size + 1 + 1, 0, none⟩ x0).setCell ⟨w.heap.size + 1 + 1, 1, none⟩ x1).setCell ⟨w.heap.size + 1 + 1, 2, none⟩ x2).setCell ⟨w.heap.size + 1 + 1, 3, none⟩ x3).cell? ⟨w.heap.size + 1 + 1, 3, none⟩ = some x3 := fun _ _ _ _ => World.cell?_setCell_same _ _ _ (cvS (cvS (cvS (R3))))
  have rr4 : ∀ x0 x1 x2 x3 x4 : Value, (((((w1.setCell ⟨w.heap.size + 1 + 1, 0, none⟩ x0).setCell ⟨w.heap.size + 1 + 1, 1, none⟩ x1).setCell ⟨w.heap.size + 1 + 1, 2, none⟩ x2).setCell ⟨w.heap.size + 1 + 1, 3, none⟩ x3).setCell ⟨w.heap.size + 1 + 1, 4, none⟩ x4).cell? ⟨w.heap.size + 1 + 1, 4, none⟩ = some x4 := fun _ _ _ _ _ => World.cell?_setCell_same _ _ _ (cvS (cvS (cvS (cvS (R4)))))
  have rr5 : ∀ x0 x1 x2 x3 x4 x5 : Value, ((((((w1.setCell ⟨w.heap.size + 1 + 1, 0, none⟩ x0).setCell ⟨w.heap.size + 1 + 1, 1, none⟩ x1).setCell ⟨w.heap.size + 1 + 1, 2, none⟩ x2).setCell ⟨w.heap.size + 1 + 1, 3, none⟩ x3).setCell ⟨w.heap.size + 1 + 1, 4, none⟩ x4).setCell ⟨w.heap.size + 1 + 1, 5, none⟩ x5).cell? ⟨w.heap.size + 1 + 1, 5, none⟩ = some x5 := fun _ _ _ _ _ _ => World.cell?_setCell_same _ _ _ (cvS (cvS (cvS (cvS (cvS (R5))))))
  clear r0 z0 r1 z1 r2 z2 r3 z3 r4 z4 r5 z5 y0 y1 hB hB1 x0 x1 x2 x3 x4 x5 x6 x7
  go_wp2
  exact bodyPost_ret (v := .tuple #[.agg #[.int .i64 0, .int .i64 0, .int .i64 0, .int .i64 0, .int .i64 0, .int .i64 0], .int .i64 (firstE (wineE v0 v1 s0 s1 c0 c1) (rangeE u0 u1 100000) 0)]) (by simp [results, Try.results35, go_sem, rr0, rr1, rr2, rr3, rr4, rr5]) rfl ⟨rfl, by go_grown⟩
set_option maxHeartbeats 1000000 in
theorem drawn_break (v0 v1 s0 s1 c0 c1 u0 u1 : Int) (w : World) (h : (firstE (wineE v0 v1 s0 s1 c0 c1) (rangeE u0 u1 100000) 0 != 0) = false) (hl : v0 < u1) :
    Calls Try.prog 35 #[.agg #[.int .i64 v0, .int .i64 v1, .int .i64 s0, .int .i64 s1, .int .i64 c0, .int .i64 c1], .agg #[.int .i64 u0, .int .i64 u1]] w fun e w' => e = .returned (.tuple #[.agg #[.int .i64 0, .int .i64 0, .int .i64 0, .int .i64 0, .int .i64 0, .int .i64 0], .int .i64 24]) ∧ Below w.heap.size w w' := by
  go_enter Try.func35, Try.ntmps35
  go_wp2_with fail
  refine nameWorld (fun w' => w'.cell? ⟨w.heap.size, 0, none⟩ = some (.int .i64 v0) ∧ w'.cell? ⟨w.heap.size, 1, none⟩ = some (.int .i64 v1) ∧ w'.cell? ⟨w.heap.size, 2, none⟩ = some (.int .i64 s0) ∧ w'.cell? ⟨w.heap.size, 3, none⟩ = some (.int .i64 s1) ∧ w'.cell? ⟨w.heap.size, 4, none⟩ = some (.int .i64 c0) ∧ w'.cell? ⟨w.heap.size, 5, none⟩ = some (.int .i64 c1) ∧ w'.cell? ⟨w.heap.size + 1, 0, none⟩ = some (.int .i64 u0) ∧ w'.cell? ⟨w.heap.size + 1, 1, none⟩ = some (.int .i64 u1) ∧ w'.cell? ⟨w.heap.size + 1 + 1, 0, none⟩ = some (cv w' ⟨w.heap.size + 1 + 1, 0, none⟩) ∧ w'.cell? ⟨w.heap.size + 1 + 1, 1, none⟩ = some (cv w' ⟨w.heap.size + 1 + 1, 1, none⟩) ∧ w'.cell? ⟨w.heap.size + 1 + 1, 2, none⟩ = some (cv w' ⟨w.heap.size + 1 + 1, 2, none⟩) ∧ w'.cell? ⟨w.heap.size + 1 + 1, 3, none⟩ = some (cv w' ⟨w.heap.size + 1 + 1, 3, none⟩) ∧ w'.cell? ⟨w.heap.size + 1 + 1, 4, none⟩ = some (cv w' ⟨w.heap.size + 1 + 1, 4, none⟩) ∧ w'.cell? ⟨w.heap.size + 1 + 1, 5, none⟩ = some (cv w' ⟨w.heap.size + 1 + 1, 5, none⟩) ∧ w'.frozen? ⟨w.heap.size + 1 + 1, 0, none⟩ = false ∧ w'.frozen? ⟨w.heap.size + 1 + 1, 1, none⟩ = false ∧ w'.frozen? ⟨w.heap.size + 1 + 1, 2, none⟩ = false ∧ w'.frozen? ⟨w.heap.size + 1 + 1, 3, none⟩ = false ∧ w'.frozen? ⟨w.heap.size + 1 + 1, 4, none⟩ = false ∧ w'.frozen? ⟨w.heap.size + 1 + 1, 5, none⟩ = false ∧ w'.frozen? ⟨w.heap.size, 0, none⟩ = false ∧ w'.frozen? ⟨w.heap.size, 1, none⟩ = false ∧ Below w.heap.size w w') (by refine ⟨?_, ?_, ?_, ?_, ?_, ?_, ?_, ?_, ?_, ?_, ?_, ?_, ?_, ?_, ?_, ?_, ?_, ?_, ?_, ?_, ?_, ?_, ?_⟩ <;> first | (with_reducible assumption) | (go_grown; done) | (go_cell; done) | go_size | ((repeat first | (with_reducible assumption) | (with_reducible refine szA ?_) | (with_reducible refine szS ?_) | (with_reducible refine szD ?_)); done) | ((repeat first | (with_reducible assumption) | (with_reducible refine cvA ?_) | (with_reducible refine cvS ?_) | (with_reducible refine cvD ?_)); done) | (refine cv_of (v := .int .i64 0) ?_; go_cell; done) | (go_simp; done) | go_keep) (fun wc hc => ?_)
  obtain ⟨x0, x1, x2, x3, x4, x5, x6, x7, r0, r1, r2, r3, r4, r5, z0, z1, z2, z3, z4, z5, y0, y1, hB⟩ := hc
  have hr := Lib.hid (And.intro r0 (And.intro r1 (And.intro r2 (And.intro r3 (And.intro r4 (And.intro r5 (And.intro z0 (And.intro z1 (And.intro z2 (And.intro z3 (And.intro z4 (And.intro z5 (And.intro y0 y1)))))))))))))
  clear r0 r1 r2 r3 r4 r5 z0 z1 z2 z3 z4 z5 y0 y1
  go_region_held3 (fun w' => w'.cell? ⟨w.heap.size, 0, none⟩ = some (.int .i64 v0) ∧ w'.cell? ⟨w.heap.size, 1, none⟩ = some (.int .i64 v1) ∧ w'.cell? ⟨w.heap.size, 2, none⟩ = some (.int .i64 s0) ∧ w'.cell? ⟨w.heap.size, 3, none⟩ = some (.int .i64 s1) ∧ w'.cell? ⟨w.heap.size, 4, none⟩ = some (.int .i64 c0) ∧ w'.cell? ⟨w.heap.size, 5, none⟩ = some (.int .i64 c1) ∧ w'.cell? ⟨w.heap.size + 1, 0, none⟩ = some (.int .i64 u0) ∧ w'.cell? ⟨w.heap.size + 1, 1, none⟩ = some (.int .i64 u1) ∧ Below wc.heap.size wc w')
      (first | (with_reducible assumption) | (have hk2 := hk1.out; have hk3 := hk2.size; (try go_split_ands); refine pack8 ?_ x0 x1 x2 x3 x4 x5 x6 x7; (first | (with_reducible assumption) | (with_reducible exact Below.refl _ _) | ((with_reducible apply belowSeq hb1); (with_reducible assumption)) | ((with_reducible refine Below.alloc ?_ ?_ _) <;> first | (with_reducible assumption) | (exact Below.size (by with_reducible assumption))) | (go_grown; done))) | ((try go_split_ands); refine pack8 ?_ x0 x1 x2 x3 x4 x5 x6 x7; (first | (with_reducible assumption) | (with_reducible exact Below.refl _ _) | ((with_reducible apply belowSeq hb1); (with_reducible assumption)) | ((with_reducible refine Below.alloc ?_ ?_ _) <;> first | (with_reducible assumption) | (exact Below.size (by with_reducible assumption))) | (go_grown; done))))
      (first
        | (go_at_call 22; refine (checkWine_any _ _ _ _ _ _ _).mono ?_; rintro e w1 ⟨rfl, hb1⟩)
        | (go_at_call 75; refine (rangeErr_any _ _ _ _).mono ?_; rintro e w1 ⟨rfl, hb1⟩)
        | (go_at_call 74; refine (first_any _ _ _ _).mono ?_; rintro e w1 ⟨rfl, rfl⟩))
  rename_i hS
  obtain ⟨-, -, -, -, -, -, -, -, hB1⟩ := hS
  obtain ⟨r0, r1, r2, r3, r4, r5, z0, z1, z2, z3, z4, z5, y0, y1⟩ := hr.out
  clear hr
  have R0 := keepV hB1 r0
  have Z0 := keepF hB1 r0 z0
  have R1 := keepV hB1 r1
  have Z1 := keepF hB1 r1 z1
  have R2 := keepV hB1 r2
  have Z2 := keepF hB1 r2 z2
  have R3 := keepV hB1 r3
  have Z3 := keepF hB1 r3 z3
  have R4 := keepV hB1 r4
  have Z4 := keepF hB1 r4 z4
  have R5 := keepV hB1 r5
  have Z5 := keepF hB1 r5 z5
  have Y0 := keepF hB1 x0 y0
  have Y1 := keepF hB1 x1 y1
  have X0 := keepC hB1 x0
  have X1 := keepC hB1 x1
  have X2 := keepC hB1 x2
  have X3 := keepC hB1 x3
  have X4 := keepC hB1 x4
  have X5 := keepC hB1 x5
  have X6 := keepC hB1 x6
  have X7 := keepC hB1 x7
  have hB2 : Below w.heap.size w w1 := belowSeq hB1 hB
  have rr0 : ∀ x0 : Value, (w1.setCell ⟨w.heap.size + 1 + 1, 0, none⟩ x0).cell? ⟨w.heap.size + 1 + 1, 0, none⟩ = some x0 := fun _ => World.cell?_setCell_same _ _ _ (R0)
  have rr1 : ∀ x0 x1 : Value, ((w1.setCell ⟨w.heap.size + 1 + 1, 0, none⟩ x0).setCell ⟨w.heap.size + 1 + 1, 1, none⟩ x1).cell? ⟨w.heap.size + 1 + 1, 1, none⟩ = some x1 := fun _ _ => World.cell?_setCell_same _ _ _ (cvS (R1))
  have rr2 : ∀ x0 x1 x2 : Value, (((w1.setCell ⟨w.heap.size + 1 + 1, 0, none⟩ x0).setCell ⟨w.heap.size + 1 + 1, 1, none⟩ x1).setCell ⟨w.heap.size + 1 + 1, 2, none⟩ x2).cell? ⟨w.heap.size + 1 + 1, 2, none⟩ = some x2 := fun _ _ _ => World.cell?_setCell_same _ _ _ (cvS (cvS (R2)))
  have rr3 : ∀ x0 x1 x2 x3 : Value, ((((w1.setCell ⟨w.heap.size + 1 + 1, 0, none⟩ x0).setCell ⟨w.heap.size + 1 + 1, 1, none⟩ x1).setCell ⟨w.heap.size + 1 + 1, 2, none⟩ x2).setCell ⟨w.heap.size + 1 + 1, 3, none⟩ x3).cell? ⟨w.heap.size + 1 + 1, 3, none⟩ = some x3 := fun _ _ _ _ => World.cell?_setCell_same _ _ _ (cvS (cvS (cvS (R3))))
  have rr4 : ∀ x0 x1 x2 x3 x4 : Value, (((((w1.setCell ⟨w.heap.size + 1 + 1, 0, none⟩ x0).setCell ⟨w.heap.size + 1 + 1, 1, none⟩ x1).setCell ⟨w.heap.size + 1 + 1, 2, none⟩ x2).setCell ⟨w.heap.size + 1 + 1, 3, none⟩ x3).setCell ⟨w.heap.size + 1 + 1, 4, none⟩ x4).cell? ⟨w.heap.size + 1 + 1, 4, none⟩ = some x4 := fun _ _ _ _ _ => World.cell?_setCell_same _ _ _ (cvS (cvS (cvS (cvS (R4)))))
  have rr5 : ∀ x0 x1 x2 x3 x4 x5 : Value, ((((((w1.setCell ⟨w.heap.size + 1 + 1, 0, none⟩ x0).setCell ⟨w.heap.size + 1 + 1, 1, none⟩ x1).setCell ⟨w.heap.size + 1 + 1, 2, none⟩ x2).setCell ⟨w.heap.size + 1 + 1, 3, none⟩ x3).setCell ⟨w.heap.size + 1 + 1, 4, none⟩ x4).setCell ⟨w.heap.size + 1 + 1, 5, none⟩ x5).cell? ⟨w.heap.size + 1 + 1, 5, none⟩ = some x5 := fun _ _ _ _ _ _ => World.cell?_setCell_same _ _ _ (cvS (cvS (cvS (cvS (cvS (R5))))))
  clear r0 z0 r1 z1 r2 z2 r3 z3 r4 z4 r5 z5 y0 y1 hB hB1 x0 x1 x2 x3 x4 x5 x6 x7
  go_wp2
  exact bodyPost_ret (v := .tuple #[.agg #[.int .i64 0, .int .i64 0, .int .i64 0, .int .i64 0, .int .i64 0, .int .i64 0], .int .i64 24]) (by simp [results, Try.results35, go_sem, rr0, rr1, rr2, rr3, rr4, rr5]) rfl ⟨rfl, by go_grown⟩
set_option maxHeartbeats 1000000 in
theorem drawn_ok (v0 v1 s0 s1 c0 c1 u0 u1 : Int) (w : World) (h : (firstE (wineE v0 v1 s0 s1 c0 c1) (rangeE u0 u1 100000) 0 != 0) = false) (hl : u1 ≤ v0) :
    Calls Try.prog 35 #[.agg #[.int .i64 v0, .int .i64 v1, .int .i64 s0, .int .i64 s1, .int .i64 c0, .int .i64 c1], .agg #[.int .i64 u0, .int .i64 u1]] w fun e w' => e = .returned (.tuple #[.agg #[.int .i64 (v0 - u1), .int .i64 (v1 - u0), .int .i64 s0, .int .i64 s1, .int .i64 c0, .int .i64 c1], .int .i64 0]) ∧ Below w.heap.size w w' := by
  have hz : firstE (wineE v0 v1 s0 s1 c0 c1) (rangeE u0 u1 100000) 0 = 0 := by simpa using h
  rw [firstE_zero, wineE_zero, rangeE_zero] at hz
  obtain ⟨⟨⟨i0, i1, i2⟩, -, -⟩, ⟨i3, i4, i5⟩, -⟩ := hz
  go_enter Try.func35, Try.ntmps35
  go_wp2_with fail
  refine nameWorld (fun w' => w'.cell? ⟨w.heap.size, 0, none⟩ = some (.int .i64 v0) ∧ w'.cell? ⟨w.heap.size, 1, none⟩ = some (.int .i64 v1) ∧ w'.cell? ⟨w.heap.size, 2, none⟩ = some (.int .i64 s0) ∧ w'.cell? ⟨w.heap.size, 3, none⟩ = some (.int .i64 s1) ∧ w'.cell? ⟨w.heap.size, 4, none⟩ = some (.int .i64 c0) ∧ w'.cell? ⟨w.heap.size, 5, none⟩ = some (.int .i64 c1) ∧ w'.cell? ⟨w.heap.size + 1, 0, none⟩ = some (.int .i64 u0) ∧ w'.cell? ⟨w.heap.size + 1, 1, none⟩ = some (.int .i64 u1) ∧ w'.cell? ⟨w.heap.size + 1 + 1, 0, none⟩ = some (cv w' ⟨w.heap.size + 1 + 1, 0, none⟩) ∧ w'.cell? ⟨w.heap.size + 1 + 1, 1, none⟩ = some (cv w' ⟨w.heap.size + 1 + 1, 1, none⟩) ∧ w'.cell? ⟨w.heap.size + 1 + 1, 2, none⟩ = some (cv w' ⟨w.heap.size + 1 + 1, 2, none⟩) ∧ w'.cell? ⟨w.heap.size + 1 + 1, 3, none⟩ = some (cv w' ⟨w.heap.size + 1 + 1, 3, none⟩) ∧ w'.cell? ⟨w.heap.size + 1 + 1, 4, none⟩ = some (cv w' ⟨w.heap.size + 1 + 1, 4, none⟩) ∧ w'.cell? ⟨w.heap.size + 1 + 1, 5, none⟩ = some (cv w' ⟨w.heap.size + 1 + 1, 5, none⟩) ∧ w'.frozen? ⟨w.heap.size + 1 + 1, 0, none⟩ = false ∧ w'.frozen? ⟨w.heap.size + 1 + 1, 1, none⟩ = false ∧ w'.frozen? ⟨w.heap.size + 1 + 1, 2, none⟩ = false ∧ w'.frozen? ⟨w.heap.size + 1 + 1, 3, none⟩ = false ∧ w'.frozen? ⟨w.heap.size + 1 + 1, 4, none⟩ = false ∧ w'.frozen? ⟨w.heap.size + 1 + 1, 5, none⟩ = false ∧ w'.frozen? ⟨w.heap.size, 0, none⟩ = false ∧ w'.frozen? ⟨w.heap.size, 1, none⟩ = false ∧ Below w.heap.size w w') (by refine ⟨?_, ?_, ?_, ?_, ?_, ?_, ?_, ?_, ?_, ?_, ?_, ?_, ?_, ?_, ?_, ?_, ?_, ?_, ?_, ?_, ?_, ?_, ?_⟩ <;> first | (with_reducible assumption) | (go_grown; done) | (go_cell; done) | go_size | ((repeat first | (with_reducible assumption) | (with_reducible refine szA ?_) | (with_reducible refine szS ?_) | (with_reducible refine szD ?_)); done) | ((repeat first | (with_reducible assumption) | (with_reducible refine cvA ?_) | (with_reducible refine cvS ?_) | (with_reducible refine cvD ?_)); done) | (refine cv_of (v := .int .i64 0) ?_; go_cell; done) | (go_simp; done) | go_keep) (fun wc hc => ?_)
  obtain ⟨x0, x1, x2, x3, x4, x5, x6, x7, r0, r1, r2, r3, r4, r5, z0, z1, z2, z3, z4, z5, y0, y1, hB⟩ := hc
  have hr := Lib.hid (And.intro r0 (And.intro r1 (And.intro r2 (And.intro r3 (And.intro r4 (And.intro r5 (And.intro z0 (And.intro z1 (And.intro z2 (And.intro z3 (And.intro z4 (And.intro z5 (And.intro y0 y1)))))))))))))
  clear r0 r1 r2 r3 r4 r5 z0 z1 z2 z3 z4 z5 y0 y1
  go_region_held3 (fun w' => w'.cell? ⟨w.heap.size, 0, none⟩ = some (.int .i64 v0) ∧ w'.cell? ⟨w.heap.size, 1, none⟩ = some (.int .i64 v1) ∧ w'.cell? ⟨w.heap.size, 2, none⟩ = some (.int .i64 s0) ∧ w'.cell? ⟨w.heap.size, 3, none⟩ = some (.int .i64 s1) ∧ w'.cell? ⟨w.heap.size, 4, none⟩ = some (.int .i64 c0) ∧ w'.cell? ⟨w.heap.size, 5, none⟩ = some (.int .i64 c1) ∧ w'.cell? ⟨w.heap.size + 1, 0, none⟩ = some (.int .i64 u0) ∧ w'.cell? ⟨w.heap.size + 1, 1, none⟩ = some (.int .i64 u1) ∧ Below wc.heap.size wc w')
      (first | (with_reducible assumption) | (have hk2 := hk1.out; have hk3 := hk2.size; (try go_split_ands); refine pack8 ?_ x0 x1 x2 x3 x4 x5 x6 x7; (first | (with_reducible assumption) | (with_reducible exact Below.refl _ _) | ((with_reducible apply belowSeq hb1); (with_reducible assumption)) | ((with_reducible refine Below.alloc ?_ ?_ _) <;> first | (with_reducible assumption) | (exact Below.size (by with_reducible assumption))) | (go_grown; done))) | ((try go_split_ands); refine pack8 ?_ x0 x1 x2 x3 x4 x5 x6 x7; (first | (with_reducible assumption) | (with_reducible exact Below.refl _ _) | ((with_reducible apply belowSeq hb1); (with_reducible assumption)) | ((with_reducible refine Below.alloc ?_ ?_ _) <;> first | (with_reducible assumption) | (exact Below.size (by with_reducible assumption))) | (go_grown; done))))
      (first
        | (go_at_call 22; refine (checkWine_any _ _ _ _ _ _ _).mono ?_; rintro e w1 ⟨rfl, hb1⟩)
        | (go_at_call 75; refine (rangeErr_any _ _ _ _).mono ?_; rintro e w1 ⟨rfl, hb1⟩)
        | (go_at_call 74; refine (first_any _ _ _ _).mono ?_; rintro e w1 ⟨rfl, rfl⟩))
  rename_i hS
  obtain ⟨-, -, -, -, -, -, -, -, hB1⟩ := hS
  obtain ⟨r0, r1, r2, r3, r4, r5, z0, z1, z2, z3, z4, z5, y0, y1⟩ := hr.out
  clear hr
  have R0 := keepV hB1 r0
  have Z0 := keepF hB1 r0 z0
  have R1 := keepV hB1 r1
  have Z1 := keepF hB1 r1 z1
  have R2 := keepV hB1 r2
  have Z2 := keepF hB1 r2 z2
  have R3 := keepV hB1 r3
  have Z3 := keepF hB1 r3 z3
  have R4 := keepV hB1 r4
  have Z4 := keepF hB1 r4 z4
  have R5 := keepV hB1 r5
  have Z5 := keepF hB1 r5 z5
  have Y0 := keepF hB1 x0 y0
  have Y1 := keepF hB1 x1 y1
  have X0 := keepC hB1 x0
  have X1 := keepC hB1 x1
  have X2 := keepC hB1 x2
  have X3 := keepC hB1 x3
  have X4 := keepC hB1 x4
  have X5 := keepC hB1 x5
  have X6 := keepC hB1 x6
  have X7 := keepC hB1 x7
  have hB2 : Below w.heap.size w w1 := belowSeq hB1 hB
  have rr0 : ∀ x0 : Value, (w1.setCell ⟨w.heap.size + 1 + 1, 0, none⟩ x0).cell? ⟨w.heap.size + 1 + 1, 0, none⟩ = some x0 := fun _ => World.cell?_setCell_same _ _ _ (R0)
  have rr1 : ∀ x0 x1 : Value, ((w1.setCell ⟨w.heap.size + 1 + 1, 0, none⟩ x0).setCell ⟨w.heap.size + 1 + 1, 1, none⟩ x1).cell? ⟨w.heap.size + 1 + 1, 1, none⟩ = some x1 := fun _ _ => World.cell?_setCell_same _ _ _ (cvS (R1))
  have rr2 : ∀ x0 x1 x2 : Value, (((w1.setCell ⟨w.heap.size + 1 + 1, 0, none⟩ x0).setCell ⟨w.heap.size + 1 + 1, 1, none⟩ x1).setCell ⟨w.heap.size + 1 + 1, 2, none⟩ x2).cell? ⟨w.heap.size + 1 + 1, 2, none⟩ = some x2 := fun _ _ _ => World.cell?_setCell_same _ _ _ (cvS (cvS (R2)))
  have rr3 : ∀ x0 x1 x2 x3 : Value, ((((w1.setCell ⟨w.heap.size + 1 + 1, 0, none⟩ x0).setCell ⟨w.heap.size + 1 + 1, 1, none⟩ x1).setCell ⟨w.heap.size + 1 + 1, 2, none⟩ x2).setCell ⟨w.heap.size + 1 + 1, 3, none⟩ x3).cell? ⟨w.heap.size + 1 + 1, 3, none⟩ = some x3 := fun _ _ _ _ => World.cell?_setCell_same _ _ _ (cvS (cvS (cvS (R3))))
  have rr4 : ∀ x0 x1 x2 x3 x4 : Value, (((((w1.setCell ⟨w.heap.size + 1 + 1, 0, none⟩ x0).setCell ⟨w.heap.size + 1 + 1, 1, none⟩ x1).setCell ⟨w.heap.size + 1 + 1, 2, none⟩ x2).setCell ⟨w.heap.size + 1 + 1, 3, none⟩ x3).setCell ⟨w.heap.size + 1 + 1, 4, none⟩ x4).cell? ⟨w.heap.size + 1 + 1, 4, none⟩ = some x4 := fun _ _ _ _ _ => World.cell?_setCell_same _ _ _ (cvS (cvS (cvS (cvS (R4)))))
  have rr5 : ∀ x0 x1 x2 x3 x4 x5 : Value, ((((((w1.setCell ⟨w.heap.size + 1 + 1, 0, none⟩ x0).setCell ⟨w.heap.size + 1 + 1, 1, none⟩ x1).setCell ⟨w.heap.size + 1 + 1, 2, none⟩ x2).setCell ⟨w.heap.size + 1 + 1, 3, none⟩ x3).setCell ⟨w.heap.size + 1 + 1, 4, none⟩ x4).setCell ⟨w.heap.size + 1 + 1, 5, none⟩ x5).cell? ⟨w.heap.size + 1 + 1, 5, none⟩ = some x5 := fun _ _ _ _ _ _ => World.cell?_setCell_same _ _ _ (cvS (cvS (cvS (cvS (cvS (R5))))))
  clear r0 z0 r1 z1 r2 z2 r3 z3 r4 z4 r5 z5 y0 y1 hB hB1 x0 x1 x2 x3 x4 x5 x6 x7
  have qq0 : ∀ x0 : Value, (w1.setCell ⟨w.heap.size, 0, none⟩ x0).cell? ⟨w.heap.size, 0, none⟩ = some x0 := fun _ => World.cell?_setCell_same _ _ _ X0
  have qq1 : ∀ x0 x1 : Value, ((w1.setCell ⟨w.heap.size, 0, none⟩ x0).setCell ⟨w.heap.size, 1, none⟩ x1).cell? ⟨w.heap.size, 1, none⟩ = some x1 := fun _ _ => World.cell?_setCell_same _ _ _ (cvS (cv_of X1))
  have S0 : ((w1.setCell ⟨w.heap.size, 0, none⟩ (.int .i64 (v0 - u1))).setCell ⟨w.heap.size, 1, none⟩ (.int .i64 (v1 - u0))).cell? ⟨w.heap.size + 1 + 1, 0, none⟩ = some (cv ((w1.setCell ⟨w.heap.size, 0, none⟩ (.int .i64 (v0 - u1))).setCell ⟨w.heap.size, 1, none⟩ (.int .i64 (v1 - u0))) ⟨w.heap.size + 1 + 1, 0, none⟩) := cvS (cvS R0)
  have S1 : ((w1.setCell ⟨w.heap.size, 0, none⟩ (.int .i64 (v0 - u1))).setCell ⟨w.heap.size, 1, none⟩ (.int .i64 (v1 - u0))).cell? ⟨w.heap.size + 1 + 1, 1, none⟩ = some (cv ((w1.setCell ⟨w.heap.size, 0, none⟩ (.int .i64 (v0 - u1))).setCell ⟨w.heap.size, 1, none⟩ (.int .i64 (v1 - u0))) ⟨w.heap.size + 1 + 1, 1, none⟩) := cvS (cvS R1)
  have S2 : ((w1.setCell ⟨w.heap.size, 0, none⟩ (.int .i64 (v0 - u1))).setCell ⟨w.heap.size, 1, none⟩ (.int .i64 (v1 - u0))).cell? ⟨w.heap.size + 1 + 1, 2, none⟩ = some (cv ((w1.setCell ⟨w.heap.size, 0, none⟩ (.int .i64 (v0 - u1))).setCell ⟨w.heap.size, 1, none⟩ (.int .i64 (v1 - u0))) ⟨w.heap.size + 1 + 1, 2, none⟩) := cvS (cvS R2)
  have S3 : ((w1.setCell ⟨w.heap.size, 0, none⟩ (.int .i64 (v0 - u1))).setCell ⟨w.heap.size, 1, none⟩ (.int .i64 (v1 - u0))).cell? ⟨w.heap.size + 1 + 1, 3, none⟩ = some (cv ((w1.setCell ⟨w.heap.size, 0, none⟩ (.int .i64 (v0 - u1))).setCell ⟨w.heap.size, 1, none⟩ (.int .i64 (v1 - u0))) ⟨w.heap.size + 1 + 1, 3, none⟩) := cvS (cvS R3)
  have S4 : ((w1.setCell ⟨w.heap.size, 0, none⟩ (.int .i64 (v0 - u1))).setCell ⟨w.heap.size, 1, none⟩ (.int .i64 (v1 - u0))).cell? ⟨w.heap.size + 1 + 1, 4, none⟩ = some (cv ((w1.setCell ⟨w.heap.size, 0, none⟩ (.int .i64 (v0 - u1))).setCell ⟨w.heap.size, 1, none⟩ (.int .i64 (v1 - u0))) ⟨w.heap.size + 1 + 1, 4, none⟩) := cvS (cvS R4)
  have S5 : ((w1.setCell ⟨w.heap.size, 0, none⟩ (.int .i64 (v0 - u1))).setCell ⟨w.heap.size, 1, none⟩ (.int .i64 (v1 - u0))).cell? ⟨w.heap.size + 1 + 1, 5, none⟩ = some (cv ((w1.setCell ⟨w.heap.size, 0, none⟩ (.int .i64 (v0 - u1))).setCell ⟨w.heap.size, 1, none⟩ (.int .i64 (v1 - u0))) ⟨w.heap.size + 1 + 1, 5, none⟩) := cvS (cvS R5)
  have ss0 : ∀ x0 : Value, (((w1.setCell ⟨w.heap.size, 0, none⟩ (.int .i64 (v0 - u1))).setCell ⟨w.heap.size, 1, none⟩ (.int .i64 (v1 - u0))).setCell ⟨w.heap.size + 1 + 1, 0, none⟩ x0).cell? ⟨w.heap.size + 1 + 1, 0, none⟩ = some x0 := fun _ => World.cell?_setCell_same _ _ _ (S0)
  have ss1 : ∀ x0 x1 : Value, ((((w1.setCell ⟨w.heap.size, 0, none⟩ (.int .i64 (v0 - u1))).setCell ⟨w.heap.size, 1, none⟩ (.int .i64 (v1 - u0))).setCell ⟨w.heap.size + 1 + 1, 0, none⟩ x0).setCell ⟨w.heap.size + 1 + 1, 1, none⟩ x1).cell? ⟨w.heap.size + 1 + 1, 1, none⟩ = some x1 := fun _ _ => World.cell?_setCell_same _ _ _ (cvS (S1))
  have ss2 : ∀ x0 x1 x2 : Value, (((((w1.setCell ⟨w.heap.size, 0, none⟩ (.int .i64 (v0 - u1))).setCell ⟨w.heap.size, 1, none⟩ (.int .i64 (v1 - u0))).setCell ⟨w.heap.size + 1 + 1, 0, none⟩ x0).setCell ⟨w.heap.size + 1 + 1, 1, none⟩ x1).setCell ⟨w.heap.size + 1 + 1, 2, none⟩ x2).cell? ⟨w.heap.size + 1 + 1, 2, none⟩ = some x2 := fun _ _ _ => World.cell?_setCell_same _ _ _ (cvS (cvS (S2)))
  have ss3 : ∀ x0 x1 x2 x3 : Value, ((((((w1.setCell ⟨w.heap.size, 0, none⟩ (.int .i64 (v0 - u1))).setCell ⟨w.heap.size, 1, none⟩ (.int .i64 (v1 - u0))).setCell ⟨w.heap.size + 1 + 1, 0, none⟩ x0).setCell ⟨w.heap.size + 1 + 1, 1, none⟩ x1).setCell ⟨w.heap.size + 1 + 1, 2, none⟩ x2).setCell ⟨w.heap.size + 1 + 1, 3, none⟩ x3).cell? ⟨w.heap.size + 1 + 1, 3, none⟩ = some x3 := fun _ _ _ _ => World.cell?_setCell_same _ _ _ (cvS (cvS (cvS (S3))))
  have ss4 : ∀ x0 x1 x2 x3 x4 : Value, (((((((w1.setCell ⟨w.heap.size, 0, none⟩ (.int .i64 (v0 - u1))).setCell ⟨w.heap.size, 1, none⟩ (.int .i64 (v1 - u0))).setCell ⟨w.heap.size + 1 + 1, 0, none⟩ x0).setCell ⟨w.heap.size + 1 + 1, 1, none⟩ x1).setCell ⟨w.heap.size + 1 + 1, 2, none⟩ x2).setCell ⟨w.heap.size + 1 + 1, 3, none⟩ x3).setCell ⟨w.heap.size + 1 + 1, 4, none⟩ x4).cell? ⟨w.heap.size + 1 + 1, 4, none⟩ = some x4 := fun _ _ _ _ _ => World.cell?_setCell_same _ _ _ (cvS (cvS (cvS (cvS (S4)))))
  have ss5 : ∀ x0 x1 x2 x3 x4 x5 : Value, ((((((((w1.setCell ⟨w.heap.size, 0, none⟩ (.int .i64 (v0 - u1))).setCell ⟨w.heap.size, 1, none⟩ (.int .i64 (v1 - u0))).setCell ⟨w.heap.size + 1 + 1, 0, none⟩ x0).setCell ⟨w.heap.size + 1 + 1, 1, none⟩ x1).setCell ⟨w.heap.size + 1 + 1, 2, none⟩ x2).setCell ⟨w.heap.size + 1 + 1, 3, none⟩ x3).setCell ⟨w.heap.size + 1 + 1, 4, none⟩ x4).setCell ⟨w.heap.size + 1 + 1, 5, none⟩ x5).cell? ⟨w.heap.size + 1 + 1, 5, none⟩ = some x5 := fun _ _ _ _ _ _ => World.cell?_setCell_same _ _ _ (cvS (cvS (cvS (cvS (cvS (S5))))))
  clear rr0 rr1 rr2 rr3 rr4 rr5 S0 S1 S2 S3 S4 S5
  go_wp2
  exact bodyPost_ret (v := .tuple #[.agg #[.int .i64 (v0 - u1), .int .i64 (v1 - u0), .int .i64 s0, .int .i64 s1, .int .i64 c0, .int .i64 c1], .int .i64 0]) (by simp [results, Try.results35, go_sem, ss0, ss1, ss2, ss3, ss4, ss5]) rfl ⟨rfl, by go_grown⟩
end Go.Proofs.Ytcpkoapkmjcigaa
