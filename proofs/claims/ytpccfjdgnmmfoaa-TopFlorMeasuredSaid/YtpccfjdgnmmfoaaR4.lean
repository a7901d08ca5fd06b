/- Contracts of the reference of chapter 3: After. -/
import Derived.Test.YtpccfjdgnmmfoaaR3
namespace Go.Proofs.Ytpccfjdgnmmfoaa
open Go.RowKit

theorem newKept {Wp w1 : World} {cs : Array Value} {t : TypeId} (hb : Below (Wp.alloc (.cells cs t)).heap.size (Wp.alloc (.cells cs t)) w1) (i : Nat) (v : Value) (hv : cs[i]? = some v) :
    w1.cell? ⟨Wp.heap.size, i, none⟩ = some v ∧ w1.frozen? ⟨Wp.heap.size, i, none⟩ = false := by
  have h1 : (Wp.alloc (.cells cs t)).cell? ⟨Wp.heap.size, i, none⟩ = some v := by simp [World.cell?_alloc_new, hv]
  refine ⟨keepC hb h1, ?_⟩
  rw [hb.frozen (World.block_lt_of_cell? _ _ h1)]
  exact World.frozen?_alloc_at (w := Wp) cs t _ i rfl
theorem newKeptD {Wp w1 : World} {cs : Array Value} {t : TypeId} (hb : Below (Wp.alloc (.cells cs t)).drew.heap.size (Wp.alloc (.cells cs t)).drew w1) (i : Nat) (v : Value) (hv : cs[i]? = some v) :
    w1.cell? ⟨Wp.heap.size, i, none⟩ = some v ∧ w1.frozen? ⟨Wp.heap.size, i, none⟩ = false := by
  have hb' : Below (Wp.alloc (.cells cs t)).heap.size (Wp.alloc (.cells cs t)) w1 := ((Below.refl _ _).drew).trans hb
  exact newKept hb' i v hv
/-- what After returns of a right wine -/
def aftR (v0 v1 s0 s1 c0 c1 a0 a1 g0 g1 days : Int) : Value := if 10000 < ce (s1 * lft g0 days) (lft a1 days) ∨ 100000 < ce (c1 * 1000000) (lft a1 days) then .tuple #[.agg #[.int .i64 0, .int .i64 0, .int .i64 0, .int .i64 0, .int .i64 0, .int .i64 0], .int .i64 8] else .tuple #[.agg #[.int .i64 (fl (v0 * lft a1 days) 1000000), .int .i64 (ce (v1 * lft a0 days) 1000000), .int .i64 (fl (s0 * lft g1 days) (lft a0 days)), .int .i64 (ce (s1 * lft g0 days) (lft a1 days)), .int .i64 (fl (c0 * 1000000) (lft a0 days)), .int .i64 (ce (c1 * 1000000) (lft a1 days))], .int .i64 0]
set_option maxHeartbeats 4000000 in
set_option maxRecDepth 100000 in
theorem after_any (v0 v1 s0 s1 c0 c1 a0 a1 g0 g1 days : Int) (w : World) (v00 : 0 ≤ v0) (v01 : v0 ≤ 100000) (v10 : 0 ≤ v1) (v11 : v1 ≤ 100000) (s00 : 0 ≤ s0) (s01 : s0 ≤ 10000) (s10 : 0 ≤ s1) (s11 : s1 ≤ 10000) (c00 : 0 ≤ c0) (c01 : c0 ≤ 100000) (c10 : 0 ≤ c1) (c11 : c1 ≤ 100000) (a00 : 0 ≤ a0) (a01 : a0 ≤ 2000) (a10 : 0 ≤ a1) (a11 : a1 ≤ 2000) (g00 : 0 ≤ g0) (g01 : g0 ≤ 2000) (g10 : 0 ≤ g1) (g11 : g1 ≤ 2000) (d0 : 0 ≤ days) (d1 : days ≤ 366) :
    Calls Try.prog 70 #[.agg #[.int .i64 v0, .int .i64 v1, .int .i64 s0, .int .i64 s1, .int .i64 c0, .int .i64 c1], .agg #[.int .i64 a0, .int .i64 a1, .int .i64 g0, .int .i64 g1], .int .i64 days] w fun e w' => e = .returned (aftR v0 v1 s0 s1 c0 c1 a0 a1 g0 g1 days) ∧ Below w.heap.size w w' := by
  obtain ⟨A0, A0'⟩ := lft_bd a0 days a00 a01 d0 d1
  obtain ⟨A1, A1'⟩ := lft_bd a1 days a10 a11 d0 d1
  obtain ⟨G0, G0'⟩ := lft_bd g0 days g00 g01 d0 d1
  obtain ⟨G1, G1'⟩ := lft_bd g1 days g10 g11 d0 d1
  obtain ⟨P0, P0'⟩ := mul_bd v0 (lft a1 days) 100000 1000000 v00 v01 (by omega) A1'
  obtain ⟨P1, P1'⟩ := mul_bd v1 (lft a0 days) 100000 1000000 v10 v11 (by omega) A0'
  go_enter Try.func70, Try.ntmps70
  go_upto_region 2 with (go_at_call 89; go_call left_any as e w1 ⟨rfl, rfl⟩)
  go_cut [9] (fun s9 wx => ∃ b9 : Nat, s9 = .pointer (some ⟨b9, 0, none⟩) ∧ w.heap.size + 1 + 1 < b9 ∧ wx.cell? ⟨b9, 0, none⟩ = some (.int .i64 (fl (v0 * lft a1 days) 1000000)) ∧ wx.cell? ⟨b9, 1, none⟩ = some (.int .i64 (ce (v1 * lft a0 days) 1000000)) ∧ wx.cell? ⟨b9, 2, none⟩ = some (.int .i64 (fl (s0 * lft g1 days) (lft a0 days))) ∧ wx.cell? ⟨b9, 3, none⟩ = some (.int .i64 (ce (s1 * lft g0 days) (lft a1 days))) ∧ wx.cell? ⟨b9, 4, none⟩ = some (.int .i64 (fl (c0 * 1000000) (lft a0 days))) ∧ wx.cell? ⟨b9, 5, none⟩ = some (.int .i64 (ce (c1 * 1000000) (lft a1 days))) ∧ wx.cell? ⟨w.heap.size + 1 + 1, 0, none⟩ = some (cv wx ⟨w.heap.size + 1 + 1, 0, none⟩) ∧ wx.cell? ⟨w.heap.size + 1 + 1, 1, none⟩ = some (cv wx ⟨w.heap.size + 1 + 1, 1, none⟩) ∧ wx.cell? ⟨w.heap.size + 1 + 1, 2, none⟩ = some (cv wx ⟨w.heap.size + 1 + 1, 2, none⟩) ∧ wx.cell? ⟨w.heap.size + 1 + 1, 3, none⟩ = some (cv wx ⟨w.heap.size + 1 + 1, 3, none⟩) ∧ wx.cell? ⟨w.heap.size + 1 + 1, 4, none⟩ = some (cv wx ⟨w.heap.size + 1 + 1, 4, none⟩) ∧ wx.cell? ⟨w.heap.size + 1 + 1, 5, none⟩ = some (cv wx ⟨w.heap.size + 1 + 1, 5, none⟩) ∧ wx.frozen? ⟨w.heap.size + 1 + 1, 0, none⟩ = false ∧ wx.frozen? ⟨w.heap.size + 1 + 1, 1, none⟩ = false ∧ wx.frozen? ⟨w.heap.size + 1 + 1, 2, none⟩ = false ∧ wx.frozen? ⟨w.heap.size + 1 + 1, 3, none⟩ = false ∧ wx.frozen? ⟨w.heap.size + 1 + 1, 4, none⟩ = false ∧ wx.frozen? ⟨w.heap.size + 1 + 1, 5, none⟩ = false ∧ Below w.heap.size w wx)
  case first =>
    refine nameWorld (fun w' => w'.cell? ⟨w.heap.size, 0, none⟩ = some (.int .i64 v0) ∧ w'.cell? ⟨w.heap.size, 1, none⟩ = some (.int .i64 v1) ∧ w'.cell? ⟨w.heap.size, 2, none⟩ = some (.int .i64 s0) ∧ w'.cell? ⟨w.heap.size, 3, none⟩ = some (.int .i64 s1) ∧ w'.cell? ⟨w.heap.size, 4, none⟩ = some (.int .i64 c0) ∧ w'.cell? ⟨w.heap.size, 5, none⟩ = some (.int .i64 c1) ∧ w'.cell? ⟨w.heap.size + 1, 0, none⟩ = some (.int .i64 a0) ∧ w'.cell? ⟨w.heap.size + 1, 1, none⟩ = some (.int .i64 a1) ∧ w'.cell? ⟨w.heap.size + 1, 2, none⟩ = some (.int .i64 g0) ∧ w'.cell? ⟨w.heap.size + 1, 3, none⟩ = some (.int .i64 g1) ∧ w'.cell? ⟨w.heap.size + 1 + 1 + 1 + 1 + 1, 0, none⟩ = some (.int .i64 (lft a1 days)) ∧ w'.cell? ⟨w.heap.size + 1 + 1 + 1 + 1 + 1, 1, none⟩ = some (.int .i64 (lft a0 days)) ∧ w'.cell? ⟨w.heap.size + 1 + 1, 0, none⟩ = some (cv w' ⟨w.heap.size + 1 + 1, 0, none⟩) ∧ w'.cell? ⟨w.heap.size + 1 + 1, 1, none⟩ = some (cv w' ⟨w.heap.size + 1 + 1, 1, none⟩) ∧ w'.cell? ⟨w.heap.size + 1 + 1, 2, none⟩ = some (cv w' ⟨w.heap.size + 1 + 1, 2, none⟩) ∧ w'.cell? ⟨w.heap.size + 1 + 1, 3, none⟩ = some (cv w' ⟨w.heap.size + 1 + 1, 3, none⟩) ∧ w'.cell? ⟨w.heap.size + 1 + 1, 4, none⟩ = some (cv w' ⟨w.heap.size + 1 + 1, 4, none⟩) ∧ w'.cell? ⟨w.heap.size + 1 + 1, 5, none⟩ = some (cv w' ⟨w.heap.size + 1 + 1, 5, none⟩) ∧ w'.frozen? ⟨w.heap.size + 1 + 1, 0, none⟩ = false ∧ w'.frozen? ⟨w.heap.size + 1 + 1, 1, none⟩ = false ∧ w'.frozen? ⟨w.heap.size + 1 + 1, 2, none⟩ = false ∧ w'.frozen? ⟨w.heap.size + 1 + 1, 3, none⟩ = false ∧ w'.frozen? ⟨w.heap.size + 1 + 1, 4, none⟩ = false ∧ w'.frozen? ⟨w.heap.size + 1 + 1, 5, none⟩ = false ∧ Below w.heap.size w w' ∧ w.heap.size + 1 + 1 + 1 + 1 + 1 < w'.heap.size) (by refine ⟨?_, ?_, ?_, ?_, ?_, ?_, ?_, ?_, ?_, ?_, ?_, ?_, ?_, ?_, ?_, ?_, ?_, ?_, ?_, ?_, ?_, ?_, ?_, ?_, ?_, ?_⟩ <;> first | (with_reducible assumption) | (go_grown; done) | (go_cell; done) | go_size | ((repeat first | (with_reducible assumption) | (with_reducible refine szA ?_) | (with_reducible refine szS ?_) | (with_reducible refine szD ?_)); done) | ((repeat first | (with_reducible assumption) | (with_reducible refine cvA ?_) | (with_reducible refine cvS ?_) | (with_reducible refine cvD ?_)); done) | (refine cv_of (v := .int .i64 0) ?_; go_cell; done) | (go_simp; done) | go_keep) (fun wc hc => ?_)
    obtain ⟨x0, x1, x2, x3, x4, x5, x6, x7, x8, x9, x10, x11, r0, r1, r2, r3, r4, r5, z0, z1, z2, z3, z4, z5, hB, hz⟩ := hc
    have hr := Lib.hid (And.intro r0 (And.intro r1 (And.intro r2 (And.intro r3 (And.intro r4 (And.intro r5 (And.intro z0 (And.intro z1 (And.intro z2 (And.intro z3 (And.intro z4 z5)))))))))))
    clear r0 r1 r2 r3 r4 r5 z0 z1 z2 z3 z4 z5
    have l0 : -1000000000000000000 ≤ v0 * lft a1 days := by omega
    have m0 : v0 * lft a1 days ≤ 1000000000000000000 := by omega
    have l1 : -1000000000000000000 ≤ v1 * lft a0 days := by omega
    have m1 : v1 * lft a0 days ≤ 1000000000000000000 := by omega
    have l2 : -1000000000000000000 ≤ c0 * 1000000 := by omega
    have m2 : c0 * 1000000 ≤ 1000000000000000000 := by omega
    have l3 : -1000000000000000000 ≤ c1 * 1000000 := by omega
    have m3 : c1 * 1000000 ≤ 1000000000000000000 := by omega
    have e0 : 0 < lft a0 days := by omega
    have q0 : lft a0 days ≤ 1000000000000000000 := by omega
    have e1 : 0 < lft a1 days := by omega
    have q1 : lft a1 days ≤ 1000000000000000000 := by omega
    have u0 : IntKind.i64.wrap (v0 * lft a1 days) = v0 * lft a1 days := IntWalk.i64_in _ (by omega)
    have u1 : IntKind.i64.wrap (v1 * lft a0 days) = v1 * lft a0 days := IntWalk.i64_in _ (by omega)
    have u2 : IntKind.i64.wrap (c0 * 1000000) = c0 * 1000000 := IntWalk.i64_in _ (by omega)
    have u3 : IntKind.i64.wrap (c1 * 1000000) = c1 * 1000000 := IntWalk.i64_in _ (by omega)
    go_region_held3 (fun w' => w'.cell? ⟨w.heap.size, 0, none⟩ = some (.int .i64 v0) ∧ w'.cell? ⟨w.heap.size, 1, none⟩ = some (.int .i64 v1) ∧ w'.cell? ⟨w.heap.size, 2, none⟩ = some (.int .i64 s0) ∧ w'.cell? ⟨w.heap.size, 3, none⟩ = some (.int .i64 s1) ∧ w'.cell? ⟨w.heap.size, 4, none⟩ = some (.int .i64 c0) ∧ w'.cell? ⟨w.heap.size, 5, none⟩ = some (.int .i64 c1) ∧ w'.cell? ⟨w.heap.size + 1, 0, none⟩ = some (.int .i64 a0) ∧ w'.cell? ⟨w.heap.size + 1, 1, none⟩ = some (.int .i64 a1) ∧ w'.cell? ⟨w.heap.size + 1, 2, none⟩ = some (.int .i64 g0) ∧ w'.cell? ⟨w.heap.size + 1, 3, none⟩ = some (.int .i64 g1) ∧ w'.cell? ⟨w.heap.size + 1 + 1 + 1 + 1 + 1, 0, none⟩ = some (.int .i64 (lft a1 days)) ∧ w'.cell? ⟨w.heap.size + 1 + 1 + 1 + 1 + 1, 1, none⟩ = some (.int .i64 (lft a0 days)) ∧ Below wc.heap.size wc w')
        (first | (with_reducible assumption) | (have hk2 := hk1.out; have hk3 := hk2.size; (try go_split_ands); refine pack12 ?_ x0 x1 x2 x3 x4 x5 x6 x7 x8 x9 x10 x11; (first | (with_reducible assumption) | (with_reducible exact Below.refl _ _) | ((with_reducible apply belowSeq hb1); (with_reducible assumption)) | ((with_reducible refine Below.alloc ?_ ?_ _) <;> first | (with_reducible assumption) | (exact Below.size (by with_reducible assumption))) | (go_grown; done))) | ((try go_split_ands); refine pack12 ?_ x0 x1 x2 x3 x4 x5 x6 x7 x8 x9 x10 x11; (first | (with_reducible assumption) | (with_reducible exact Below.refl _ _) | ((with_reducible apply belowSeq hb1); (with_reducible assumption)) | ((with_reducible refine Below.alloc ?_ ?_ _) <;> first | (with_reducible assumption) | (exact Below.size (by with_reducible assumption))) | (go_grown; done))))
        (first
          | (go_at_call 36; go_call fl_any as e w1 ⟨rfl, rfl⟩)
          | (go_at_call 37; go_call ce_any as e w1 ⟨rfl, rfl⟩)
          | (go_at_call 90; refine (strength_any _ _ _ _ _ _ _ _ _ _ _ _ a00 a01 a10 a11 g00 g01 g10 g11 s00 s01 s10 s11 d0 d1).mono ?_; rintro e w1 ⟨rfl, hb1⟩; have hk0 : Below wc.heap.size wc w1 := (by refine belowSeq hb1 ?_; (try go_split_ands); (first | (with_reducible assumption) | (with_reducible exact Below.refl _ _) | ((with_reducible apply belowSeq hb1); (with_reducible assumption)) | ((with_reducible refine Below.alloc ?_ ?_ _) <;> first | (with_reducible assumption) | (exact Below.size (by with_reducible assumption))) | (go_grown; done))); have hk1 := Lib.hid hk0; clear hk0; (try (first | (with_reducible have nk := newKept hb1) | (with_reducible have nk := newKeptD hb1))); (try have n0 := nk 0 (.int .i64 0) (by simp)); (try have n1 := nk 1 (.int .i64 0) (by simp)); (try have n2 := nk 2 (.int .i64 0) (by simp)); (try have n3 := nk 3 (.int .i64 0) (by simp)); (try have n4 := nk 4 (.int .i64 0) (by simp)); (try have n5 := nk 5 (.int .i64 0) (by simp)); (try clear nk)))
    all_goals (rename_i hS; have hX := hS.2.2.2.2.2.2.2.2.2.2.2.2; clear hS; obtain ⟨r0, r1, r2, r3, r4, r5, z0, z1, z2, z3, z4, z5⟩ := hr.out; try (have hq := hk1.out.size))
    all_goals (go_wp2_with fail; go_meet)
    all_goals (refine ⟨_, rfl, ?_, ?_, ?_, ?_, ?_, ?_, ?_, ?_, ?_, ?_, ?_, ?_, ?_, ?_, ?_, ?_, ?_, ?_, ?_, ?_⟩)
    all_goals first | (show _ < _; omega) | (with_reducible apply keepV hX r0) | (with_reducible apply keepV hX r1) | (with_reducible apply keepV hX r2) | (with_reducible apply keepV hX r3) | (with_reducible apply keepV hX r4) | (with_reducible apply keepV hX r5) | (with_reducible apply keepF hX r0 z0) | (with_reducible apply keepF hX r1 z1) | (with_reducible apply keepF hX r2 z2) | (with_reducible apply keepF hX r3 z3) | (with_reducible apply keepF hX r4 z4) | (with_reducible apply keepF hX r5 z5) | (with_reducible apply belowSeq hX hB) | (go_cell; done)
  case rest =>
    obtain ⟨b9, rfl, hb9, o0, o1, o2, o3, o4, o5, r0, r1, r2, r3, r4, r5, z0, z1, z2, z3, z4, z5, hB⟩ := hcut
    have rr0 : ∀ x0 : Value, (wc.setCell ⟨w.heap.size + 1 + 1, 0, none⟩ x0).cell? ⟨w.heap.size + 1 + 1, 0, none⟩ = some x0 := fun _ => World.cell?_setCell_same _ _ _ (r0)
    have rr1 : ∀ x0 x1 : Value, ((wc.setCell ⟨w.heap.size + 1 + 1, 0, none⟩ x0).setCell ⟨w.heap.size + 1 + 1, 1, none⟩ x1).cell? ⟨w.heap.size + 1 + 1, 1, none⟩ = some x1 := fun _ _ => World.cell?_setCell_same _ _ _ (cvS (r1))
    have rr2 : ∀ x0 x1 x2 : Value, (((wc.setCell ⟨w.heap.size + 1 + 1, 0, none⟩ x0).setCell ⟨w.heap.size + 1 + 1, 1, none⟩ x1).setCell ⟨w.heap.size + 1 + 1, 2, none⟩ x2).cell? ⟨w.heap.size + 1 + 1, 2, none⟩ = some x2 := fun _ _ _ => World.cell?_setCell_same _ _ _ (cvS (cvS (r2)))
    have rr3 : ∀ x0 x1 x2 x3 : Value, ((((wc.setCell ⟨w.heap.size + 1 + 1, 0, none⟩ x0).setCell ⟨w.heap.size + 1 + 1, 1, none⟩ x1).setCell ⟨w.heap.size + 1 + 1, 2, none⟩ x2).setCell ⟨w.heap.size + 1 + 1, 3, none⟩ x3).cell? ⟨w.heap.size + 1 + 1, 3, none⟩ = some x3 := fun _ _ _ _ => World.cell?_setCell_same _ _ _ (cvS (cvS (cvS (r3))))
    have rr4 : ∀ x0 x1 x2 x3 x4 : Value, (((((wc.setCell ⟨w.heap.size + 1 + 1, 0, none⟩ x0).setCell ⟨w.heap.size + 1 + 1, 1, none⟩ x1).setCell ⟨w.heap.size + 1 + 1, 2, none⟩ x2).setCell ⟨w.heap.size + 1 + 1, 3, none⟩ x3).setCell ⟨w.heap.size + 1 + 1, 4, none⟩ x4).cell? ⟨w.heap.size + 1 + 1, 4, none⟩ = some x4 := fun _ _ _ _ _ => World.cell?_setCell_same _ _ _ (cvS (cvS (cvS (cvS (r4)))))
    have rr5 : ∀ x0 x1 x2 x3 x4 x5 : Value, ((((((wc.setCell ⟨w.heap.size + 1 + 1, 0, none⟩ x0).setCell ⟨w.heap.size + 1 + 1, 1, none⟩ x1).setCell ⟨w.heap.size + 1 + 1, 2, none⟩ x2).setCell ⟨w.heap.size + 1 + 1, 3, none⟩ x3).setCell ⟨w.heap.size + 1 + 1, 4, none⟩ x4).setCell ⟨w.heap.size + 1 + 1, 5, none⟩ x5).cell? ⟨w.heap.size + 1 + 1, 5, none⟩ = some x5 := fun _ _ _ _ _ _ => World.cell?_setCell_same _ _ _ (cvS (cvS (cvS (cvS (cvS (r5))))))
    by_cases nl : 10000 < ce (s1 * lft g0 days) (lft a1 days)
    · have E := Lib.hid (show aftR v0 v1 s0 s1 c0 c1 a0 a1 g0 g1 days = .tuple #[.agg #[.int .i64 0, .int .i64 0, .int .i64 0, .int .i64 0, .int .i64 0, .int .i64 0], .int .i64 8] from if_pos (Or.inl nl))
      go_wp2
      exact bodyPost_ret (v := .tuple #[.agg #[.int .i64 0, .int .i64 0, .int .i64 0, .int .i64 0, .int .i64 0, .int .i64 0], .int .i64 8]) (by simp [results, Try.results70, go_sem, rr0, rr1, rr2, rr3, rr4, rr5]) rfl ⟨by rw [E.out], by go_grown⟩
    · by_cases nc : 100000 < ce (c1 * 1000000) (lft a1 days)
      · have E := Lib.hid (show aftR v0 v1 s0 s1 c0 c1 a0 a1 g0 g1 days = .tuple #[.agg #[.int .i64 0, .int .i64 0, .int .i64 0, .int .i64 0, .int .i64 0, .int .i64 0], .int .i64 8] from if_pos (Or.inr nc))
        go_wp2
        exact bodyPost_ret (v := .tuple #[.agg #[.int .i64 0, .int .i64 0, .int .i64 0, .int .i64 0, .int .i64 0, .int .i64 0], .int .i64 8]) (by simp [results, Try.results70, go_sem, rr0, rr1, rr2, rr3, rr4, rr5]) rfl ⟨by rw [E.out], by go_grown⟩
      · have E := Lib.hid (show aftR v0 v1 s0 s1 c0 c1 a0 a1 g0 g1 days = .tuple #[.agg #[.int .i64 (fl (v0 * lft a1 days) 1000000), .int .i64 (ce (v1 * lft a0 days) 1000000), .int .i64 (fl (s0 * lft g1 days) (lft a0 days)), .int .i64 (ce (s1 * lft g0 days) (lft a1 days)), .int .i64 (fl (c0 * 1000000) (lft a0 days)), .int .i64 (ce (c1 * 1000000) (lft a1 days))], .int .i64 0] from if_neg (fun h => h.elim nl nc))
        go_wp2
        exact bodyPost_ret (v := .tuple #[.agg #[.int .i64 (fl (v0 * lft a1 days) 1000000), .int .i64 (ce (v1 * lft a0 days) 1000000), .int .i64 (fl (s0 * lft g1 days) (lft a0 days)), .int .i64 (ce (s1 * lft g0 days) (lft a1 days)), .int .i64 (fl (c0 * 1000000) (lft a0 days)), .int .i64 (ce (c1 * 1000000) (lft a1 days))], .int .i64 0]) (by simp [results, Try.results70, go_sem, rr0, rr1, rr2, rr3, rr4, rr5]) rfl ⟨by rw [E.out], by go_grown⟩
end Go.Proofs.Ytpccfjdgnmmfoaa
