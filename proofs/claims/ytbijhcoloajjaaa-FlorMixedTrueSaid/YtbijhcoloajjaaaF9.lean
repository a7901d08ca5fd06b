/- flor's own SpiritFor. -/
import Derived.Test.YtbijhcoloajjaaaF8
namespace Go.Proofs.Ytbijhcoloajjaaa
open Go.RowKit

theorem keepS8_0 {w W w1 : World} {p0 p1 p2 p3 p4 p5 p6 p7 : Addr} {v0 v1 v2 v3 v4 v5 v6 v7 : Value} (hb : Below W.heap.size W w1) (h : W.cell? p0 = some v0 ∧ W.cell? p1 = some v1 ∧ W.cell? p2 = some v2 ∧ W.cell? p3 = some v3 ∧ W.cell? p4 = some v4 ∧ W.cell? p5 = some v5 ∧ W.cell? p6 = some v6 ∧ W.cell? p7 = some v7 ∧ Below w.heap.size w W) : w1.cell? p0 = some v0 ∧ w1.cell? p1 = some v1 ∧ w1.cell? p2 = some v2 ∧ w1.cell? p3 = some v3 ∧ w1.cell? p4 = some v4 ∧ w1.cell? p5 = some v5 ∧ w1.cell? p6 = some v6 ∧ w1.cell? p7 = some v7 ∧ Below w.heap.size w w1 := by
  obtain ⟨h0, h1, h2, h3, h4, h5, h6, h7, hB⟩ := h
  exact ⟨keepC hb h0, keepC hb h1, keepC hb h2, keepC hb h3, keepC hb h4, keepC hb h5, keepC hb h6, keepC hb h7, belowSeq hb hB⟩
theorem allocS8_0 {w W : World} {o : Obj} {p0 p1 p2 p3 p4 p5 p6 p7 : Addr} {v0 v1 v2 v3 v4 v5 v6 v7 : Value} (h : W.cell? p0 = some v0 ∧ W.cell? p1 = some v1 ∧ W.cell? p2 = some v2 ∧ W.cell? p3 = some v3 ∧ W.cell? p4 = some v4 ∧ W.cell? p5 = some v5 ∧ W.cell? p6 = some v6 ∧ W.cell? p7 = some v7 ∧ Below w.heap.size w W) : (W.alloc o).cell? p0 = some v0 ∧ (W.alloc o).cell? p1 = some v1 ∧ (W.alloc o).cell? p2 = some v2 ∧ (W.alloc o).cell? p3 = some v3 ∧ (W.alloc o).cell? p4 = some v4 ∧ (W.alloc o).cell? p5 = some v5 ∧ (W.alloc o).cell? p6 = some v6 ∧ (W.alloc o).cell? p7 = some v7 ∧ Below w.heap.size w (W.alloc o) := keepS8_0 ((Below.refl _ _).alloc (Nat.le_refl _) o) h
theorem drewS8_0 {w W : World} {p0 p1 p2 p3 p4 p5 p6 p7 : Addr} {v0 v1 v2 v3 v4 v5 v6 v7 : Value} (h : W.cell? p0 = some v0 ∧ W.cell? p1 = some v1 ∧ W.cell? p2 = some v2 ∧ W.cell? p3 = some v3 ∧ W.cell? p4 = some v4 ∧ W.cell? p5 = some v5 ∧ W.cell? p6 = some v6 ∧ W.cell? p7 = some v7 ∧ Below w.heap.size w W) : W.drew.cell? p0 = some v0 ∧ W.drew.cell? p1 = some v1 ∧ W.drew.cell? p2 = some v2 ∧ W.drew.cell? p3 = some v3 ∧ W.drew.cell? p4 = some v4 ∧ W.drew.cell? p5 = some v5 ∧ W.drew.cell? p6 = some v6 ∧ W.drew.cell? p7 = some v7 ∧ Below w.heap.size w W.drew := keepS8_0 ((Below.refl _ _).drew) h
set_option maxHeartbeats 1000000 in
theorem florSpirit_err (v0 v1 s0 s1 c0 c1 st tg : Int) (w : World) (hd : (first4 (wineE v0 v1 s0 s1 c0 c1) (numE st 0 10000) (numE tg 0 10000) (unlE (decide (tg < st)) 11) != 0) = true) :
    Calls Try.prog 18 #[.agg #[.int .i64 v0, .int .i64 v1, .int .i64 s0, .int .i64 s1, .int .i64 c0, .int .i64 c1], .int .i64 st, .int .i64 tg] w fun e w' => e = .returned (.tuple #[.agg #[.int .i64 0, .int .i64 0], .int .i64 (first4 (wineE v0 v1 s0 s1 c0 c1) (numE st 0 10000) (numE tg 0 10000) (unlE (decide (tg < st)) 11))]) ∧ Below w.heap.size w w' := by
  go_enter Try.func18, Try.ntmps18
  go_upto_region 1 with fail
  go_cut [8] (fun s wx => s = .int .i64 (first4 (wineE v0 v1 s0 s1 c0 c1) (numE st 0 10000) (numE tg 0 10000) (unlE (decide (tg < st)) 11)) ∧ wx.cell? ⟨w.heap.size, 0, none⟩ = some (.int .i64 v0) ∧ wx.cell? ⟨w.heap.size, 1, none⟩ = some (.int .i64 v1) ∧ wx.cell? ⟨w.heap.size, 2, none⟩ = some (.int .i64 s0) ∧ wx.cell? ⟨w.heap.size, 3, none⟩ = some (.int .i64 s1) ∧ wx.cell? ⟨w.heap.size, 4, none⟩ = some (.int .i64 c0) ∧ wx.cell? ⟨w.heap.size, 5, none⟩ = some (.int .i64 c1) ∧ wx.cell? ⟨w.heap.size + 1, 0, none⟩ = some (.int .i64 st) ∧ wx.cell? ⟨w.heap.size + 1 + 1, 0, none⟩ = some (.int .i64 tg) ∧ wx.cell? ⟨w.heap.size + 1 + 1 + 1, 0, none⟩ = some (cv wx ⟨w.heap.size + 1 + 1 + 1, 0, none⟩) ∧ wx.cell? ⟨w.heap.size + 1 + 1 + 1, 1, none⟩ = some (cv wx ⟨w.heap.size + 1 + 1 + 1, 1, none⟩) ∧ wx.frozen? ⟨w.heap.size + 1 + 1 + 1, 0, none⟩ = false ∧ wx.frozen? ⟨w.heap.size + 1 + 1 + 1, 1, none⟩ = false ∧ Below w.heap.size w wx)
  case first =>
    refine nameWorld (fun w' => w'.cell? ⟨w.heap.size, 0, none⟩ = some (.int .i64 v0) ∧ w'.cell? ⟨w.heap.size, 1, none⟩ = some (.int .i64 v1) ∧ w'.cell? ⟨w.heap.size, 2, none⟩ = some (.int .i64 s0) ∧ w'.cell? ⟨w.heap.size, 3, none⟩ = some (.int .i64 s1) ∧ w'.cell? ⟨w.heap.size, 4, none⟩ = some (.int .i64 c0) ∧ w'.cell? ⟨w.heap.size, 5, none⟩ = some (.int .i64 c1) ∧ w'.cell? ⟨w.heap.size + 1, 0, none⟩ = some (.int .i64 st) ∧ w'.cell? ⟨w.heap.size + 1 + 1, 0, none⟩ = some (.int .i64 tg) ∧ w'.cell? ⟨w.heap.size + 1 + 1 + 1, 0, none⟩ = some (cv w' ⟨w.heap.size + 1 + 1 + 1, 0, none⟩) ∧ w'.cell? ⟨w.heap.size + 1 + 1 + 1, 1, none⟩ = some (cv w' ⟨w.heap.size + 1 + 1 + 1, 1, none⟩) ∧ w'.frozen? ⟨w.heap.size + 1 + 1 + 1, 0, none⟩ = false ∧ w'.frozen? ⟨w.heap.size + 1 + 1 + 1, 1, none⟩ = false ∧ Below w.heap.size w w') (by refine ⟨?_, ?_, ?_, ?_, ?_, ?_, ?_, ?_, ?_, ?_, ?_, ?_, ?_⟩ <;> first | (with_reducible assumption) | (go_grown; done) | (go_cell; done) | go_size | ((repeat first | (with_reducible assumption) | (with_reducible refine szA ?_) | (with_reducible refine szS ?_) | (with_reducible refine szD ?_)); done) | ((repeat first | (with_reducible assumption) | (with_reducible refine cvA ?_) | (with_reducible refine cvS ?_) | (with_reducible refine cvD ?_)); done) | (refine cv_of (v := .int .i64 0) ?_; go_cell; done) | (go_simp; done) | go_keep) (fun wc hc => ?_)
    obtain ⟨x0, x1, x2, x3, x4, x5, x6, x7, r0, r1, z0, z1, hB⟩ := hc
    go_region_held3 (fun w' => w'.cell? ⟨w.heap.size, 0, none⟩ = some (.int .i64 v0) ∧ w'.cell? ⟨w.heap.size, 1, none⟩ = some (.int .i64 v1) ∧ w'.cell? ⟨w.heap.size, 2, none⟩ = some (.int .i64 s0) ∧ w'.cell? ⟨w.heap.size, 3, none⟩ = some (.int .i64 s1) ∧ w'.cell? ⟨w.heap.size, 4, none⟩ = some (.int .i64 c0) ∧ w'.cell? ⟨w.heap.size, 5, none⟩ = some (.int .i64 c1) ∧ w'.cell? ⟨w.heap.size + 1, 0, none⟩ = some (.int .i64 st) ∧ w'.cell? ⟨w.heap.size + 1 + 1, 0, none⟩ = some (.int .i64 tg) ∧ w'.cell? ⟨w.heap.size + 1 + 1 + 1, 0, none⟩ = some (cv w' ⟨w.heap.size + 1 + 1 + 1, 0, none⟩) ∧ w'.cell? ⟨w.heap.size + 1 + 1 + 1, 1, none⟩ = some (cv w' ⟨w.heap.size + 1 + 1 + 1, 1, none⟩) ∧ w'.frozen? ⟨w.heap.size + 1 + 1 + 1, 0, none⟩ = false ∧ w'.frozen? ⟨w.heap.size + 1 + 1 + 1, 1, none⟩ = false ∧ Below w.heap.size w w')
        (first | (with_reducible assumption) | ((with_reducible apply keepS8_2 hb1); (with_reducible assumption)) | ((with_reducible apply allocS8_2); (with_reducible assumption)) | ((with_reducible apply drewS8_2); (with_reducible assumption)) | ((try go_split_ands); (refine ⟨?_, ?_, ?_, ?_, ?_, ?_, ?_, ?_, ?_, ?_, ?_, ?_, ?_⟩ <;> first | (with_reducible assumption) | (go_grown; done) | (go_cell; done) | go_size | ((repeat first | (with_reducible assumption) | (with_reducible refine szA ?_) | (with_reducible refine szS ?_) | (with_reducible refine szD ?_)); done) | ((repeat first | (with_reducible assumption) | (with_reducible refine cvA ?_) | (with_reducible refine cvS ?_) | (with_reducible refine cvD ?_)); done) | (refine cv_of (v := .int .i64 0) ?_; go_cell; done) | (go_simp; done) | go_keep)))
        (first
          | (go_at_call 31; refine (florCheckWine_any _ _ _ _ _ _ _).mono ?_; rintro e w1 ⟨rfl, hb1⟩)
          | (go_at_call 44; refine (florStrength_any _ _).mono ?_; rintro e w1 ⟨rfl, rfl⟩)
          | (go_at_call 30; refine (unless_any _ _ _).mono ?_; rintro e w1 ⟨rfl, rfl⟩)
          | (go_at_call 29; with_reducible first | (refine Calls.mono (first4_any _ _ _ _ _ _ (newCellD 0 _ rfl) (newCellD 1 _ rfl) (newCellD 2 _ rfl) (newCellD 3 _ rfl)) ?_; rintro e w1 ⟨rfl, rfl⟩) | (refine Calls.mono (first4_any _ _ _ _ _ _ (newCell 0 _ rfl) (newCell 1 _ rfl) (newCell 2 _ rfl) (newCell 3 _ rfl)) ?_; rintro e w1 ⟨rfl, rfl⟩)))
    all_goals (go_wp2_with fail; go_meet)
    all_goals (rename_i hS; exact ⟨rfl, hS⟩)
  case rest =>
    obtain ⟨rfl, x0, x1, x2, x3, x4, x5, x6, x7, r0, r1, z0, z1, hB⟩ := hcut
    go_wp2
    have rr0 : ∀ (x0 : Value) (x1 : Value), ((wc.setCell ⟨w.heap.size + 1 + 1 + 1, 0, none⟩ x0).setCell ⟨w.heap.size + 1 + 1 + 1, 1, none⟩ x1).cell? ⟨w.heap.size + 1 + 1 + 1, 0, none⟩ = some x0 := fun x0 x1 => (set2 r0 r1 x0 x1).1
    have rr1 : ∀ (x0 : Value) (x1 : Value), ((wc.setCell ⟨w.heap.size + 1 + 1 + 1, 0, none⟩ x0).setCell ⟨w.heap.size + 1 + 1 + 1, 1, none⟩ x1).cell? ⟨w.heap.size + 1 + 1 + 1, 1, none⟩ = some x1 := fun x0 x1 => (set2 r0 r1 x0 x1).2
    exact bodyPost_ret (v := .tuple #[.agg #[.int .i64 0, .int .i64 0], .int .i64 (first4 (wineE v0 v1 s0 s1 c0 c1) (numE st 0 10000) (numE tg 0 10000) (unlE (decide (tg < st)) 11))]) (by simp [results, Try.results18, go_sem, rr0, rr1]) rfl ⟨rfl, by go_grown⟩
set_option maxHeartbeats 1000000 in
theorem leastVolume_any (v0 v1 s0 s1 c0 c1 : Int) (w : World)  :
    Calls Try.prog 47 #[.agg #[.int .i64 v0, .int .i64 v1, .int .i64 s0, .int .i64 s1, .int .i64 c0, .int .i64 c1]] w fun e w' => e = .returned (.int .i64 v0) ∧ Below w.heap.size w w' := by
  go_enter Try.func47, Try.ntmps47
  go_wp2
  go_ret
  exact ⟨rfl, by go_grown⟩
set_option maxHeartbeats 1000000 in
theorem mostVolume_any (v0 v1 s0 s1 c0 c1 : Int) (w : World)  :
    Calls Try.prog 48 #[.agg #[.int .i64 v0, .int .i64 v1, .int .i64 s0, .int .i64 s1, .int .i64 c0, .int .i64 c1]] w fun e w' => e = .returned (.int .i64 v1) ∧ Below w.heap.size w w' := by
  go_enter Try.func48, Try.ntmps48
  go_wp2
  go_ret
  exact ⟨rfl, by go_grown⟩
set_option maxHeartbeats 1000000 in
theorem leastStrength_any (v0 v1 s0 s1 c0 c1 : Int) (w : World)  :
    Calls Try.prog 34 #[.agg #[.int .i64 v0, .int .i64 v1, .int .i64 s0, .int .i64 s1, .int .i64 c0, .int .i64 c1]] w fun e w' => e = .returned (.int .i64 s0) ∧ Below w.heap.size w w' := by
  go_enter Try.func34, Try.ntmps34
  go_wp2
  go_ret
  exact ⟨rfl, by go_grown⟩
set_option maxHeartbeats 1000000 in
theorem cloLeast (v0 v1 s0 s1 c0 c1 st tg : Int) (w : World) (bw bs bt : Nat) (a0 : 0 ≤ s1) (a1 : s1 ≤ 10000) (b0 : 0 ≤ v0) (b1 : v0 ≤ 100000) (t0 : 0 ≤ tg) (t1 : tg < st) (t2 : st ≤ 10000)
    (x0 : w.cell? ⟨bw, 0, none⟩ = some (.int .i64 v0)) (x1 : w.cell? ⟨bw, 1, none⟩ = some (.int .i64 v1)) (x2 : w.cell? ⟨bw, 2, none⟩ = some (.int .i64 s0)) (x3 : w.cell? ⟨bw, 3, none⟩ = some (.int .i64 s1)) (x4 : w.cell? ⟨bw, 4, none⟩ = some (.int .i64 c0)) (x5 : w.cell? ⟨bw, 5, none⟩ = some (.int .i64 c1)) (x6 : w.cell? ⟨bs, 0, none⟩ = some (.int .i64 st)) (x7 : w.cell? ⟨bt, 0, none⟩ = some (.int .i64 tg)) :
    Calls Try.prog 45 #[.func (.func 47) #[] #[], .func (.func 35) #[] #[], .pointer (some ⟨bt, 0, none⟩), .pointer (some ⟨bw, 0, none⟩), .pointer (some ⟨bs, 0, none⟩)] w fun e w' => e = .returned (.int .i64 (ndE v0 s1 st tg)) ∧ Below w.heap.size w w' := by
  have hB : Below w.heap.size w w := Below.refl _ _
  obtain ⟨ms, hms⟩ : ∃ ms : Int, (if tg ≤ s1 then 0 else tg - s1) = ms := ⟨_, rfl⟩
  have g0 : 0 ≤ ms ∧ ms ≤ 10000 := by rw [← hms]; split <;> omega
  obtain ⟨g0, g1⟩ := g0
  have hv : ce (v0 * ms) (st - tg) = ndE v0 s1 st tg := by
    rw [← hms, ndE]; split <;> simp [ce]
  have HV := Lib.hid hv
  clear hv
  obtain ⟨m0, m1⟩ := mul_bd v0 ms 100000 10000 b0 b1 g0 g1
  have HM := Lib.hid hms
  clear hms
  have p0 : -1000000000000000000 ≤ v0 * ms := by omega
  have p1 : v0 * ms ≤ 1000000000000000000 := by omega
  have p2 : 0 < st - tg := by omega
  have p3 : st - tg ≤ 1000000000000000000 := by omega
  have u0 : IntKind.i64.wrap (tg - s1) = tg - s1 := IntWalk.i64_in _ (by omega)
  have u1 : IntKind.i64.wrap (v0 * ms) = v0 * ms := IntWalk.i64_in _ (by omega)
  have u2 : IntKind.i64.wrap (st - tg) = st - tg := IntWalk.i64_in _ (by omega)
  go_enter Try.func45, Try.ntmps45
  go_upto_region 1 with fail
  go_cut [8] (fun s wx => s = .int .i64 ms ∧ wx.cell? ⟨bw, 0, none⟩ = some (.int .i64 v0) ∧ wx.cell? ⟨bw, 1, none⟩ = some (.int .i64 v1) ∧ wx.cell? ⟨bw, 2, none⟩ = some (.int .i64 s0) ∧ wx.cell? ⟨bw, 3, none⟩ = some (.int .i64 s1) ∧ wx.cell? ⟨bw, 4, none⟩ = some (.int .i64 c0) ∧ wx.cell? ⟨bw, 5, none⟩ = some (.int .i64 c1) ∧ wx.cell? ⟨bs, 0, none⟩ = some (.int .i64 st) ∧ wx.cell? ⟨bt, 0, none⟩ = some (.int .i64 tg) ∧ Below w.heap.size w wx)
  case first =>
    go_region_held3 (fun w' => w'.cell? ⟨bw, 0, none⟩ = some (.int .i64 v0) ∧ w'.cell? ⟨bw, 1, none⟩ = some (.int .i64 v1) ∧ w'.cell? ⟨bw, 2, none⟩ = some (.int .i64 s0) ∧ w'.cell? ⟨bw, 3, none⟩ = some (.int .i64 s1) ∧ w'.cell? ⟨bw, 4, none⟩ = some (.int .i64 c0) ∧ w'.cell? ⟨bw, 5, none⟩ = some (.int .i64 c1) ∧ w'.cell? ⟨bs, 0, none⟩ = some (.int .i64 st) ∧ w'.cell? ⟨bt, 0, none⟩ = some (.int .i64 tg) ∧ Below w.heap.size w w')
        (first | (with_reducible assumption) | ((with_reducible apply keepS8_0 hb1); (with_reducible assumption)) | ((with_reducible apply allocS8_0); (with_reducible assumption)) | ((with_reducible apply drewS8_0); (with_reducible assumption)) | ((try go_split_ands); (refine ⟨?_, ?_, ?_, ?_, ?_, ?_, ?_, ?_, ?_⟩ <;> first | (with_reducible assumption) | (go_grown; done) | (go_cell; done) | go_size | ((repeat first | (with_reducible assumption) | (with_reducible refine szA ?_) | (with_reducible refine szS ?_) | (with_reducible refine szD ?_)); done) | ((repeat first | (with_reducible assumption) | (with_reducible refine cvA ?_) | (with_reducible refine cvS ?_) | (with_reducible refine cvD ?_)); done) | (refine cv_of (v := .int .i64 0) ?_; go_cell; done) | (go_simp; done) | go_keep)))
        (first
          | (go_at_call 35; refine (mostStrength_any _ _ _ _ _ _ _).mono ?_; rintro e w1 ⟨rfl, hb1⟩))
    all_goals (try go_wp2_with fail)
    all_goals go_meet
    all_goals (refine ⟨congrArg _ ?_, by with_reducible assumption⟩)
    all_goals (have hm := HM.out; split at hm <;> omega)
  case rest =>
    clear hB x0 x1 x2 x3 x4 x5 x6 x7
    obtain ⟨rfl, x0, x1, x2, x3, x4, x5, x6, x7, hB⟩ := hcut
    go_upto_region 1 with fail
    go_region_held3 (fun w' => w'.cell? ⟨bw, 0, none⟩ = some (.int .i64 v0) ∧ w'.cell? ⟨bw, 1, none⟩ = some (.int .i64 v1) ∧ w'.cell? ⟨bw, 2, none⟩ = some (.int .i64 s0) ∧ w'.cell? ⟨bw, 3, none⟩ = some (.int .i64 s1) ∧ w'.cell? ⟨bw, 4, none⟩ = some (.int .i64 c0) ∧ w'.cell? ⟨bw, 5, none⟩ = some (.int .i64 c1) ∧ w'.cell? ⟨bs, 0, none⟩ = some (.int .i64 st) ∧ w'.cell? ⟨bt, 0, none⟩ = some (.int .i64 tg) ∧ Below w.heap.size w w')
        (first | (with_reducible assumption) | ((with_reducible apply keepS8_0 hb1); (with_reducible assumption)) | ((with_reducible apply allocS8_0); (with_reducible assumption)) | ((with_reducible apply drewS8_0); (with_reducible assumption)) | ((try go_split_ands); (refine ⟨?_, ?_, ?_, ?_, ?_, ?_, ?_, ?_, ?_⟩ <;> first | (with_reducible assumption) | (go_grown; done) | (go_cell; done) | go_size | ((repeat first | (with_reducible assumption) | (with_reducible refine szA ?_) | (with_reducible refine szS ?_) | (with_reducible refine szD ?_)); done) | ((repeat first | (with_reducible assumption) | (with_reducible refine cvA ?_) | (with_reducible refine cvS ?_) | (with_reducible refine cvD ?_)); done) | (refine cv_of (v := .int .i64 0) ?_; go_cell; done) | (go_simp; done) | go_keep)))
        (first
          | (go_at_call 47; refine (leastVolume_any _ _ _ _ _ _ _).mono ?_; rintro e w1 ⟨rfl, hb1⟩)
          | (go_at_call 46; go_call fce_any as e w1 ⟨rfl, rfl⟩))
    all_goals go_wp2
    all_goals go_ret
    all_goals (rename_i hS; exact ⟨ret_int HV.out, hS.2.2.2.2.2.2.2.2⟩)
set_option maxHeartbeats 1000000 in
theorem cloMost (v0 v1 s0 s1 c0 c1 st tg : Int) (w : World) (bw bs bt : Nat) (a0 : 0 ≤ s0) (a1 : s0 ≤ 10000) (b0 : 0 ≤ v1) (b1 : v1 ≤ 100000) (t0 : 0 ≤ tg) (t1 : tg < st) (t2 : st ≤ 10000)
    (x0 : w.cell? ⟨bw, 0, none⟩ = some (.int .i64 v0)) (x1 : w.cell? ⟨bw, 1, none⟩ = some (.int .i64 v1)) (x2 : w.cell? ⟨bw, 2, none⟩ = some (.int .i64 s0)) (x3 : w.cell? ⟨bw, 3, none⟩ = some (.int .i64 s1)) (x4 : w.cell? ⟨bw, 4, none⟩ = some (.int .i64 c0)) (x5 : w.cell? ⟨bw, 5, none⟩ = some (.int .i64 c1)) (x6 : w.cell? ⟨bs, 0, none⟩ = some (.int .i64 st)) (x7 : w.cell? ⟨bt, 0, none⟩ = some (.int .i64 tg)) :
    Calls Try.prog 45 #[.func (.func 48) #[] #[], .func (.func 34) #[] #[], .pointer (some ⟨bt, 0, none⟩), .pointer (some ⟨bw, 0, none⟩), .pointer (some ⟨bs, 0, none⟩)] w fun e w' => e = .returned (.int .i64 (ndE v1 s0 st tg)) ∧ Below w.heap.size w w' := by
  have hB : Below w.heap.size w w := Below.refl _ _
  obtain ⟨ms, hms⟩ : ∃ ms : Int, (if tg ≤ s0 then 0 else tg - s0) = ms := ⟨_, rfl⟩
  have g0 : 0 ≤ ms ∧ ms ≤ 10000 := by rw [← hms]; split <;> omega
  obtain ⟨g0, g1⟩ := g0
  have hv : ce (v1 * ms) (st - tg) = ndE v1 s0 st tg := by
    rw [← hms, ndE]; split <;> simp [ce]
  have HV := Lib.hid hv
  clear hv
  obtain ⟨m0, m1⟩ := mul_bd v1 ms 100000 10000 b0 b1 g0 g1
  have HM := Lib.hid hms
  clear hms
  have p0 : -1000000000000000000 ≤ v1 * ms := by omega
  have p1 : v1 * ms ≤ 1000000000000000000 := by omega
  have p2 : 0 < st - tg := by omega
  have p3 : st - tg ≤ 1000000000000000000 := by omega
  have u0 : IntKind.i64.wrap (tg - s0) = tg - s0 := IntWalk.i64_in _ (by omega)
  have u1 : IntKind.i64.wrap (v1 * ms) = v1 * ms := IntWalk.i64_in _ (by omega)
  have u2 : IntKind.i64.wrap (st - tg) = st - tg := IntWalk.i64_in _ (by omega)
  go_enter Try.func45, Try.ntmps45
  go_upto_region 1 with fail
  go_cut [8] (fun s wx => s = .int .i64 ms ∧ wx.cell? ⟨bw, 0, none⟩ = some (.int .i64 v0) ∧ wx.cell? ⟨bw, 1, none⟩ = some (.int .i64 v1) ∧ wx.cell? ⟨bw, 2, none⟩ = some (.int .i64 s0) ∧ wx.cell? ⟨bw, 3, none⟩ = some (.int .i64 s1) ∧ wx.cell? ⟨bw, 4, none⟩ = some (.int .i64 c0) ∧ wx.cell? ⟨bw, 5, none⟩ = some (.int .i64 c1) ∧ wx.cell? ⟨bs, 0, none⟩ = some (.int .i64 st) ∧ wx.cell? ⟨bt, 0, none⟩ = some (.int .i64 tg) ∧ Below w.heap.size w wx)
  case first =>
    go_region_held3 (fun w' => w'.cell? ⟨bw, 0, none⟩ = some (.int .i64 v0) ∧ w'.cell? ⟨bw, 1, none⟩ = some (.int .i64 v1) ∧ w'.cell? ⟨bw, 2, none⟩ = some (.int .i64 s0) ∧ w'.cell? ⟨bw, 3, none⟩ = some (.int .i64 s1) ∧ w'.cell? ⟨bw, 4, none⟩ = some (.int .i64 c0) ∧ w'.cell? ⟨bw, 5, none⟩ = some (.int .i64 c1) ∧ w'.cell? ⟨bs, 0, none⟩ = some (.int .i64 st) ∧ w'.cell? ⟨bt, 0, none⟩ = some (.int .i64 tg) ∧ Below w.heap.size w w')
        (first | (with_reducible assumption) | ((with_reducible apply keepS8_0 hb1); (with_reducible assumption)) | ((with_reducible apply allocS8_0); (with_reducible assumption)) | ((with_reducible apply drewS8_0); (with_reducible assumption)) | ((try go_split_ands); (refine ⟨?_, ?_, ?_, ?_, ?_, ?_, ?_, ?_, ?_⟩ <;> first | (with_reducible assumption) | (go_grown; done) | (go_cell; done) | go_size | ((repeat first | (with_reducible assumption) | (with_reducible refine szA ?_) | (with_reducible refine szS ?_) | (with_reducible refine szD ?_)); done) | ((repeat first | (with_reducible assumption) | (with_reducible refine cvA ?_) | (with_reducible refine cvS ?_) | (with_reducible refine cvD ?_)); done) | (refine cv_of (v := .int .i64 0) ?_; go_cell; done) | (go_simp; done) | go_keep)))
        (first
          | (go_at_call 34; refine (leastStrength_any _ _ _ _ _ _ _).mono ?_; rintro e w1 ⟨rfl, hb1⟩))
    all_goals (try go_wp2_with fail)
    all_goals go_meet
    all_goals (refine ⟨congrArg _ ?_, by with_reducible assumption⟩)
    all_goals (have hm := HM.out; split at hm <;> omega)
  case rest =>
    clear hB x0 x1 x2 x3 x4 x5 x6 x7
    obtain ⟨rfl, x0, x1, x2, x3, x4, x5, x6, x7, hB⟩ := hcut
    go_upto_region 1 with fail
    go_region_held3 (fun w' => w'.cell? ⟨bw, 0, none⟩ = some (.int .i64 v0) ∧ w'.cell? ⟨bw, 1, none⟩ = some (.int .i64 v1) ∧ w'.cell? ⟨bw, 2, none⟩ = some (.int .i64 s0) ∧ w'.cell? ⟨bw, 3, none⟩ = some (.int .i64 s1) ∧ w'.cell? ⟨bw, 4, none⟩ = some (.int .i64 c0) ∧ w'.cell? ⟨bw, 5, none⟩ = some (.int .i64 c1) ∧ w'.cell? ⟨bs, 0, none⟩ = some (.int .i64 st) ∧ w'.cell? ⟨bt, 0, none⟩ = some (.int .i64 tg) ∧ Below w.heap.size w w')
        (first | (with_reducible assumption) | ((with_reducible apply keepS8_0 hb1); (with_reducible assumption)) | ((with_reducible apply allocS8_0); (with_reducible assumption)) | ((with_reducible apply drewS8_0); (with_reducible assumption)) | ((try go_split_ands); (refine ⟨?_, ?_, ?_, ?_, ?_, ?_, ?_, ?_, ?_⟩ <;> first | (with_reducible assumption) | (go_grown; done) | (go_cell; done) | go_size | ((repeat first | (with_reducible assumption) | (with_reducible refine szA ?_) | (with_reducible refine szS ?_) | (with_reducible refine szD ?_)); done) | ((repeat first | (with_reducible assumption) | (with_reducible refine cvA ?_) | (with_reducible refine cvS ?_) | (with_reducible refine cvD ?_)); done) | (refine cv_of (v := .int .i64 0) ?_; go_cell; done) | (go_simp; done) | go_keep)))
        (first
          | (go_at_call 48; refine (mostVolume_any _ _ _ _ _ _ _).mono ?_; rintro e w1 ⟨rfl, hb1⟩)
          | (go_at_call 46; go_call fce_any as e w1 ⟨rfl, rfl⟩))
    all_goals go_wp2
    all_goals go_ret
    all_goals (rename_i hS; exact ⟨ret_int HV.out, hS.2.2.2.2.2.2.2.2⟩)
set_option maxRecDepth 100000 in
set_option maxHeartbeats 1000000 in
theorem florSpirit_large0 (v0 v1 s0 s1 c0 c1 st tg : Int) (w : World) (hd : (first4 (wineE v0 v1 s0 s1 c0 c1) (numE st 0 10000) (numE tg 0 10000) (unlE (decide (tg < st)) 11) != 0) = false) (hz : firstE (wineE v0 v1 s0 s1 c0 c1) (strE st) (strE tg) = 0) (hl : tg < st) (hn : 100000 < ndE v1 s0 st tg) :
    Calls Try.prog 18 #[.agg #[.int .i64 v0, .int .i64 v1, .int .i64 s0, .int .i64 s1, .int .i64 c0, .int .i64 c1], .int .i64 st, .int .i64 tg] w fun e w' => e = .returned (.tuple #[.agg #[.int .i64 0, .int .i64 0], .int .i64 8]) ∧ Below w.heap.size w w' := by
  rw [firstE_zero, wineE_zero, strE_zero, strE_zero] at hz
  obtain ⟨⟨⟨V0, V1, V2⟩, ⟨S0, S1, S2⟩, ⟨C0, C1, C2⟩⟩, ⟨T0, T1⟩, U0, U1⟩ := hz
  have HLT := Lib.hid hl
  clear hl
  go_enter Try.func18, Try.ntmps18
  go_upto_region 1 with fail
  go_cut [8] (fun s wx => s = .int .i64 (first4 (wineE v0 v1 s0 s1 c0 c1) (numE st 0 10000) (numE tg 0 10000) (unlE (decide (tg < st)) 11)) ∧ wx.cell? ⟨w.heap.size, 0, none⟩ = some (.int .i64 v0) ∧ wx.cell? ⟨w.heap.size, 1, none⟩ = some (.int .i64 v1) ∧ wx.cell? ⟨w.heap.size, 2, none⟩ = some (.int .i64 s0) ∧ wx.cell? ⟨w.heap.size, 3, none⟩ = some (.int .i64 s1) ∧ wx.cell? ⟨w.heap.size, 4, none⟩ = some (.int .i64 c0) ∧ wx.cell? ⟨w.heap.size, 5, none⟩ = some (.int .i64 c1) ∧ wx.cell? ⟨w.heap.size + 1, 0, none⟩ = some (.int .i64 st) ∧ wx.cell? ⟨w.heap.size + 1 + 1, 0, none⟩ = some (.int .i64 tg) ∧ wx.cell? ⟨w.heap.size + 1 + 1 + 1, 0, none⟩ = some (cv wx ⟨w.heap.size + 1 + 1 + 1, 0, none⟩) ∧ wx.cell? ⟨w.heap.size + 1 + 1 + 1, 1, none⟩ = some (cv wx ⟨w.heap.size + 1 + 1 + 1, 1, none⟩) ∧ wx.frozen? ⟨w.heap.size + 1 + 1 + 1, 0, none⟩ = false ∧ wx.frozen? ⟨w.heap.size + 1 + 1 + 1, 1, none⟩ = false ∧ Below w.heap.size w wx)
  case first =>
    refine nameWorld (fun w' => w'.cell? ⟨w.heap.size, 0, none⟩ = some (.int .i64 v0) ∧ w'.cell? ⟨w.heap.size, 1, none⟩ = some (.int .i64 v1) ∧ w'.cell? ⟨w.heap.size, 2, none⟩ = some (.int .i64 s0) ∧ w'.cell? ⟨w.heap.size, 3, none⟩ = some (.int .i64 s1) ∧ w'.cell? ⟨w.heap.size, 4, none⟩ = some (.int .i64 c0) ∧ w'.cell? ⟨w.heap.size, 5, none⟩ = some (.int .i64 c1) ∧ w'.cell? ⟨w.heap.size + 1, 0, none⟩ = some (.int .i64 st) ∧ w'.cell? ⟨w.heap.size + 1 + 1, 0, none⟩ = some (.int .i64 tg) ∧ w'.cell? ⟨w.heap.size + 1 + 1 + 1, 0, none⟩ = some (cv w' ⟨w.heap.size + 1 + 1 + 1, 0, none⟩) ∧ w'.cell? ⟨w.heap.size + 1 + 1 + 1, 1, none⟩ = some (cv w' ⟨w.heap.size + 1 + 1 + 1, 1, none⟩) ∧ w'.frozen? ⟨w.heap.size + 1 + 1 + 1, 0, none⟩ = false ∧ w'.frozen? ⟨w.heap.size + 1 + 1 + 1, 1, none⟩ = false ∧ Below w.heap.size w w') (by refine ⟨?_, ?_, ?_, ?_, ?_, ?_, ?_, ?_, ?_, ?_, ?_, ?_, ?_⟩ <;> first | (with_reducible assumption) | (go_grown; done) | (go_cell; done) | go_size | ((repeat first | (with_reducible assumption) | (with_reducible refine szA ?_) | (with_reducible refine szS ?_) | (with_reducible refine szD ?_)); done) | ((repeat first | (with_reducible assumption) | (with_reducible refine cvA ?_) | (with_reducible refine cvS ?_) | (with_reducible refine cvD ?_)); done) | (refine cv_of (v := .int .i64 0) ?_; go_cell; done) | (go_simp; done) | go_keep) (fun wc hc => ?_)
    obtain ⟨x0, x1, x2, x3, x4, x5, x6, x7, r0, r1, z0, z1, hB⟩ := hc
    go_region_held3 (fun w' => w'.cell? ⟨w.heap.size, 0, none⟩ = some (.int .i64 v0) ∧ w'.cell? ⟨w.heap.size, 1, none⟩ = some (.int .i64 v1) ∧ w'.cell? ⟨w.heap.size, 2, none⟩ = some (.int .i64 s0) ∧ w'.cell? ⟨w.heap.size, 3, none⟩ = some (.int .i64 s1) ∧ w'.cell? ⟨w.heap.size, 4, none⟩ = some (.int .i64 c0) ∧ w'.cell? ⟨w.heap.size, 5, none⟩ = some (.int .i64 c1) ∧ w'.cell? ⟨w.heap.size + 1, 0, none⟩ = some (.int .i64 st) ∧ w'.cell? ⟨w.heap.size + 1 + 1, 0, none⟩ = some (.int .i64 tg) ∧ w'.cell? ⟨w.heap.size + 1 + 1 + 1, 0, none⟩ = some (cv w' ⟨w.heap.size + 1 + 1 + 1, 0, none⟩) ∧ w'.cell? ⟨w.heap.size + 1 + 1 + 1, 1, none⟩ = some (cv w' ⟨w.heap.size + 1 + 1 + 1, 1, none⟩) ∧ w'.frozen? ⟨w.heap.size + 1 + 1 + 1, 0, none⟩ = false ∧ w'.frozen? ⟨w.heap.size + 1 + 1 + 1, 1, none⟩ = false ∧ Below w.heap.size w w')
        (first | (with_reducible assumption) | ((with_reducible apply keepS8_2 hb1); (with_reducible assumption)) | ((with_reducible apply allocS8_2); (with_reducible assumption)) | ((with_reducible apply drewS8_2); (with_reducible assumption)) | ((try go_split_ands); (refine ⟨?_, ?_, ?_, ?_, ?_, ?_, ?_, ?_, ?_, ?_, ?_, ?_, ?_⟩ <;> first | (with_reducible assumption) | (go_grown; done) | (go_cell; done) | go_size | ((repeat first | (with_reducible assumption) | (with_reducible refine szA ?_) | (with_reducible refine szS ?_) | (with_reducible refine szD ?_)); done) | ((repeat first | (with_reducible assumption) | (with_reducible refine cvA ?_) | (with_reducible refine cvS ?_) | (with_reducible refine cvD ?_)); done) | (refine cv_of (v := .int .i64 0) ?_; go_cell; done) | (go_simp; done) | go_keep)))
        (first
          | (go_at_call 31; refine (florCheckWine_any _ _ _ _ _ _ _).mono ?_; rintro e w1 ⟨rfl, hb1⟩)
          | (go_at_call 44; refine (florStrength_any _ _).mono ?_; rintro e w1 ⟨rfl, rfl⟩)
          | (go_at_call 30; refine (unless_any _ _ _).mono ?_; rintro e w1 ⟨rfl, rfl⟩)
          | (go_at_call 29; with_reducible first | (refine Calls.mono (first4_any _ _ _ _ _ _ (newCellD 0 _ rfl) (newCellD 1 _ rfl) (newCellD 2 _ rfl) (newCellD 3 _ rfl)) ?_; rintro e w1 ⟨rfl, rfl⟩) | (refine Calls.mono (first4_any _ _ _ _ _ _ (newCell 0 _ rfl) (newCell 1 _ rfl) (newCell 2 _ rfl) (newCell 3 _ rfl)) ?_; rintro e w1 ⟨rfl, rfl⟩)))
    all_goals (go_wp2_with fail; go_meet)
    all_goals (rename_i hS; exact ⟨rfl, hS⟩)
  case rest =>
    obtain ⟨rfl, x0, x1, x2, x3, x4, x5, x6, x7, r0, r1, z0, z1, hB⟩ := hcut
    have K1 := Lib.hid (cloLeast v0 v1 s0 s1 c0 c1 st tg wc w.heap.size (w.heap.size + 1) (w.heap.size + 1 + 1) (by omega) (by omega) (by omega) (by omega) U0 HLT.out T1 x0 x1 x2 x3 x4 x5 x6 x7)
    have K2 := Lib.hid (fun (w2 : World) y0 y1 y2 y3 y4 y5 y6 y7 => cloMost v0 v1 s0 s1 c0 c1 st tg w2 w.heap.size (w.heap.size + 1) (w.heap.size + 1 + 1) (by omega) (by omega) (by omega) (by omega) U0 HLT.out T1 y0 y1 y2 y3 y4 y5 y6 y7)
    go_wp2_with (first | (go_at_call 45; (with_reducible refine Calls.mono K1.out ?_); rintro e w2 ⟨rfl, hb2⟩; have y0 := keepC hb2 x0; have y1 := keepC hb2 x1; have y2 := keepC hb2 x2; have y3 := keepC hb2 x3; have y4 := keepC hb2 x4; have y5 := keepC hb2 x5; have y6 := keepC hb2 x6; have y7 := keepC hb2 x7; have R0 := keepV hb2 r0; have R1 := keepV hb2 r1; have Z0 := keepF hb2 r0 z0; have Z1 := keepF hb2 r1 z1; have hB2 := belowSeq hb2 hB) | (go_at_call 45; (with_reducible refine Calls.mono (K2.out w2 y0 y1 y2 y3 y4 y5 y6 y7) ?_); rintro e w3 ⟨rfl, hb3⟩; have M0 := keepV hb3 R0; have M1 := keepV hb3 R1; have Y0 := keepF hb3 R0 Z0; have Y1 := keepF hb3 R1 Z1; have hz : w.heap.size + 1 + 1 + 1 < w3.heap.size := World.block_lt_of_cell? w3 _ M0; have hB3 := belowSeq hb3 hB2) | ((with_reducible refine bodyPost_ret (v := .tuple #[.agg #[.int .i64 0, .int .i64 0], .int .i64 8]) ?_ rfl ?_); (have rr0 : ∀ (o0 : Obj) (x0 : Value) (x1 : Value), (((w3.setCell ⟨w.heap.size + 1 + 1 + 1, 0, none⟩ x0).setCell ⟨w.heap.size + 1 + 1 + 1, 1, none⟩ x1).alloc o0).cell? ⟨w.heap.size + 1 + 1 + 1, 0, none⟩ = some x0 := fun _ x0 x1 => keepC ((Below.refl _ _).alloc (Nat.le_refl _) _) ((set2 M0 M1 x0 x1).1); have rr1 : ∀ (o0 : Obj) (x0 : Value) (x1 : Value), (((w3.setCell ⟨w.heap.size + 1 + 1 + 1, 0, none⟩ x0).setCell ⟨w.heap.size + 1 + 1 + 1, 1, none⟩ x1).alloc o0).cell? ⟨w.heap.size + 1 + 1 + 1, 1, none⟩ = some x1 := fun _ x0 x1 => keepC ((Below.refl _ _).alloc (Nat.le_refl _) _) ((set2 M0 M1 x0 x1).2); simp [results, Try.results18, go_sem, rr0, rr1]); exact ⟨rfl, by go_grown⟩))
set_option maxRecDepth 100000 in
set_option maxHeartbeats 1000000 in
theorem florSpirit_fine0 (v0 v1 s0 s1 c0 c1 st tg : Int) (w : World) (hd : (first4 (wineE v0 v1 s0 s1 c0 c1) (numE st 0 10000) (numE tg 0 10000) (unlE (decide (tg < st)) 11) != 0) = false) (hz : firstE (wineE v0 v1 s0 s1 c0 c1) (strE st) (strE tg) = 0) (hl : tg < st) (hn : ndE v1 s0 st tg ≤ 100000) :
    Calls Try.prog 18 #[.agg #[.int .i64 v0, .int .i64 v1, .int .i64 s0, .int .i64 s1, .int .i64 c0, .int .i64 c1], .int .i64 st, .int .i64 tg] w fun e w' => e = .returned (.tuple #[.agg #[.int .i64 (ndE v0 s1 st tg), .int .i64 (ndE v1 s0 st tg)], .int .i64 0]) ∧ Below w.heap.size w w' := by
  rw [firstE_zero, wineE_zero, strE_zero, strE_zero] at hz
  obtain ⟨⟨⟨V0, V1, V2⟩, ⟨S0, S1, S2⟩, ⟨C0, C1, C2⟩⟩, ⟨T0, T1⟩, U0, U1⟩ := hz
  have HLT := Lib.hid hl
  clear hl
  go_enter Try.func18, Try.ntmps18
  go_upto_region 1 with fail
  go_cut [8] (fun s wx => s = .int .i64 (first4 (wineE v0 v1 s0 s1 c0 c1) (numE st 0 10000) (numE tg 0 10000) (unlE (decide (tg < st)) 11)) ∧ wx.cell? ⟨w.heap.size, 0, none⟩ = some (.int .i64 v0) ∧ wx.cell? ⟨w.heap.size, 1, none⟩ = some (.int .i64 v1) ∧ wx.cell? ⟨w.heap.size, 2, none⟩ = some (.int .i64 s0) ∧ wx.cell? ⟨w.heap.size, 3, none⟩ = some (.int .i64 s1) ∧ wx.cell? ⟨w.heap.size, 4, none⟩ = some (.int .i64 c0) ∧ wx.cell? ⟨w.heap.size, 5, none⟩ = some (.int .i64 c1) ∧ wx.cell? ⟨w.heap.size + 1, 0, none⟩ = some (.int .i64 st) ∧ wx.cell? ⟨w.heap.size + 1 + 1, 0, none⟩ = some (.int .i64 tg) ∧ wx.cell? ⟨w.heap.size + 1 + 1 + 1, 0, none⟩ = some (cv wx ⟨w.heap.size + 1 + 1 + 1, 0, none⟩) ∧ wx.cell? ⟨w.heap.size + 1 + 1 + 1, 1, none⟩ = some (cv wx ⟨w.heap.size + 1 + 1 + 1, 1, none⟩) ∧ wx.frozen? ⟨w.heap.size + 1 + 1 + 1, 0, none⟩ = false ∧ wx.frozen? ⟨w.heap.size + 1 + 1 + 1, 1, none⟩ = false ∧ Below w.heap.size w wx)
  case first =>
    refine nameWorld (fun w' => w'.cell? ⟨w.heap.size, 0, none⟩ = some (.int .i64 v0) ∧ w'.cell? ⟨w.heap.size, 1, none⟩ = some (.int .i64 v1) ∧ w'.cell? ⟨w.heap.size, 2, none⟩ = some (.int .i64 s0) ∧ w'.cell? ⟨w.heap.size, 3, none⟩ = some (.int .i64 s1) ∧ w'.cell? ⟨w.heap.size, 4, none⟩ = some (.int .i64 c0) ∧ w'.cell? ⟨w.heap.size, 5, none⟩ = some (.int .i64 c1) ∧ w'.cell? ⟨w.heap.size + 1, 0, none⟩ = some (.int .i64 st) ∧ w'.cell? ⟨w.heap.size + 1 + 1, 0, none⟩ = some (.int .i64 tg) ∧ w'.cell? ⟨w.heap.size + 1 + 1 + 1, 0, none⟩ = some (cv w' ⟨w.heap.size + 1 + 1 + 1, 0, none⟩) ∧ w'.cell? ⟨w.heap.size + 1 + 1 + 1, 1, none⟩ = some (cv w' ⟨w.heap.size + 1 + 1 + 1, 1, none⟩) ∧ w'.frozen? ⟨w.heap.size + 1 + 1 + 1, 0, none⟩ = false ∧ w'.frozen? ⟨w.heap.size + 1 + 1 + 1, 1, none⟩ = false ∧ Below w.heap.size w w') (by refine ⟨?_, ?_, ?_, ?_, ?_, ?_, ?_, ?_, ?_, ?_, ?_, ?_, ?_⟩ <;> first | (with_reducible assumption) | (go_grown; done) | (go_cell; done) | go_size | ((repeat first | (with_reducible assumption) | (with_reducible refine szA ?_) | (with_reducible refine szS ?_) | (with_reducible refine szD ?_)); done) | ((repeat first | (with_reducible assumption) | (with_reducible refine cvA ?_) | (with_reducible refine cvS ?_) | (with_reducible refine cvD ?_)); done) | (refine cv_of (v := .int .i64 0) ?_; go_cell; done) | (go_simp; done) | go_keep) (fun wc hc => ?_)
    obtain ⟨x0, x1, x2, x3, x4, x5, x6, x7, r0, r1, z0, z1, hB⟩ := hc
    go_region_held3 (fun w' => w'.cell? ⟨w.heap.size, 0, none⟩ = some (.int .i64 v0) ∧ w'.cell? ⟨w.heap.size, 1, none⟩ = some (.int .i64 v1) ∧ w'.cell? ⟨w.heap.size, 2, none⟩ = some (.int .i64 s0) ∧ w'.cell? ⟨w.heap.size, 3, none⟩ = some (.int .i64 s1) ∧ w'.cell? ⟨w.heap.size, 4, none⟩ = some (.int .i64 c0) ∧ w'.cell? ⟨w.heap.size, 5, none⟩ = some (.int .i64 c1) ∧ w'.cell? ⟨w.heap.size + 1, 0, none⟩ = some (.int .i64 st) ∧ w'.cell? ⟨w.heap.size + 1 + 1, 0, none⟩ = some (.int .i64 tg) ∧ w'.cell? ⟨w.heap.size + 1 + 1 + 1, 0, none⟩ = some (cv w' ⟨w.heap.size + 1 + 1 + 1, 0, none⟩) ∧ w'.cell? ⟨w.heap.size + 1 + 1 + 1, 1, none⟩ = some (cv w' ⟨w.heap.size + 1 + 1 + 1, 1, none⟩) ∧ w'.frozen? ⟨w.heap.size + 1 + 1 + 1, 0, none⟩ = false ∧ w'.frozen? ⟨w.heap.size + 1 + 1 + 1, 1, none⟩ = false ∧ Below w.heap.size w w')
        (first | (with_reducible assumption) | ((with_reducible apply keepS8_2 hb1); (with_reducible assumption)) | ((with_reducible apply allocS8_2); (with_reducible assumption)) | ((with_reducible apply drewS8_2); (with_reducible assumption)) | ((try go_split_ands); (refine ⟨?_, ?_, ?_, ?_, ?_, ?_, ?_, ?_, ?_, ?_, ?_, ?_, ?_⟩ <;> first | (with_reducible assumption) | (go_grown; done) | (go_cell; done) | go_size | ((repeat first | (with_reducible assumption) | (with_reducible refine szA ?_) | (with_reducible refine szS ?_) | (with_reducible refine szD ?_)); done) | ((repeat first | (with_reducible assumption) | (with_reducible refine cvA ?_) | (with_reducible refine cvS ?_) | (with_reducible refine cvD ?_)); done) | (refine cv_of (v := .int .i64 0) ?_; go_cell; done) | (go_simp; done) | go_keep)))
        (first
          | (go_at_call 31; refine (florCheckWine_any _ _ _ _ _ _ _).mono ?_; rintro e w1 ⟨rfl, hb1⟩)
          | (go_at_call 44; refine (florStrength_any _ _).mono ?_; rintro e w1 ⟨rfl, rfl⟩)
          | (go_at_call 30; refine (unless_any _ _ _).mono ?_; rintro e w1 ⟨rfl, rfl⟩)
          | (go_at_call 29; with_reducible first | (refine Calls.mono (first4_any _ _ _ _ _ _ (newCellD 0 _ rfl) (newCellD 1 _ rfl) (newCellD 2 _ rfl) (newCellD 3 _ rfl)) ?_; rintro e w1 ⟨rfl, rfl⟩) | (refine Calls.mono (first4_any _ _ _ _ _ _ (newCell 0 _ rfl) (newCell 1 _ rfl) (newCell 2 _ rfl) (newCell 3 _ rfl)) ?_; rintro e w1 ⟨rfl, rfl⟩)))
    all_goals (go_wp2_with fail; go_meet)
    all_goals (rename_i hS; exact ⟨rfl, hS⟩)
  case rest =>
    obtain ⟨rfl, x0, x1, x2, x3, x4, x5, x6, x7, r0, r1, z0, z1, hB⟩ := hcut
    have K1 := Lib.hid (cloLeast v0 v1 s0 s1 c0 c1 st tg wc w.heap.size (w.heap.size + 1) (w.heap.size + 1 + 1) (by omega) (by omega) (by omega) (by omega) U0 HLT.out T1 x0 x1 x2 x3 x4 x5 x6 x7)
    have K2 := Lib.hid (fun (w2 : World) y0 y1 y2 y3 y4 y5 y6 y7 => cloMost v0 v1 s0 s1 c0 c1 st tg w2 w.heap.size (w.heap.size + 1) (w.heap.size + 1 + 1) (by omega) (by omega) (by omega) (by omega) U0 HLT.out T1 y0 y1 y2 y3 y4 y5 y6 y7)
    go_wp2_with (first | (go_at_call 45; (with_reducible refine Calls.mono K1.out ?_); rintro e w2 ⟨rfl, hb2⟩; have y0 := keepC hb2 x0; have y1 := keepC hb2 x1; have y2 := keepC hb2 x2; have y3 := keepC hb2 x3; have y4 := keepC hb2 x4; have y5 := keepC hb2 x5; have y6 := keepC hb2 x6; have y7 := keepC hb2 x7; have R0 := keepV hb2 r0; have R1 := keepV hb2 r1; have Z0 := keepF hb2 r0 z0; have Z1 := keepF hb2 r1 z1; have hB2 := belowSeq hb2 hB) | (go_at_call 45; (with_reducible refine Calls.mono (K2.out w2 y0 y1 y2 y3 y4 y5 y6 y7) ?_); rintro e w3 ⟨rfl, hb3⟩; have M0 := keepV hb3 R0; have M1 := keepV hb3 R1; have Y0 := keepF hb3 R0 Z0; have Y1 := keepF hb3 R1 Z1; have hz : w.heap.size + 1 + 1 + 1 < w3.heap.size := World.block_lt_of_cell? w3 _ M0; have hB3 := belowSeq hb3 hB2) | ((with_reducible refine bodyPost_ret (v := .tuple #[.agg #[.int .i64 (ndE v0 s1 st tg), .int .i64 (ndE v1 s0 st tg)], .int .i64 0]) ?_ rfl ?_); (have rr0 : ∀ (o0 : Obj) (x0 : Value) (x1 : Value), (((w3.setCell ⟨w.heap.size + 1 + 1 + 1, 0, none⟩ x0).setCell ⟨w.heap.size + 1 + 1 + 1, 1, none⟩ x1).alloc o0).cell? ⟨w.heap.size + 1 + 1 + 1, 0, none⟩ = some x0 := fun _ x0 x1 => keepC ((Below.refl _ _).alloc (Nat.le_refl _) _) ((set2 M0 M1 x0 x1).1); have rr1 : ∀ (o0 : Obj) (x0 : Value) (x1 : Value), (((w3.setCell ⟨w.heap.size + 1 + 1 + 1, 0, none⟩ x0).setCell ⟨w.heap.size + 1 + 1 + 1, 1, none⟩ x1).alloc o0).cell? ⟨w.heap.size + 1 + 1 + 1, 1, none⟩ = some x1 := fun _ x0 x1 => keepC ((Below.refl _ _).alloc (Nat.le_refl _) _) ((set2 M0 M1 x0 x1).2); simp [results, Try.results18, go_sem, rr0, rr1]); exact ⟨rfl, by go_grown⟩))
set_option maxHeartbeats 1000000 in
theorem florSpirit_wrong (v0 v1 s0 s1 c0 c1 st tg : Int) (w : World) (h : (firstE (wineE v0 v1 s0 s1 c0 c1) (strE st) (strE tg) != 0) = true) :
    Calls Try.prog 18 #[.agg #[.int .i64 v0, .int .i64 v1, .int .i64 s0, .int .i64 s1, .int .i64 c0, .int .i64 c1], .int .i64 st, .int .i64 tg] w fun e w' => e = .returned (.tuple #[.agg #[.int .i64 0, .int .i64 0], .int .i64 (firstE (wineE v0 v1 s0 s1 c0 c1) (strE st) (strE tg))]) ∧ Below w.heap.size w w' := by
  have hv : first4 (wineE v0 v1 s0 s1 c0 c1) (numE st 0 10000) (numE tg 0 10000) (unlE (decide (tg < st)) 11) = firstE (wineE v0 v1 s0 s1 c0 c1) (strE st) (strE tg) := by
    have hs : ∀ n, numE n 0 10000 = strE n := fun _ => rfl
    rw [first4, hs, hs, if_pos (by simpa using h)]
  rw [← hv] at h ⊢
  exact florSpirit_err _ _ _ _ _ _ _ _ w h
set_option maxHeartbeats 1000000 in
theorem florSpirit_zero (v0 v1 s0 s1 c0 c1 st tg : Int) (w : World) (h : (firstE (wineE v0 v1 s0 s1 c0 c1) (strE st) (strE tg) != 0) = false) (hl : st ≤ tg) :
    Calls Try.prog 18 #[.agg #[.int .i64 v0, .int .i64 v1, .int .i64 s0, .int .i64 s1, .int .i64 c0, .int .i64 c1], .int .i64 st, .int .i64 tg] w fun e w' => e = .returned (.tuple #[.agg #[.int .i64 0, .int .i64 0], .int .i64 11]) ∧ Below w.heap.size w w' := by
  have hv : first4 (wineE v0 v1 s0 s1 c0 c1) (numE st 0 10000) (numE tg 0 10000) (unlE (decide (tg < st)) 11) = 11 := by
    have hs : ∀ n, numE n 0 10000 = strE n := fun _ => rfl
    rw [first4, hs, hs, if_neg (by simpa using h)]
    have : ¬ tg < st := by omega
    simp [unlE, this]
  have := florSpirit_err v0 v1 s0 s1 c0 c1 st tg w (by rw [hv]; rfl)
  rwa [hv] at this
set_option maxHeartbeats 1000000 in
theorem florSpirit_large (v0 v1 s0 s1 c0 c1 st tg : Int) (w : World) (h : (firstE (wineE v0 v1 s0 s1 c0 c1) (strE st) (strE tg) != 0) = false) (hl : tg < st) (hn : 100000 < ndE v1 s0 st tg) :
    Calls Try.prog 18 #[.agg #[.int .i64 v0, .int .i64 v1, .int .i64 s0, .int .i64 s1, .int .i64 c0, .int .i64 c1], .int .i64 st, .int .i64 tg] w fun e w' => e = .returned (.tuple #[.agg #[.int .i64 0, .int .i64 0], .int .i64 8]) ∧ Below w.heap.size w w' := by
  have hv : first4 (wineE v0 v1 s0 s1 c0 c1) (numE st 0 10000) (numE tg 0 10000) (unlE (decide (tg < st)) 11) = 0 := by
    have hs : ∀ n, numE n 0 10000 = strE n := fun _ => rfl
    rw [first4, hs, hs, if_neg (by simpa using h)]
    simp [unlE, hl]
  exact florSpirit_large0 _ _ _ _ _ _ _ _ w (by rw [hv]; rfl) (by simpa using h) hl hn
set_option maxHeartbeats 1000000 in
theorem florSpirit_fine (v0 v1 s0 s1 c0 c1 st tg : Int) (w : World) (h : (firstE (wineE v0 v1 s0 s1 c0 c1) (strE st) (strE tg) != 0) = false) (hl : tg < st) (hn : ndE v1 s0 st tg ≤ 100000) :
    Calls Try.prog 18 #[.agg #[.int .i64 v0, .int .i64 v1, .int .i64 s0, .int .i64 s1, .int .i64 c0, .int .i64 c1], .int .i64 st, .int .i64 tg] w fun e w' => e = .returned (.tuple #[.agg #[.int .i64 (ndE v0 s1 st tg), .int .i64 (ndE v1 s0 st tg)], .int .i64 0]) ∧ Below w.heap.size w w' := by
  have hv : first4 (wineE v0 v1 s0 s1 c0 c1) (numE st 0 10000) (numE tg 0 10000) (unlE (decide (tg < st)) 11) = 0 := by
    have hs : ∀ n, numE n 0 10000 = strE n := fun _ => rfl
    rw [first4, hs, hs, if_neg (by simpa using h)]
    simp [unlE, hl]
  exact florSpirit_fine0 _ _ _ _ _ _ _ _ w (by rw [hv]; rfl) (by simpa using h) hl hn
end Go.Proofs.Ytbijhcoloajjaaa
