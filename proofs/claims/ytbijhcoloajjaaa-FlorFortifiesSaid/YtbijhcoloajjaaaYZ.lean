import Derived.Test.YtbijhcoloajjaaaY4
import Derived.Test.YtbijhcoloajjaaaZD
import Derived.Test.YtbijhcoloajjaaaZ9
import Derived.Test.YtbijhcoloajjaaaG0
import Derived.Test.YtbijhcoloajjaaaY0
/- The reference's Mixed where there are no wines or too many; the reference's Fortified. -/
namespace Go.Proofs.Ytbijhcoloajjaaa
open Go.RowKit

theorem rexact_any (n : Int) (w : World) : Calls Try.prog 49 #[.int .i64 n] w fun e w' => e = .returned (.agg #[.int .i64 n, .int .i64 n]) ∧ Below w.heap.size w w' := by
  go_enter Try.func49, Try.ntmps49
  go_wp2
  go_returns
  exact ⟨rfl, by go_grown⟩
set_option linter.unusedVariables false in
set_option linter.unusedSimpArgs false in
set_option maxRecDepth 100000 in
set_option maxHeartbeats 8000000 in
theorem rmixed_zero (sa : Option Addr) (n cp : Nat) (w : World) (h1 : ((n : Int) == 0) = true) :
    Calls Try.prog 11 #[.slice sa n cp] w fun e w' => e = .returned (.tuple #[.agg #[.int .i64 0, .int .i64 0, .int .i64 0, .int .i64 0, .int .i64 0, .int .i64 0], .int .i64 10]) ∧ Below w.heap.size w w' := by
  go_enter Try.func11, Try.ntmps11
  go_upto_region 1 with fail
  obtain ⟨B0, hB0⟩ : ∃ B, w.heap.size = B := ⟨_, rfl⟩
  rw [hB0]
  refine nameWorld (fun w' => w'.cell? ⟨B0, 0, none⟩ = some (.int .i64 0) ∧ w'.cell? ⟨B0, 1, none⟩ = some (.int .i64 0) ∧ w'.cell? ⟨B0, 2, none⟩ = some (.int .i64 0) ∧ w'.cell? ⟨B0, 3, none⟩ = some (.int .i64 0) ∧ w'.cell? ⟨B0, 4, none⟩ = some (.int .i64 0) ∧ w'.cell? ⟨B0, 5, none⟩ = some (.int .i64 0) ∧ w'.frozen? ⟨B0, 0, none⟩ = false ∧ w'.frozen? ⟨B0, 1, none⟩ = false ∧ w'.frozen? ⟨B0, 2, none⟩ = false ∧ w'.frozen? ⟨B0, 3, none⟩ = false ∧ w'.frozen? ⟨B0, 4, none⟩ = false ∧ w'.frozen? ⟨B0, 5, none⟩ = false ∧ Below B0 w w') ?_ (fun wc hc => ?_)
  · rw [← hB0]; exact zeroRes (t := 27) (by first | exact Below.refl _ _ | go_grown)
  obtain ⟨r0, r1, r2, r3, r4, r5, rz0, rz1, rz2, rz3, rz4, rz5, hB⟩ := hc
  obtain ⟨e0, e1, e2, e3, e4, e5⟩ := set6 (W := wc) r0 r1 r2 r3 r4 r5 (.int .i64 0) (.int .i64 0) (.int .i64 0) (.int .i64 0) (.int .i64 0) (.int .i64 0)
  go_wp2_with ((with_reducible refine bodyPost_ret (v := .tuple #[.agg #[.int .i64 0, .int .i64 0, .int .i64 0, .int .i64 0, .int .i64 0, .int .i64 0], .int .i64 10]) ?_ rfl ?_); (simp [results, Try.results11, go_sem, e0, e1, e2, e3, e4, e5]); exact ⟨rfl, by rw [hB0]; exact (((((hB.setCell (Nat.le_refl _) _).setCell (Nat.le_refl _) _).setCell (Nat.le_refl _) _).setCell (Nat.le_refl _) _).setCell (Nat.le_refl _) _).setCell (Nat.le_refl _) _⟩)
set_option linter.unusedVariables false in
set_option linter.unusedSimpArgs false in
set_option maxRecDepth 100000 in
set_option maxHeartbeats 8000000 in
theorem rmixed_many (sa : Option Addr) (n cp : Nat) (w : World) (h1 : ((n : Int) == 0) = false) (h2 : (8 : Int) < (n : Int)) :
    Calls Try.prog 11 #[.slice sa n cp] w fun e w' => e = .returned (.tuple #[.agg #[.int .i64 0, .int .i64 0, .int .i64 0, .int .i64 0, .int .i64 0, .int .i64 0], .int .i64 8]) ∧ Below w.heap.size w w' := by
  go_enter Try.func11, Try.ntmps11
  go_upto_region 1 with fail
  obtain ⟨B0, hB0⟩ : ∃ B, w.heap.size = B := ⟨_, rfl⟩
  rw [hB0]
  refine nameWorld (fun w' => w'.cell? ⟨B0, 0, none⟩ = some (.int .i64 0) ∧ w'.cell? ⟨B0, 1, none⟩ = some (.int .i64 0) ∧ w'.cell? ⟨B0, 2, none⟩ = some (.int .i64 0) ∧ w'.cell? ⟨B0, 3, none⟩ = some (.int .i64 0) ∧ w'.cell? ⟨B0, 4, none⟩ = some (.int .i64 0) ∧ w'.cell? ⟨B0, 5, none⟩ = some (.int .i64 0) ∧ w'.frozen? ⟨B0, 0, none⟩ = false ∧ w'.frozen? ⟨B0, 1, none⟩ = false ∧ w'.frozen? ⟨B0, 2, none⟩ = false ∧ w'.frozen? ⟨B0, 3, none⟩ = false ∧ w'.frozen? ⟨B0, 4, none⟩ = false ∧ w'.frozen? ⟨B0, 5, none⟩ = false ∧ Below B0 w w') ?_ (fun wc hc => ?_)
  · rw [← hB0]; exact zeroRes (t := 27) (by first | exact Below.refl _ _ | go_grown)
  obtain ⟨r0, r1, r2, r3, r4, r5, rz0, rz1, rz2, rz3, rz4, rz5, hB⟩ := hc
  obtain ⟨e0, e1, e2, e3, e4, e5⟩ := set6 (W := wc) r0 r1 r2 r3 r4 r5 (.int .i64 0) (.int .i64 0) (.int .i64 0) (.int .i64 0) (.int .i64 0) (.int .i64 0)
  go_wp2_with ((with_reducible refine bodyPost_ret (v := .tuple #[.agg #[.int .i64 0, .int .i64 0, .int .i64 0, .int .i64 0, .int .i64 0, .int .i64 0], .int .i64 8]) ?_ rfl ?_); (simp [results, Try.results11, go_sem, e0, e1, e2, e3, e4, e5]); exact ⟨rfl, by rw [hB0]; exact (((((hB.setCell (Nat.le_refl _) _).setCell (Nat.le_refl _) _).setCell (Nat.le_refl _) _).setCell (Nat.le_refl _) _).setCell (Nat.le_refl _) _).setCell (Nat.le_refl _) _⟩)
theorem mixR_wine {x : Wn} {vo st : Int} (h : x.err ≠ 0) : mixR (twoW x (spW vo st)) 2 = .tuple #[.agg #[.int .i64 0, .int .i64 0, .int .i64 0, .int .i64 0, .int .i64 0, .int .i64 0], .int .i64 x.err] := by
  have e : mixB (twoW x (spW vo st)) 2 0 = x.err := by
    show (if x.err = 0 then _ else x.err) = _
    rw [if_neg h]
  rw [mixR, e, if_pos h]
theorem mixR_spirit {x : Wn} {vo st : Int} (hx : x.err = 0) (h : (spW vo st).err ≠ 0) : mixR (twoW x (spW vo st)) 2 = .tuple #[.agg #[.int .i64 0, .int .i64 0, .int .i64 0, .int .i64 0, .int .i64 0, .int .i64 0], .int .i64 (spW vo st).err] := by
  have e : mixB (twoW x (spW vo st)) 2 0 = (spW vo st).err := by
    show (if x.err = 0 then (if (spW vo st).err = 0 then _ else (spW vo st).err) else x.err) = _
    rw [if_pos hx, if_neg h]
  rw [mixR, e, if_pos h]
theorem sp_err (vo st : Int) : (spW vo st).err = if inB vo 0 100000 = false then 2 else strE st := by
  show wineE vo vo st st 0 0 = _
  unfold wineE rangeE strE
  cases inB vo 0 100000 <;> cases inB st 0 10000 <;> simp [firstE, inB]
set_option linter.unusedVariables false in
set_option linter.unusedSimpArgs false in
set_option maxRecDepth 100000 in
set_option maxHeartbeats 8000000 in
theorem rfortified_any (x : Wn) (vo st : Int) (w : World) :
    Calls Try.prog 19 #[.agg #[.int .i64 x.v0, .int .i64 x.v1, .int .i64 x.s0, .int .i64 x.s1, .int .i64 x.c0, .int .i64 x.c1], .agg #[.int .i64 vo, .int .i64 st]] w fun e w' => e = .returned (mixR (twoW x (spW vo st)) 2) ∧ Below w.heap.size w w' := by
  obtain ⟨x0, x1, x2, x3, x4, x5⟩ := x
  dsimp only
  obtain ⟨m0, m1, m2, m3, m4, m5, ee, hm⟩ := mixR_form (twoW ⟨x0, x1, x2, x3, x4, x5⟩ (spW vo st)) 2
  have HM := Lib.hid hm
  clear hm
  obtain ⟨ex, hex⟩ : ∃ e, wineE x0 x1 x2 x3 x4 x5 = e := ⟨_, rfl⟩
  have HE0 := Lib.hid hex
  clear hex
  go_enter Try.func19, Try.ntmps19
  go_upto_region 1 with fail
  obtain ⟨B0, hB0⟩ : ∃ B, w.heap.size = B := ⟨_, rfl⟩
  rw [hB0]
  refine nameWorld (fun w' => w'.cell? ⟨B0, 0, none⟩ = some (.int .i64 x0) ∧ w'.cell? ⟨B0, 1, none⟩ = some (.int .i64 x1) ∧ w'.cell? ⟨B0, 2, none⟩ = some (.int .i64 x2) ∧ w'.cell? ⟨B0, 3, none⟩ = some (.int .i64 x3) ∧ w'.cell? ⟨B0, 4, none⟩ = some (.int .i64 x4) ∧ w'.cell? ⟨B0, 5, none⟩ = some (.int .i64 x5) ∧ w'.cell? ⟨B0 + 1 + 1, 0, none⟩ = some (.int .i64 0) ∧ w'.cell? ⟨B0 + 1 + 1, 1, none⟩ = some (.int .i64 0) ∧ w'.cell? ⟨B0 + 1 + 1, 2, none⟩ = some (.int .i64 0) ∧ w'.cell? ⟨B0 + 1 + 1, 3, none⟩ = some (.int .i64 0) ∧ w'.cell? ⟨B0 + 1 + 1, 4, none⟩ = some (.int .i64 0) ∧ w'.cell? ⟨B0 + 1 + 1, 5, none⟩ = some (.int .i64 0) ∧ w'.frozen? ⟨B0 + 1 + 1, 0, none⟩ = false ∧ w'.frozen? ⟨B0 + 1 + 1, 1, none⟩ = false ∧ w'.frozen? ⟨B0 + 1 + 1, 2, none⟩ = false ∧ w'.frozen? ⟨B0 + 1 + 1, 3, none⟩ = false ∧ w'.frozen? ⟨B0 + 1 + 1, 4, none⟩ = false ∧ w'.frozen? ⟨B0 + 1 + 1, 5, none⟩ = false ∧ w'.cell? ⟨B0 + 1, 0, none⟩ = some (.int .i64 vo) ∧ w'.cell? ⟨B0 + 1, 1, none⟩ = some (.int .i64 st) ∧ Below B0 w w') ?_ (fun wc hc => ?_)
  · rw [← hB0]
    exact ⟨by go_cell, by go_cell, by go_cell, by go_cell, by go_cell, by go_cell, (newBoth (by simp) (Below.refl _ _) 0 _ rfl).1, (newBoth (by simp) (Below.refl _ _) 1 _ rfl).1, (newBoth (by simp) (Below.refl _ _) 2 _ rfl).1, (newBoth (by simp) (Below.refl _ _) 3 _ rfl).1, (newBoth (by simp) (Below.refl _ _) 4 _ rfl).1, (newBoth (by simp) (Below.refl _ _) 5 _ rfl).1, (newBoth (by simp) (Below.refl _ _) 0 _ rfl).2, (newBoth (by simp) (Below.refl _ _) 1 _ rfl).2, (newBoth (by simp) (Below.refl _ _) 2 _ rfl).2, (newBoth (by simp) (Below.refl _ _) 3 _ rfl).2, (newBoth (by simp) (Below.refl _ _) 4 _ rfl).2, (newBoth (by simp) (Below.refl _ _) 5 _ rfl).2, by go_cell, by go_cell, by go_grown⟩
  obtain ⟨d0, d1, d2, d3, d4, d5, r0, r1, r2, r3, r4, r5, rz0, rz1, rz2, rz3, rz4, rz5, p0, p1, hB⟩ := hc
  go_upto_region 2 with (go_at_call 12; refine (checkWine_any _ _ _ _ _ _ _).mono ?_; rintro e w1 ⟨rfl, hb1⟩; rw [HE0.out])
  refine nameWorld (fun w' => w'.cell? ⟨B0, 0, none⟩ = some (.int .i64 x0) ∧ w'.cell? ⟨B0, 1, none⟩ = some (.int .i64 x1) ∧ w'.cell? ⟨B0, 2, none⟩ = some (.int .i64 x2) ∧ w'.cell? ⟨B0, 3, none⟩ = some (.int .i64 x3) ∧ w'.cell? ⟨B0, 4, none⟩ = some (.int .i64 x4) ∧ w'.cell? ⟨B0, 5, none⟩ = some (.int .i64 x5) ∧ w'.cell? ⟨B0 + 1 + 1, 0, none⟩ = some (.int .i64 0) ∧ w'.cell? ⟨B0 + 1 + 1, 1, none⟩ = some (.int .i64 0) ∧ w'.cell? ⟨B0 + 1 + 1, 2, none⟩ = some (.int .i64 0) ∧ w'.cell? ⟨B0 + 1 + 1, 3, none⟩ = some (.int .i64 0) ∧ w'.cell? ⟨B0 + 1 + 1, 4, none⟩ = some (.int .i64 0) ∧ w'.cell? ⟨B0 + 1 + 1, 5, none⟩ = some (.int .i64 0) ∧ w'.frozen? ⟨B0 + 1 + 1, 0, none⟩ = false ∧ w'.frozen? ⟨B0 + 1 + 1, 1, none⟩ = false ∧ w'.frozen? ⟨B0 + 1 + 1, 2, none⟩ = false ∧ w'.frozen? ⟨B0 + 1 + 1, 3, none⟩ = false ∧ w'.frozen? ⟨B0 + 1 + 1, 4, none⟩ = false ∧ w'.frozen? ⟨B0 + 1 + 1, 5, none⟩ = false ∧ w'.cell? ⟨B0 + 1, 0, none⟩ = some (.int .i64 vo) ∧ w'.cell? ⟨B0 + 1, 1, none⟩ = some (.int .i64 st) ∧ Below B0 w w') ⟨keepC hb1 d0, keepC hb1 d1, keepC hb1 d2, keepC hb1 d3, keepC hb1 d4, keepC hb1 d5, keepC hb1 r0, keepC hb1 r1, keepC hb1 r2, keepC hb1 r3, keepC hb1 r4, keepC hb1 r5, keepF hb1 r0 rz0, keepF hb1 r1 rz1, keepF hb1 r2 rz2, keepF hb1 r3 rz3, keepF hb1 r4 rz4, keepF hb1 r5 rz5, keepC hb1 p0, keepC hb1 p1, hB.trans (hb1.mono (by have h : B0 + 1 + 1 < wc.heap.size := World.block_lt_of_cell? wc _ r0; omega))⟩ (fun wd hd => ?_)
  clear hb1 hB p0 p1 d0 d1 d2 d3 d4 d5 r0 r1 r2 r3 r4 r5 rz0 rz1 rz2 rz3 rz4 rz5
  obtain ⟨d0, d1, d2, d3, d4, d5, r0, r1, r2, r3, r4, r5, rz0, rz1, rz2, rz3, rz4, rz5, p0, p1, hB⟩ := hd
  have hsd : B0 + 1 + 1 < wd.heap.size := World.block_lt_of_cell? wd _ r0
  by_cases hz : ex = 0
  case neg =>
    have hnz : (ex != 0) = true := by simp [hz]
    have HD := Lib.hid hz
    clear hz
    obtain ⟨e0, e1, e2, e3, e4, e5⟩ := set6 (W := wd) r0 r1 r2 r3 r4 r5 (.int .i64 0) (.int .i64 0) (.int .i64 0) (.int .i64 0) (.int .i64 0) (.int .i64 0)
    go_wp2_with ((with_reducible refine bodyPost_ret (v := .tuple #[.agg #[.int .i64 0, .int .i64 0, .int .i64 0, .int .i64 0, .int .i64 0, .int .i64 0], .int .i64 ex]) ?_ rfl ?_); (simp [results, Try.results19, go_sem, e0, e1, e2, e3, e4, e5]); exact ⟨by have h : Wn.err ⟨x0, x1, x2, x3, x4, x5⟩ = ex := HE0.out; rw [mixR_wine (by rw [h]; exact HD.out), h], by rw [hB0]; exact (((((hB.setCell (by show B0 ≤ B0 + 1 + 1; omega) _).setCell (by show B0 ≤ B0 + 1 + 1; omega) _).setCell (by show B0 ≤ B0 + 1 + 1; omega) _).setCell (by show B0 ≤ B0 + 1 + 1; omega) _).setCell (by show B0 ≤ B0 + 1 + 1; omega) _).setCell (by show B0 ≤ B0 + 1 + 1; omega) _⟩)
  have hnz : (ex != 0) = false := by rw [hz]; rfl
  have HX : Hid (Wn.err ⟨x0, x1, x2, x3, x4, x5⟩ = 0) := Lib.hid (HE0.out.trans hz)
  clear hz
  cases hin : inB vo 0 100000
  case false =>
    have HI := Lib.hid hin
    obtain ⟨e0, e1, e2, e3, e4, e5⟩ := set6 (W := wd) r0 r1 r2 r3 r4 r5 (.int .i64 0) (.int .i64 0) (.int .i64 0) (.int .i64 0) (.int .i64 0) (.int .i64 0)
    go_wp2_with (first | (go_at_call 14; refine (within_any _ _ _ _).mono ?_; rintro e w1 ⟨rfl, rfl⟩; rw [hin]) | ((with_reducible refine bodyPost_ret (v := .tuple #[.agg #[.int .i64 0, .int .i64 0, .int .i64 0, .int .i64 0, .int .i64 0, .int .i64 0], .int .i64 2]) ?_ rfl ?_); (simp [results, Try.results19, go_sem, e0, e1, e2, e3, e4, e5]); exact ⟨by have h : (spW vo st).err = 2 := (by rw [sp_err, if_pos HI.out]); rw [mixR_spirit HX.out (by rw [h]; decide), h], by rw [hB0]; exact (((((hB.setCell (by show B0 ≤ B0 + 1 + 1; omega) _).setCell (by show B0 ≤ B0 + 1 + 1; omega) _).setCell (by show B0 ≤ B0 + 1 + 1; omega) _).setCell (by show B0 ≤ B0 + 1 + 1; omega) _).setCell (by show B0 ≤ B0 + 1 + 1; omega) _).setCell (by show B0 ≤ B0 + 1 + 1; omega) _⟩))
  obtain ⟨es, hse⟩ : ∃ e, strE st = e := ⟨_, rfl⟩
  have HSP : Hid ((spW vo st).err = es) := Lib.hid (by rw [sp_err, if_neg (by rw [hin]; decide), hse])
  by_cases hz : es = 0
  case neg =>
    have hnz2 : (es != 0) = true := by simp [hz]
    have HD := Lib.hid hz
    clear hz
    obtain ⟨e0, e1, e2, e3, e4, e5⟩ := set6 (W := wd) r0 r1 r2 r3 r4 r5 (.int .i64 0) (.int .i64 0) (.int .i64 0) (.int .i64 0) (.int .i64 0) (.int .i64 0)
    go_wp2_with (first | (go_at_call 14; refine (within_any _ _ _ _).mono ?_; rintro e w1 ⟨rfl, rfl⟩; rw [hin]) | (go_at_call 21; refine (strengthErr_any _ _).mono ?_; rintro e w1 ⟨rfl, rfl⟩; rw [hse]) | ((with_reducible refine bodyPost_ret (v := .tuple #[.agg #[.int .i64 0, .int .i64 0, .int .i64 0, .int .i64 0, .int .i64 0, .int .i64 0], .int .i64 es]) ?_ rfl ?_); (simp [results, Try.results19, go_sem, e0, e1, e2, e3, e4, e5]); exact ⟨by rw [mixR_spirit HX.out (by rw [HSP.out]; exact HD.out), HSP.out], by rw [hB0]; exact (((((hB.setCell (by show B0 ≤ B0 + 1 + 1; omega) _).setCell (by show B0 ≤ B0 + 1 + 1; omega) _).setCell (by show B0 ≤ B0 + 1 + 1; omega) _).setCell (by show B0 ≤ B0 + 1 + 1; omega) _).setCell (by show B0 ≤ B0 + 1 + 1; omega) _).setCell (by show B0 ≤ B0 + 1 + 1; omega) _⟩))
  have hnz2 : (es != 0) = false := by rw [hz]; rfl
  clear hz
  go_upto_region 9 with (first | (go_at_call 14; refine (within_any _ _ _ _).mono ?_; rintro e w1 ⟨rfl, rfl⟩; rw [hin]) | (go_at_call 21; refine (strengthErr_any _ _).mono ?_; rintro e w1 ⟨rfl, rfl⟩; rw [hse]))
  refine regionX 8 0 [] [] (by kernel_rfl) (by kernel_rfl) (by kernel_rfl) (by kernel_rfl) (by decide) (fun _ _ d _ _ h => by cases d <;> exact h) ?_
  intro R hR
  simp only [List.take_succ_cons, List.take_zero]
  iterate 8 (first | (refine headP_val ?_ (by rfl) (by rfl) (fun w' hw' => ?_) ?_; rotate_left; (focus (have y0 := keepC hw' d0; have y1 := keepC hw' d1; have y2 := keepC hw' d2; have y3 := keepC hw' d3; have y4 := keepC hw' d4; have y5 := keepC hw' d5; have y6 := keepC hw' p0; have y7 := keepC hw' p1; first | (refine onlyMakes_val ?_; first | (go_simp; done) | (go_simp; with_reducible rfl)) | (apply onlyMakes_call; (first | (go_simp; done) | (go_simp; exact ⟨rfl, rfl⟩) | (go_simp; with_reducible rfl)); first | (with_reducible exact rexact_any _ _)))); (try dsimp only); (try simp only [Act.put, List.setIfInBounds_toArray, List.set_cons_zero, List.set_cons_succ])) | (refine headP_pure ?_ (by rfl) (by rfl) (fun w' => ?_) ?_; rotate_left; (focus ((first | (go_simp; done) | (go_simp; with_reducible rfl)))); (try dsimp only); (try simp only [Act.put, List.setIfInBounds_toArray, List.set_cons_zero, List.set_cons_succ])) | (refine headP_skip (by rfl) ?_; (try dsimp only); (try simp only [Act.put, List.setIfInBounds_toArray, List.set_cons_zero, List.set_cons_succ])))
  refine headP_nil (hR.out _ ?_)
  refine AnyZ.last 8 (by kernel_rfl) (by decide) (fun w2 hw2 => ?_)
  refine wpAny_one 8 (by kernel_rfl) rfl rfl ?_
  have g0 := keepC hw2 r0
  have gz0 := keepF hw2 r0 rz0
  have g1 := keepC hw2 r1
  have gz1 := keepF hw2 r1 rz1
  have g2 := keepC hw2 r2
  have gz2 := keepF hw2 r2 rz2
  have g3 := keepC hw2 r3
  have gz3 := keepF hw2 r3 rz3
  have g4 := keepC hw2 r4
  have gz4 := keepF hw2 r4 rz4
  have g5 := keepC hw2 r5
  have gz5 := keepF hw2 r5 rz5
  have hB2 := hB.trans (hw2.mono (by omega))
  have hs2 : B0 + 1 + 1 < w2.heap.size := World.block_lt_of_cell? w2 _ g0
  clear hR hw2 hB hsd p0 p1 d0 d1 d2 d3 d4 d5 r0 r1 r2 r3 r4 r5 rz0 rz1 rz2 rz3 rz4 rz5
  (try simp only [List.getElem_toArray, List.getElem_cons_succ, List.getElem_cons_zero])
  (try simp only [Act.put, List.setIfInBounds_toArray, List.set_cons_succ, List.set_cons_zero])
  unfold Oper.wp
  go_simp
  refine wpAny_one 9 (by kernel_rfl) rfl rfl ?_
  (try simp only [List.getElem_toArray, List.getElem_cons_succ, List.getElem_cons_zero])
  (try simp only [Act.put, List.setIfInBounds_toArray, List.set_cons_succ, List.set_cons_zero])
  unfold Oper.wp
  go_simp
  go_at_call 11
  refine (rmixed_some (twoW ⟨x0, x1, x2, x3, x4, x5⟩ (spW vo st)) w2.heap.size 0 2 2 _ (by decide) (by decide) ?_).mono ?_
  · intro i j hi hj
    match i, j, hi, hj with
    | 0, 0, _, _ => exact newCell 0 _ rfl
    | 0, 1, _, _ => exact newCell 1 _ rfl
    | 0, 2, _, _ => exact newCell 2 _ rfl
    | 0, 3, _, _ => exact newCell 3 _ rfl
    | 0, 4, _, _ => exact newCell 4 _ rfl
    | 0, 5, _, _ => exact newCell 5 _ rfl
    | 1, 0, _, _ => exact newCell 6 _ rfl
    | 1, 1, _, _ => exact newCell 7 _ rfl
    | 1, 2, _, _ => exact newCell 8 _ rfl
    | 1, 3, _, _ => exact newCell 9 _ rfl
    | 1, 4, _, _ => exact newCell 10 _ rfl
    | 1, 5, _, _ => exact newCell 11 _ rfl
  · rintro e w3 ⟨rfl, hb3⟩
    rw [HM.out]
    have hbw := belowSq ((Below.refl _ w2).alloc (Nat.le_refl _) _) hb3
    have hB3 := hB2.trans (hbw.mono (by omega))
    have r0 := keepC hbw g0
    have rz0 := keepF hbw g0 gz0
    have r1 := keepC hbw g1
    have rz1 := keepF hbw g1 gz1
    have r2 := keepC hbw g2
    have rz2 := keepF hbw g2 gz2
    have r3 := keepC hbw g3
    have rz3 := keepF hbw g3 gz3
    have r4 := keepC hbw g4
    have rz4 := keepF hbw g4 gz4
    have r5 := keepC hbw g5
    have rz5 := keepF hbw g5 gz5
    clear hb3 hbw hB2 hs2 g0 gz0 g1 gz1 g2 gz2 g3 gz3 g4 gz4 g5 gz5
    have hs3 : B0 + 1 + 1 < w3.heap.size := World.block_lt_of_cell? w3 _ r0
    obtain ⟨e0, e1, e2, e3, e4, e5⟩ := set6 (W := w3) r0 r1 r2 r3 r4 r5 (.int .i64 m0) (.int .i64 m1) (.int .i64 m2) (.int .i64 m3) (.int .i64 m4) (.int .i64 m5)
    dsimp only
    refine wpAny_each2 10 11 (by kernel_rfl) ?_ ?_
    · refine wpOp_go rfl (by rfl) ?_
      (try simp only [List.getElem_toArray, List.getElem_cons_succ, List.getElem_cons_zero])
      (try simp only [Act.put, List.setIfInBounds_toArray, List.set_cons_succ, List.set_cons_zero])
      unfold Oper.wp
      go_simp
      refine wpAny_each1 11 (by kernel_rfl) ?_
      refine wpOp_go rfl (by rfl) ?_
      (try simp only [List.getElem_toArray, List.getElem_cons_succ, List.getElem_cons_zero])
      (try simp only [Act.put, List.setIfInBounds_toArray, List.set_cons_succ, List.set_cons_zero])
      unfold Oper.wp
      go_simp
      refine wpAny_each1 12 (by kernel_rfl) ?_
      refine wpOp_go rfl (by rfl) ?_
      (try simp only [List.getElem_toArray, List.getElem_cons_succ, List.getElem_cons_zero])
      (try simp only [Act.put, List.setIfInBounds_toArray, List.set_cons_succ, List.set_cons_zero])
      unfold Oper.wp
      go_simp
      refine wpAny_each1 13 (by kernel_rfl) ?_
      refine wpOp_go rfl (by rfl) ?_
      (try simp only [List.getElem_toArray, List.getElem_cons_succ, List.getElem_cons_zero])
      (try simp only [Act.put, List.setIfInBounds_toArray, List.set_cons_succ, List.set_cons_zero])
      unfold Oper.wp
      go_simp
      refine wpAny_done (by kernel_rfl) ?_
      go_wp2_with ((with_reducible refine bodyPost_ret (v := .tuple #[.agg #[.int .i64 m0, .int .i64 m1, .int .i64 m2, .int .i64 m3, .int .i64 m4, .int .i64 m5], .int .i64 ee]) ?_ rfl ?_); (simp [results, Try.results19, go_sem, e0, e1, e2, e3, e4, e5]); exact ⟨by rw [HM.out], by rw [hB0]; exact (((((hB3.setCell (by show B0 ≤ B0 + 1 + 1; omega) _).setCell (by show B0 ≤ B0 + 1 + 1; omega) _).setCell (by show B0 ≤ B0 + 1 + 1; omega) _).setCell (by show B0 ≤ B0 + 1 + 1; omega) _).setCell (by show B0 ≤ B0 + 1 + 1; omega) _).setCell (by show B0 ≤ B0 + 1 + 1; omega) _⟩)
    · refine wpOp_go rfl (by rfl) ?_
      (try simp only [List.getElem_toArray, List.getElem_cons_succ, List.getElem_cons_zero])
      (try simp only [Act.put, List.setIfInBounds_toArray, List.set_cons_succ, List.set_cons_zero])
      unfold Oper.wp
      go_simp
      refine wpAny_each1 10 (by kernel_rfl) ?_
      refine wpOp_go rfl (by rfl) ?_
      (try simp only [List.getElem_toArray, List.getElem_cons_succ, List.getElem_cons_zero])
      (try simp only [Act.put, List.setIfInBounds_toArray, List.set_cons_succ, List.set_cons_zero])
      unfold Oper.wp
      go_simp
      refine wpAny_each1 12 (by kernel_rfl) ?_
      refine wpOp_go rfl (by rfl) ?_
      (try simp only [List.getElem_toArray, List.getElem_cons_succ, List.getElem_cons_zero])
      (try simp only [Act.put, List.setIfInBounds_toArray, List.set_cons_succ, List.set_cons_zero])
      unfold Oper.wp
      go_simp
      refine wpAny_each1 13 (by kernel_rfl) ?_
      refine wpOp_go rfl (by rfl) ?_
      (try simp only [List.getElem_toArray, List.getElem_cons_succ, List.getElem_cons_zero])
      (try simp only [Act.put, List.setIfInBounds_toArray, List.set_cons_succ, List.set_cons_zero])
      unfold Oper.wp
      go_simp
      refine wpAny_done (by kernel_rfl) ?_
      go_wp2_with ((with_reducible refine bodyPost_ret (v := .tuple #[.agg #[.int .i64 m0, .int .i64 m1, .int .i64 m2, .int .i64 m3, .int .i64 m4, .int .i64 m5], .int .i64 ee]) ?_ rfl ?_); (simp [results, Try.results19, go_sem, e0, e1, e2, e3, e4, e5]); exact ⟨by rw [HM.out], by rw [hB0]; exact (((((hB3.setCell (by show B0 ≤ B0 + 1 + 1; omega) _).setCell (by show B0 ≤ B0 + 1 + 1; omega) _).setCell (by show B0 ≤ B0 + 1 + 1; omega) _).setCell (by show B0 ≤ B0 + 1 + 1; omega) _).setCell (by show B0 ≤ B0 + 1 + 1; omega) _).setCell (by show B0 ≤ B0 + 1 + 1; omega) _⟩)
end Go.Proofs.Ytbijhcoloajjaaa

/- FlorFortifies: its walk, out of contracts. -/
namespace Go.Proofs.Ytbijhcoloajjaaa
open Go.RowKit

set_option linter.unusedVariables false in
set_option linter.unusedSimpArgs false in
set_option maxRecDepth 100000 in
set_option maxHeartbeats 8000000 in
theorem fortifies_of (v0 v1 s0 s1 c0 c1 vo st tg z0 z1 z2 z3 z4 z5 n0 n1 ef es : Int) (w : World) (hW : ∀ w : World, Calls Try.prog 8 #[] w fun e w' => e = .returned (.bool true) ∧ Below w.heap.size w w') (hF : ∀ w : World, Calls Try.prog 17 #[.agg #[.int .i64 v0, .int .i64 v1, .int .i64 s0, .int .i64 s1, .int .i64 c0, .int .i64 c1], .agg #[.int .i64 vo, .int .i64 st]] w fun e w' => e = .returned (.tuple #[.agg #[.int .i64 z0, .int .i64 z1, .int .i64 z2, .int .i64 z3, .int .i64 z4, .int .i64 z5], .int .i64 ef]) ∧ Below w.heap.size w w') (hS : ∀ w : World, Calls Try.prog 18 #[.agg #[.int .i64 v0, .int .i64 v1, .int .i64 s0, .int .i64 s1, .int .i64 c0, .int .i64 c1], .int .i64 st, .int .i64 tg] w fun e w' => e = .returned (.tuple #[.agg #[.int .i64 n0, .int .i64 n1], .int .i64 es]) ∧ Below w.heap.size w w') (hG : ∀ w : World, Calls Try.prog 19 #[.agg #[.int .i64 v0, .int .i64 v1, .int .i64 s0, .int .i64 s1, .int .i64 c0, .int .i64 c1], .agg #[.int .i64 vo, .int .i64 st]] w fun e w' => e = .returned (.tuple #[.agg #[.int .i64 z0, .int .i64 z1, .int .i64 z2, .int .i64 z3, .int .i64 z4, .int .i64 z5], .int .i64 ef]) ∧ Below w.heap.size w w') (hT : ∀ w : World, Calls Try.prog 20 #[.agg #[.int .i64 v0, .int .i64 v1, .int .i64 s0, .int .i64 s1, .int .i64 c0, .int .i64 c1], .int .i64 st, .int .i64 tg] w fun e w' => e = .returned (.tuple #[.agg #[.int .i64 n0, .int .i64 n1], .int .i64 es]) ∧ Below w.heap.size w w') :
    Calls Try.prog 5 #[.agg #[.int .i64 v0, .int .i64 v1, .int .i64 s0, .int .i64 s1, .int .i64 c0, .int .i64 c1], .agg #[.int .i64 vo, .int .i64 st], .int .i64 tg] w fun e w' => e = .returned (.bool true) ∧ Below w.heap.size w w' := by
  have HW := Lib.hid hW
  have HF := Lib.hid hF
  have HS := Lib.hid hS
  have HG := Lib.hid hG
  have HT := Lib.hid hT
  clear hW hF hS hG hT
  go_enter Try.func5, Try.ntmps5
  go_upto_region 3 with (go_at_call 8; refine (HW.out _).mono ?_; rintro e w1 ⟨rfl, hb1⟩)
  obtain ⟨B0, hB0⟩ : ∃ B, w.heap.size = B := ⟨_, rfl⟩
  rw [hB0]
  refine nameWorld (fun w' => w'.cell? ⟨B0, 0, none⟩ = some (.int .i64 v0) ∧ w'.cell? ⟨B0, 1, none⟩ = some (.int .i64 v1) ∧ w'.cell? ⟨B0, 2, none⟩ = some (.int .i64 s0) ∧ w'.cell? ⟨B0, 3, none⟩ = some (.int .i64 s1) ∧ w'.cell? ⟨B0, 4, none⟩ = some (.int .i64 c0) ∧ w'.cell? ⟨B0, 5, none⟩ = some (.int .i64 c1) ∧ w'.cell? ⟨B0 + 1, 0, none⟩ = some (.int .i64 vo) ∧ w'.cell? ⟨B0 + 1, 1, none⟩ = some (.int .i64 st) ∧ Below B0 w w') ⟨by rw [← hB0]; exact keepC hb1 (by go_cell), by rw [← hB0]; exact keepC hb1 (by go_cell), by rw [← hB0]; exact keepC hb1 (by go_cell), by rw [← hB0]; exact keepC hb1 (by go_cell), by rw [← hB0]; exact keepC hb1 (by go_cell), by rw [← hB0]; exact keepC hb1 (by go_cell), by rw [← hB0]; exact keepC hb1 (by go_cell), by rw [← hB0]; exact keepC hb1 (by go_cell), by rw [← hB0]; exact belowSeq hb1 (by go_grown)⟩ (fun wc hc => ?_)
  clear hb1
  obtain ⟨fa0, fa1, fa2, fa3, fa4, fa5, fb0, fb1, hB⟩ := hc
  have hs0 : B0 < wc.heap.size := World.block_lt_of_cell? wc _ fa0
  have hs1 : B0 + 1 < wc.heap.size := World.block_lt_of_cell? wc _ fb0
  go_upto_region 4 with (go_at_call 17; (with_reducible refine Calls.mono (HF.out _) ?_); rintro e w1 ⟨rfl, hb1⟩)
  have hbw := belowSq hb1 ((Below.refl _ w1).alloc (Nat.le_refl _) (.cells #[.int .i64 z0, .int .i64 z1, .int .i64 z2, .int .i64 z3, .int .i64 z4, .int .i64 z5] 27))
  obtain ⟨BF, hBF⟩ : ∃ B, w1.heap.size = B := ⟨_, rfl⟩
  rw [hBF]
  refine nameWorld (fun w' => w'.cell? ⟨B0, 0, none⟩ = some (.int .i64 v0) ∧ w'.cell? ⟨B0, 1, none⟩ = some (.int .i64 v1) ∧ w'.cell? ⟨B0, 2, none⟩ = some (.int .i64 s0) ∧ w'.cell? ⟨B0, 3, none⟩ = some (.int .i64 s1) ∧ w'.cell? ⟨B0, 4, none⟩ = some (.int .i64 c0) ∧ w'.cell? ⟨B0, 5, none⟩ = some (.int .i64 c1) ∧ w'.cell? ⟨B0 + 1, 0, none⟩ = some (.int .i64 vo) ∧ w'.cell? ⟨B0 + 1, 1, none⟩ = some (.int .i64 st) ∧ w'.cell? ⟨BF, 0, none⟩ = some (.int .i64 z0) ∧ w'.cell? ⟨BF, 1, none⟩ = some (.int .i64 z1) ∧ w'.cell? ⟨BF, 2, none⟩ = some (.int .i64 z2) ∧ w'.cell? ⟨BF, 3, none⟩ = some (.int .i64 z3) ∧ w'.cell? ⟨BF, 4, none⟩ = some (.int .i64 z4) ∧ w'.cell? ⟨BF, 5, none⟩ = some (.int .i64 z5) ∧ Below B0 w w') ⟨keepC hbw fa0, keepC hbw fa1, keepC hbw fa2, keepC hbw fa3, keepC hbw fa4, keepC hbw fa5, keepC hbw fb0, keepC hbw fb1, (newBoth hBF (Below.refl _ _) 0 _ rfl).1, (newBoth hBF (Below.refl _ _) 1 _ rfl).1, (newBoth hBF (Below.refl _ _) 2 _ rfl).1, (newBoth hBF (Below.refl _ _) 3 _ rfl).1, (newBoth hBF (Below.refl _ _) 4 _ rfl).1, (newBoth hBF (Below.refl _ _) 5 _ rfl).1, hB.trans (hbw.mono (by omega))⟩ (fun wc hc => ?_)
  clear hb1 hbw hBF hs0 hs1
  clear fa0 fa1 fa2 fa3 fa4 fa5 fb0 fb1 hB
  obtain ⟨fa0, fa1, fa2, fa3, fa4, fa5, fb0, fb1, fz0, fz1, fz2, fz3, fz4, fz5, hB⟩ := hc
  have hs0 : B0 < wc.heap.size := World.block_lt_of_cell? wc _ fa0
  have hs1 : B0 + 1 < wc.heap.size := World.block_lt_of_cell? wc _ fb0
  have hs2 : BF < wc.heap.size := World.block_lt_of_cell? wc _ fz0
  go_upto_region 5 with (go_at_call 18; (with_reducible refine Calls.mono (HS.out _) ?_); rintro e w1 ⟨rfl, hb1⟩)
  have hbw := belowSq hb1 ((Below.refl _ w1).alloc (Nat.le_refl _) (.cells #[.int .i64 n0, .int .i64 n1] 25))
  obtain ⟨BS, hBS⟩ : ∃ B, w1.heap.size = B := ⟨_, rfl⟩
  rw [hBS]
  refine nameWorld (fun w' => w'.cell? ⟨B0, 0, none⟩ = some (.int .i64 v0) ∧ w'.cell? ⟨B0, 1, none⟩ = some (.int .i64 v1) ∧ w'.cell? ⟨B0, 2, none⟩ = some (.int .i64 s0) ∧ w'.cell? ⟨B0, 3, none⟩ = some (.int .i64 s1) ∧ w'.cell? ⟨B0, 4, none⟩ = some (.int .i64 c0) ∧ w'.cell? ⟨B0, 5, none⟩ = some (.int .i64 c1) ∧ w'.cell? ⟨B0 + 1, 0, none⟩ = some (.int .i64 vo) ∧ w'.cell? ⟨B0 + 1, 1, none⟩ = some (.int .i64 st) ∧ w'.cell? ⟨BF, 0, none⟩ = some (.int .i64 z0) ∧ w'.cell? ⟨BF, 1, none⟩ = some (.int .i64 z1) ∧ w'.cell? ⟨BF, 2, none⟩ = some (.int .i64 z2) ∧ w'.cell? ⟨BF, 3, none⟩ = some (.int .i64 z3) ∧ w'.cell? ⟨BF, 4, none⟩ = some (.int .i64 z4) ∧ w'.cell? ⟨BF, 5, none⟩ = some (.int .i64 z5) ∧ w'.cell? ⟨BS, 0, none⟩ = some (.int .i64 n0) ∧ w'.cell? ⟨BS, 1, none⟩ = some (.int .i64 n1) ∧ Below B0 w w') ⟨keepC hbw fa0, keepC hbw fa1, keepC hbw fa2, keepC hbw fa3, keepC hbw fa4, keepC hbw fa5, keepC hbw fb0, keepC hbw fb1, keepC hbw fz0, keepC hbw fz1, keepC hbw fz2, keepC hbw fz3, keepC hbw fz4, keepC hbw fz5, (newBoth hBS (Below.refl _ _) 0 _ rfl).1, (newBoth hBS (Below.refl _ _) 1 _ rfl).1, hB.trans (hbw.mono (by omega))⟩ (fun wc hc => ?_)
  clear hb1 hbw hBS hs0 hs1 hs2
  clear fa0 fa1 fa2 fa3 fa4 fa5 fb0 fb1 fz0 fz1 fz2 fz3 fz4 fz5 hB
  obtain ⟨fa0, fa1, fa2, fa3, fa4, fa5, fb0, fb1, fz0, fz1, fz2, fz3, fz4, fz5, fn0, fn1, hB⟩ := hc
  have hs0 : B0 < wc.heap.size := World.block_lt_of_cell? wc _ fa0
  have hs1 : B0 + 1 < wc.heap.size := World.block_lt_of_cell? wc _ fb0
  have hs2 : BF < wc.heap.size := World.block_lt_of_cell? wc _ fz0
  have hs3 : BS < wc.heap.size := World.block_lt_of_cell? wc _ fn0
  go_upto_region 6 with (go_at_call 19; (with_reducible refine Calls.mono (HG.out _) ?_); rintro e w1 ⟨rfl, hb1⟩)
  have hbw := belowSq hb1 ((Below.refl _ w1).alloc (Nat.le_refl _) (.cells #[.int .i64 z0, .int .i64 z1, .int .i64 z2, .int .i64 z3, .int .i64 z4, .int .i64 z5] 27))
  obtain ⟨BG, hBG⟩ : ∃ B, w1.heap.size = B := ⟨_, rfl⟩
  rw [hBG]
  refine nameWorld (fun w' => w'.cell? ⟨B0, 0, none⟩ = some (.int .i64 v0) ∧ w'.cell? ⟨B0, 1, none⟩ = some (.int .i64 v1) ∧ w'.cell? ⟨B0, 2, none⟩ = some (.int .i64 s0) ∧ w'.cell? ⟨B0, 3, none⟩ = some (.int .i64 s1) ∧ w'.cell? ⟨B0, 4, none⟩ = some (.int .i64 c0) ∧ w'.cell? ⟨B0, 5, none⟩ = some (.int .i64 c1) ∧ w'.cell? ⟨B0 + 1, 0, none⟩ = some (.int .i64 vo) ∧ w'.cell? ⟨B0 + 1, 1, none⟩ = some (.int .i64 st) ∧ w'.cell? ⟨BF, 0, none⟩ = some (.int .i64 z0) ∧ w'.cell? ⟨BF, 1, none⟩ = some (.int .i64 z1) ∧ w'.cell? ⟨BF, 2, none⟩ = some (.int .i64 z2) ∧ w'.cell? ⟨BF, 3, none⟩ = some (.int .i64 z3) ∧ w'.cell? ⟨BF, 4, none⟩ = some (.int .i64 z4) ∧ w'.cell? ⟨BF, 5, none⟩ = some (.int .i64 z5) ∧ w'.cell? ⟨BS, 0, none⟩ = some (.int .i64 n0) ∧ w'.cell? ⟨BS, 1, none⟩ = some (.int .i64 n1) ∧ w'.cell? ⟨BG, 0, none⟩ = some (.int .i64 z0) ∧ w'.cell? ⟨BG, 1, none⟩ = some (.int .i64 z1) ∧ w'.cell? ⟨BG, 2, none⟩ = some (.int .i64 z2) ∧ w'.cell? ⟨BG, 3, none⟩ = some (.int .i64 z3) ∧ w'.cell? ⟨BG, 4, none⟩ = some (.int .i64 z4) ∧ w'.cell? ⟨BG, 5, none⟩ = some (.int .i64 z5) ∧ Below B0 w w') ⟨keepC hbw fa0, keepC hbw fa1, keepC hbw fa2, keepC hbw fa3, keepC hbw fa4, keepC hbw fa5, keepC hbw fb0, keepC hbw fb1, keepC hbw fz0, keepC hbw fz1, keepC hbw fz2, keepC hbw fz3, keepC hbw fz4, keepC hbw fz5, keepC hbw fn0, keepC hbw fn1, (newBoth hBG (Below.refl _ _) 0 _ rfl).1, (newBoth hBG (Below.refl _ _) 1 _ rfl).1, (newBoth hBG (Below.refl _ _) 2 _ rfl).1, (newBoth hBG (Below.refl _ _) 3 _ rfl).1, (newBoth hBG (Below.refl _ _) 4 _ rfl).1, (newBoth hBG (Below.refl _ _) 5 _ rfl).1, hB.trans (hbw.mono (by omega))⟩ (fun wc hc => ?_)
  clear hb1 hbw hBG hs0 hs1 hs2 hs3
  clear fa0 fa1 fa2 fa3 fa4 fa5 fb0 fb1 fz0 fz1 fz2 fz3 fz4 fz5 fn0 fn1 hB
  obtain ⟨fa0, fa1, fa2, fa3, fa4, fa5, fb0, fb1, fz0, fz1, fz2, fz3, fz4, fz5, fn0, fn1, fy0, fy1, fy2, fy3, fy4, fy5, hB⟩ := hc
  have hs0 : B0 < wc.heap.size := World.block_lt_of_cell? wc _ fa0
  have hs1 : B0 + 1 < wc.heap.size := World.block_lt_of_cell? wc _ fb0
  have hs2 : BF < wc.heap.size := World.block_lt_of_cell? wc _ fz0
  have hs3 : BS < wc.heap.size := World.block_lt_of_cell? wc _ fn0
  have hs4 : BG < wc.heap.size := World.block_lt_of_cell? wc _ fy0
  go_upto_region 7 with (go_at_call 20; (with_reducible refine Calls.mono (HT.out _) ?_); rintro e w1 ⟨rfl, hb1⟩)
  have hbw := belowSq hb1 ((Below.refl _ w1).alloc (Nat.le_refl _) (.cells #[.int .i64 n0, .int .i64 n1] 25))
  obtain ⟨BT, hBT⟩ : ∃ B, w1.heap.size = B := ⟨_, rfl⟩
  rw [hBT]
  refine nameWorld (fun w' => w'.cell? ⟨B0, 0, none⟩ = some (.int .i64 v0) ∧ w'.cell? ⟨B0, 1, none⟩ = some (.int .i64 v1) ∧ w'.cell? ⟨B0, 2, none⟩ = some (.int .i64 s0) ∧ w'.cell? ⟨B0, 3, none⟩ = some (.int .i64 s1) ∧ w'.cell? ⟨B0, 4, none⟩ = some (.int .i64 c0) ∧ w'.cell? ⟨B0, 5, none⟩ = some (.int .i64 c1) ∧ w'.cell? ⟨B0 + 1, 0, none⟩ = some (.int .i64 vo) ∧ w'.cell? ⟨B0 + 1, 1, none⟩ = some (.int .i64 st) ∧ w'.cell? ⟨BF, 0, none⟩ = some (.int .i64 z0) ∧ w'.cell? ⟨BF, 1, none⟩ = some (.int .i64 z1) ∧ w'.cell? ⟨BF, 2, none⟩ = some (.int .i64 z2) ∧ w'.cell? ⟨BF, 3, none⟩ = some (.int .i64 z3) ∧ w'.cell? ⟨BF, 4, none⟩ = some (.int .i64 z4) ∧ w'.cell? ⟨BF, 5, none⟩ = some (.int .i64 z5) ∧ w'.cell? ⟨BS, 0, none⟩ = some (.int .i64 n0) ∧ w'.cell? ⟨BS, 1, none⟩ = some (.int .i64 n1) ∧ w'.cell? ⟨BG, 0, none⟩ = some (.int .i64 z0) ∧ w'.cell? ⟨BG, 1, none⟩ = some (.int .i64 z1) ∧ w'.cell? ⟨BG, 2, none⟩ = some (.int .i64 z2) ∧ w'.cell? ⟨BG, 3, none⟩ = some (.int .i64 z3) ∧ w'.cell? ⟨BG, 4, none⟩ = some (.int .i64 z4) ∧ w'.cell? ⟨BG, 5, none⟩ = some (.int .i64 z5) ∧ w'.cell? ⟨BT, 0, none⟩ = some (.int .i64 n0) ∧ w'.cell? ⟨BT, 1, none⟩ = some (.int .i64 n1) ∧ Below B0 w w') ⟨keepC hbw fa0, keepC hbw fa1, keepC hbw fa2, keepC hbw fa3, keepC hbw fa4, keepC hbw fa5, keepC hbw fb0, keepC hbw fb1, keepC hbw fz0, keepC hbw fz1, keepC hbw fz2, keepC hbw fz3, keepC hbw fz4, keepC hbw fz5, keepC hbw fn0, keepC hbw fn1, keepC hbw fy0, keepC hbw fy1, keepC hbw fy2, keepC hbw fy3, keepC hbw fy4, keepC hbw fy5, (newBoth hBT (Below.refl _ _) 0 _ rfl).1, (newBoth hBT (Below.refl _ _) 1 _ rfl).1, hB.trans (hbw.mono (by omega))⟩ (fun wc hc => ?_)
  clear hb1 hbw hBT hs0 hs1 hs2 hs3 hs4
  clear fa0 fa1 fa2 fa3 fa4 fa5 fb0 fb1 fz0 fz1 fz2 fz3 fz4 fz5 fn0 fn1 fy0 fy1 fy2 fy3 fy4 fy5 hB
  obtain ⟨fa0, fa1, fa2, fa3, fa4, fa5, fb0, fb1, fz0, fz1, fz2, fz3, fz4, fz5, fn0, fn1, fy0, fy1, fy2, fy3, fy4, fy5, fm0, fm1, hB⟩ := hc
  have hs0 : B0 < wc.heap.size := World.block_lt_of_cell? wc _ fa0
  have hs1 : B0 + 1 < wc.heap.size := World.block_lt_of_cell? wc _ fb0
  have hs2 : BF < wc.heap.size := World.block_lt_of_cell? wc _ fz0
  have hs3 : BS < wc.heap.size := World.block_lt_of_cell? wc _ fn0
  have hs4 : BG < wc.heap.size := World.block_lt_of_cell? wc _ fy0
  have hs5 : BT < wc.heap.size := World.block_lt_of_cell? wc _ fm0
  go_wp2_with fail
  go_ret
  exact ⟨rfl, by rw [hB0]; first | exact hB | exact hB.alloc (by omega) _⟩
end Go.Proofs.Ytbijhcoloajjaaa

/- FlorMixes: its walk, out of contracts. -/
namespace Go.Proofs.Ytbijhcoloajjaaa
open Go.RowKit

set_option linter.unusedVariables false in
set_option linter.unusedSimpArgs false in
set_option maxRecDepth 100000 in
set_option maxHeartbeats 8000000 in
theorem mixes_many (sa : Option Addr) (n cp b off : Nat) (f : Nat → Nat → Int) (w : World) (hsa : 0 < n → sa = some ⟨b, off, none⟩) (hz : sa = none → n = 0 ∧ cp = 0) (hW : ∀ w : World, Calls Try.prog 8 #[] w fun e w' => e = .returned (.bool true) ∧ Below w.heap.size w w') (hn : 10 < n) :
    Calls Try.prog 3 #[.slice sa n cp] w fun e w' => e = .returned (.bool true) ∧ Below w.heap.size w w' := by
  have HW := Lib.hid hW
  clear hW
  have hn1 : (10 : Int) < (n : Int) := by omega
  go_enter Try.func3, Try.ntmps3
  go_upto_region 3 with (go_at_call 8; refine (HW.out _).mono ?_; rintro e w1 ⟨rfl, hb1⟩)
  go_wp2_with fail
  go_ret
  exact ⟨rfl, hb1⟩
set_option linter.unusedVariables false in
set_option linter.unusedSimpArgs false in
set_option maxRecDepth 100000 in
set_option maxHeartbeats 8000000 in
theorem mixes_of (sa : Option Addr) (n cp b off : Nat) (f : Nat → Nat → Int) (w : World) (hsa : 0 < n → sa = some ⟨b, off, none⟩) (hz : sa = none → n = 0 ∧ cp = 0) (hc : ∀ i j, i < n → j < 6 → w.cell? ⟨b, off + i * 6 + j, none⟩ = some (.int .i64 (f i j))) (z0 z1 z2 z3 z4 z5 ef : Int) (hW : ∀ w : World, Calls Try.prog 8 #[] w fun e w' => e = .returned (.bool true) ∧ Below w.heap.size w w') (hn : n ≤ 10) (hM : ∀ (sb : Option Addr) (cb g : Nat) (w : World), (0 < n → sb = some ⟨g, 0, none⟩) → (∀ i j, i < n → j < 6 → w.cell? ⟨g, 0 + i * 6 + j, none⟩ = some (.int .i64 (f i j))) → Calls Try.prog 9 #[.slice sb n cb] w fun e w' => e = .returned (.tuple #[.agg #[.int .i64 z0, .int .i64 z1, .int .i64 z2, .int .i64 z3, .int .i64 z4, .int .i64 z5], .int .i64 ef]) ∧ Below w.heap.size w w') (hR : ∀ w' : World, Below w.heap.size w w' → Calls Try.prog 11 #[.slice sa n cp] w' fun e w'' => e = .returned (.tuple #[.agg #[.int .i64 z0, .int .i64 z1, .int .i64 z2, .int .i64 z3, .int .i64 z4, .int .i64 z5], .int .i64 ef]) ∧ Below w'.heap.size w' w'') :
    Calls Try.prog 3 #[.slice sa n cp] w fun e w' => e = .returned (.bool true) ∧ Below w.heap.size w w' := by
  have HW := Lib.hid hW
  have HM := Lib.hid hM
  have HR := Lib.hid hR
  clear hW hM hR
  have HC := Lib.hid hc
  clear hc
  have hn1 : (n : Int) ≤ 10 := by omega
  go_enter Try.func3, Try.ntmps3
  go_upto_region 3 with (go_at_call 8; refine (HW.out _).mono ?_; rintro e w1 ⟨rfl, hb1⟩)
  refine nameWorld (fun w' => Below w.heap.size w w') hb1 (fun wc hB => ?_)
  clear hb1
  have HCP := Lib.hid (copyWines_any sa n cp b off f wc hsa hz (by omega) (fun i j hi hj => keepC hB (HC.out i j hi hj)))
  have HR2 := Lib.hid (fun w' (h : Below wc.heap.size wc w') => HR.out w' (belowSeq h hB))
  go_upto_region 6 with (first | (go_at_call 10; (with_reducible refine Calls.mono HCP.out ?_); rintro e w2 ⟨⟨sb, cb, g, rfl, hsb, hcb⟩, hb2⟩) | (go_at_call 9; (with_reducible refine Calls.mono (HM.out _ _ _ _ hsb hcb) ?_); rintro e w3 ⟨rfl, hb3⟩))
  have hbw := belowSq (belowSq hb2 hb3) ((Below.refl _ w3).alloc (Nat.le_refl _) (.cells #[.int .i64 z0, .int .i64 z1, .int .i64 z2, .int .i64 z3, .int .i64 z4, .int .i64 z5] 27))
  obtain ⟨BF, hBF⟩ : ∃ B, w3.heap.size = B := ⟨_, rfl⟩
  rw [hBF]
  refine nameWorld (fun w' => w'.cell? ⟨BF, 0, none⟩ = some (.int .i64 z0) ∧ w'.cell? ⟨BF, 1, none⟩ = some (.int .i64 z1) ∧ w'.cell? ⟨BF, 2, none⟩ = some (.int .i64 z2) ∧ w'.cell? ⟨BF, 3, none⟩ = some (.int .i64 z3) ∧ w'.cell? ⟨BF, 4, none⟩ = some (.int .i64 z4) ∧ w'.cell? ⟨BF, 5, none⟩ = some (.int .i64 z5) ∧ Below wc.heap.size wc w') ⟨(newBoth hBF (Below.refl _ _) 0 _ rfl).1, (newBoth hBF (Below.refl _ _) 1 _ rfl).1, (newBoth hBF (Below.refl _ _) 2 _ rfl).1, (newBoth hBF (Below.refl _ _) 3 _ rfl).1, (newBoth hBF (Below.refl _ _) 4 _ rfl).1, (newBoth hBF (Below.refl _ _) 5 _ rfl).1, hbw⟩ (fun wd hd => ?_)
  clear hbw hb2 hb3 hBF hsb hcb
  obtain ⟨fz0, fz1, fz2, fz3, fz4, fz5, hD⟩ := hd
  have hs0 : BF < wd.heap.size := World.block_lt_of_cell? wd _ fz0
  have HRD := Lib.hid (HR2.out wd hD)
  go_upto_region 7 with (go_at_call 11; (with_reducible refine Calls.mono HRD.out ?_); rintro e w4 ⟨rfl, hb4⟩)
  have hbw := belowSq hb4 ((Below.refl _ w4).alloc (Nat.le_refl _) (.cells #[.int .i64 z0, .int .i64 z1, .int .i64 z2, .int .i64 z3, .int .i64 z4, .int .i64 z5] 27))
  obtain ⟨BG, hBG⟩ : ∃ B, w4.heap.size = B := ⟨_, rfl⟩
  rw [hBG]
  refine nameWorld (fun w' => w'.cell? ⟨BF, 0, none⟩ = some (.int .i64 z0) ∧ w'.cell? ⟨BF, 1, none⟩ = some (.int .i64 z1) ∧ w'.cell? ⟨BF, 2, none⟩ = some (.int .i64 z2) ∧ w'.cell? ⟨BF, 3, none⟩ = some (.int .i64 z3) ∧ w'.cell? ⟨BF, 4, none⟩ = some (.int .i64 z4) ∧ w'.cell? ⟨BF, 5, none⟩ = some (.int .i64 z5) ∧ w'.cell? ⟨BG, 0, none⟩ = some (.int .i64 z0) ∧ w'.cell? ⟨BG, 1, none⟩ = some (.int .i64 z1) ∧ w'.cell? ⟨BG, 2, none⟩ = some (.int .i64 z2) ∧ w'.cell? ⟨BG, 3, none⟩ = some (.int .i64 z3) ∧ w'.cell? ⟨BG, 4, none⟩ = some (.int .i64 z4) ∧ w'.cell? ⟨BG, 5, none⟩ = some (.int .i64 z5) ∧ Below wd.heap.size wd w') ⟨keepC hbw fz0, keepC hbw fz1, keepC hbw fz2, keepC hbw fz3, keepC hbw fz4, keepC hbw fz5, (newBoth hBG (Below.refl _ _) 0 _ rfl).1, (newBoth hBG (Below.refl _ _) 1 _ rfl).1, (newBoth hBG (Below.refl _ _) 2 _ rfl).1, (newBoth hBG (Below.refl _ _) 3 _ rfl).1, (newBoth hBG (Below.refl _ _) 4 _ rfl).1, (newBoth hBG (Below.refl _ _) 5 _ rfl).1, hbw⟩ (fun we he => ?_)
  clear hbw hb4 hBG hs0 fz0 fz1 fz2 fz3 fz4 fz5
  obtain ⟨fz0, fz1, fz2, fz3, fz4, fz5, fy0, fy1, fy2, fy3, fy4, fy5, hE⟩ := he
  go_wp2_with fail
  go_ret
  exact ⟨rfl, belowSeq (belowSq hD hE) hB⟩
end Go.Proofs.Ytbijhcoloajjaaa
