/- The reference's CheckBook. -/
import Derived.Test.YtlmnhlmgbcpclaaJ14
import Derived.Test.YtlmnhlmgbcpclaaJ16
import Derived.BigQuiet
namespace Go.Proofs.Ytlmnhlmgbcpclaa
open Go.RowKit

theorem belowDrewJ {k : Nat} {A B : World} (h : Below k A B) (n : Nat) : Below k A (B.drewN n) := ⟨h.os, h.tape, h.output, h.size, h.block⟩
theorem rwE_0 (x : Nat → Rd) : rwE x 0 = rdE (x 0) := by unfold rwE; rw [show (decide (0 = 0) || decide ((x (0 - 1)).d ≤ (x 0).d)) = true by simp]; by_cases h : rdE (x 0) = 0 <;> simp [firstL, unlE, h]
theorem rwE_s (x : Nat → Rd) (q : Nat) : rwE x (q + 1) = if rdE (x (q + 1)) = 0 then (if (x q).d ≤ (x (q + 1)).d then 0 else 9) else rdE (x (q + 1)) := by
  unfold rwE
  rw [show q + 1 - 1 = q by omega]
  by_cases h1 : rdE (x (q + 1)) = 0 <;> by_cases h2 : (x q).d ≤ (x (q + 1)).d <;> simp [firstL, unlE, h1, h2]
theorem mwE_0 (x : Nat → Mw) : mwE x 0 = mvE (x 0) := by unfold mwE; rw [show (decide (0 = 0) || decide ((x (0 - 1)).d ≤ (x 0).d)) = true by simp]; by_cases h : mvE (x 0) = 0 <;> simp [firstL, unlE, h]
theorem mwE_s (x : Nat → Mw) (q : Nat) : mwE x (q + 1) = if mvE (x (q + 1)) = 0 then (if (x q).d ≤ (x (q + 1)).d then 0 else 9) else mvE (x (q + 1)) := by
  unfold mwE
  rw [show q + 1 - 1 = q by omega]
  by_cases h1 : mvE (x (q + 1)) = 0 <;> by_cases h2 : (x q).d ≤ (x (q + 1)).d <;> simp [firstL, unlE, h1, h2]
theorem rwE_bad {x : Nat → Rd} {k : Nat} {e : Int} (h : rdE (x k) = e) (hz : e ≠ 0) : rwE x k = e := by
  rcases k with _ | q
  · rw [rwE_0, h]
  · rw [rwE_s, h, if_neg hz]
theorem mwE_bad {x : Nat → Mw} {k : Nat} {e : Int} (h : mvE (x k) = e) (hz : e ≠ 0) : mwE x k = e := by
  rcases k with _ | q
  · rw [mwE_0, h]
  · rw [mwE_s, h, if_neg hz]
set_option linter.unusedVariables false in
set_option linter.unusedSimpArgs false in
set_option maxRecDepth 100000 in
set_option maxHeartbeats 8000000 in
theorem rbook_head (lo hi : Int) (gr or NR cr gm om NM cm : Nat) (x : Nat → Rd) (y : Nat → Mw) (w : World) (hR : ∀ i j, i < NR → j < 4 → w.cell? ⟨gr, or + i * 4 + j, none⟩ = some ((x i).at j)) (hM : ∀ i j, i < NM → j < 4 → w.cell? ⟨gm, om + i * 4 + j, none⟩ = some ((y i).at j)) (hd : rangeE lo hi 100000 ≠ 0) :
    Calls Try.prog 12 #[.agg #[.int .i64 lo, .int .i64 hi, .slice (some ⟨gr, or, none⟩) NR cr, .slice (some ⟨gm, om, none⟩) NM cm]] w fun e w' => e = .returned (.tuple #[.agg #[.int .i64 (0), .int .i64 (0)], .int .i64 (rangeE lo hi 100000)]) ∧ Below w.heap.size w w' := by
  have HG := Lib.hid (fun w => rrngE_any lo hi 100000 w)
  obtain ⟨rr, hrr⟩ : ∃ z, rangeE lo hi 100000 = z := ⟨_, rfl⟩
  rw [hrr] at HG hd ⊢
  have hnz : (rr != 0) = true := by simp [hd]
  clear hd hrr hR hM
  go_enter Try.func12, Try.ntmps12
  go_upto_region 1 with fail
  obtain ⟨B0, hB0⟩ : ∃ B, w.heap.size = B := ⟨_, rfl⟩
  rw [hB0]
  refine nameWorld (fun w' => w'.cell? ⟨B0, 0, none⟩ = some (.int .i64 lo) ∧ w'.cell? ⟨B0, 1, none⟩ = some (.int .i64 hi) ∧ w'.cell? ⟨B0, 2, none⟩ = some (.slice (some ⟨gr, or, none⟩) NR cr) ∧ w'.cell? ⟨B0, 3, none⟩ = some (.slice (some ⟨gm, om, none⟩) NM cm) ∧ w'.cell? ⟨B0 + 1, 0, none⟩ = some (.int .i64 0) ∧ w'.cell? ⟨B0 + 1, 1, none⟩ = some (.int .i64 0) ∧ w'.frozen? ⟨B0 + 1, 0, none⟩ = false ∧ w'.frozen? ⟨B0 + 1, 1, none⟩ = false ∧ Below w.heap.size w w') ?_ (fun wc hc => ?_)
  · rw [← hB0]
    exact ⟨by go_cell, by go_cell, by go_cell, by go_cell, (newBoth (by rw [World.size_alloc]) (Below.refl _ _) 0 _ rfl).1, (newBoth (by rw [World.size_alloc]) (Below.refl _ _) 1 _ rfl).1, (newBoth (by rw [World.size_alloc]) (Below.refl _ _) 0 _ rfl).2, (newBoth (by rw [World.size_alloc]) (Below.refl _ _) 1 _ rfl).2, by go_grown⟩
  obtain ⟨x0, x1, x2, x3, r0, r1_, z0, z1, hB⟩ := hc
  go_wp2_with (go_at_call 49; (with_reducible refine Calls.mono (HG.out _) ?_); rintro e w1 ⟨rfl, hb1⟩; have z0 := keepF hb1 r0 z0; have z1 := keepF hb1 r1_ z1; have r0 := keepC hb1 r0; have r1_ := keepC hb1 r1_; have x2 := keepC hb1 x2; have x3 := keepC hb1 x3; have hB := belowSeq2 hB hb1)
  obtain ⟨c0, c1⟩ := set2 r0 r1_ (.int .i64 (0)) (.int .i64 (0))
  (with_reducible refine bodyPost_ret (v := .tuple #[.agg #[.int .i64 (0), .int .i64 (0)], .int .i64 (rr)]) ?_ rfl ?_)
  · simp [results, Try.results12, go_sem, c0, c1]
  · exact ⟨rfl, by first | exact (hB.setCell (by show w.heap.size ≤ B0 + 1; omega) _).setCell (by show w.heap.size ≤ B0 + 1; omega) _ | exact hB | (rw [← hB0]; exact (hB.setCell (by show w.heap.size ≤ w.heap.size + 1; omega) _).setCell (by show w.heap.size ≤ w.heap.size + 1; omega) _)⟩
set_option linter.unusedVariables false in
set_option linter.unusedSimpArgs false in
set_option maxRecDepth 100000 in
set_option maxHeartbeats 8000000 in
theorem rbook_many (lo hi : Int) (gr or NR cr gm om NM cm : Nat) (x : Nat → Rd) (y : Nat → Mw) (w : World) (hR : ∀ i j, i < NR → j < 4 → w.cell? ⟨gr, or + i * 4 + j, none⟩ = some ((x i).at j)) (hM : ∀ i j, i < NM → j < 4 → w.cell? ⟨gm, om + i * 4 + j, none⟩ = some ((y i).at j)) (hd : rangeE lo hi 100000 = 0) (hn : 40 < NR ∨ 60 < NM) :
    Calls Try.prog 12 #[.agg #[.int .i64 lo, .int .i64 hi, .slice (some ⟨gr, or, none⟩) NR cr, .slice (some ⟨gm, om, none⟩) NM cm]] w fun e w' => e = .returned (.tuple #[.agg #[.int .i64 (0), .int .i64 (0)], .int .i64 (8)]) ∧ Below w.heap.size w w' := by
  have HG := Lib.hid (fun w => rrngE_any lo hi 100000 w)
  rw [hd] at HG
  clear hd hR hM
  by_cases h1 : 40 < NR
  · have h1i : (40 : Int) < (NR : Int) := by omega
    clear hn h1
    go_enter Try.func12, Try.ntmps12
    go_upto_region 1 with fail
    obtain ⟨B0, hB0⟩ : ∃ B, w.heap.size = B := ⟨_, rfl⟩
    rw [hB0]
    refine nameWorld (fun w' => w'.cell? ⟨B0, 0, none⟩ = some (.int .i64 lo) ∧ w'.cell? ⟨B0, 1, none⟩ = some (.int .i64 hi) ∧ w'.cell? ⟨B0, 2, none⟩ = some (.slice (some ⟨gr, or, none⟩) NR cr) ∧ w'.cell? ⟨B0, 3, none⟩ = some (.slice (some ⟨gm, om, none⟩) NM cm) ∧ w'.cell? ⟨B0 + 1, 0, none⟩ = some (.int .i64 0) ∧ w'.cell? ⟨B0 + 1, 1, none⟩ = some (.int .i64 0) ∧ w'.frozen? ⟨B0 + 1, 0, none⟩ = false ∧ w'.frozen? ⟨B0 + 1, 1, none⟩ = false ∧ Below w.heap.size w w') ?_ (fun wc hc => ?_)
    · rw [← hB0]
      exact ⟨by go_cell, by go_cell, by go_cell, by go_cell, (newBoth (by rw [World.size_alloc]) (Below.refl _ _) 0 _ rfl).1, (newBoth (by rw [World.size_alloc]) (Below.refl _ _) 1 _ rfl).1, (newBoth (by rw [World.size_alloc]) (Below.refl _ _) 0 _ rfl).2, (newBoth (by rw [World.size_alloc]) (Below.refl _ _) 1 _ rfl).2, by go_grown⟩
    obtain ⟨x0, x1, x2, x3, r0, r1_, z0, z1, hB⟩ := hc
    go_wp2_with (go_at_call 49; (with_reducible refine Calls.mono (HG.out _) ?_); rintro e w1 ⟨rfl, hb1⟩; have z0 := keepF hb1 r0 z0; have z1 := keepF hb1 r1_ z1; have r0 := keepC hb1 r0; have r1_ := keepC hb1 r1_; have x2 := keepC hb1 x2; have x3 := keepC hb1 x3; have hB := belowSeq2 hB hb1)
    obtain ⟨c0, c1⟩ := set2 r0 r1_ (.int .i64 (0)) (.int .i64 (0))
    (with_reducible refine bodyPost_ret (v := .tuple #[.agg #[.int .i64 (0), .int .i64 (0)], .int .i64 (8)]) ?_ rfl ?_)
    · simp [results, Try.results12, go_sem, c0, c1]
    · exact ⟨rfl, by first | exact (hB.setCell (by show w.heap.size ≤ B0 + 1; omega) _).setCell (by show w.heap.size ≤ B0 + 1; omega) _ | exact hB | (rw [← hB0]; exact (hB.setCell (by show w.heap.size ≤ w.heap.size + 1; omega) _).setCell (by show w.heap.size ≤ w.heap.size + 1; omega) _)⟩
  · have h1i : ¬ (40 : Int) < (NR : Int) := by omega
    have h2i : (60 : Int) < (NM : Int) := by omega
    clear hn h1
    go_enter Try.func12, Try.ntmps12
    go_upto_region 1 with fail
    obtain ⟨B0, hB0⟩ : ∃ B, w.heap.size = B := ⟨_, rfl⟩
    rw [hB0]
    refine nameWorld (fun w' => w'.cell? ⟨B0, 0, none⟩ = some (.int .i64 lo) ∧ w'.cell? ⟨B0, 1, none⟩ = some (.int .i64 hi) ∧ w'.cell? ⟨B0, 2, none⟩ = some (.slice (some ⟨gr, or, none⟩) NR cr) ∧ w'.cell? ⟨B0, 3, none⟩ = some (.slice (some ⟨gm, om, none⟩) NM cm) ∧ w'.cell? ⟨B0 + 1, 0, none⟩ = some (.int .i64 0) ∧ w'.cell? ⟨B0 + 1, 1, none⟩ = some (.int .i64 0) ∧ w'.frozen? ⟨B0 + 1, 0, none⟩ = false ∧ w'.frozen? ⟨B0 + 1, 1, none⟩ = false ∧ Below w.heap.size w w') ?_ (fun wc hc => ?_)
    · rw [← hB0]
      exact ⟨by go_cell, by go_cell, by go_cell, by go_cell, (newBoth (by rw [World.size_alloc]) (Below.refl _ _) 0 _ rfl).1, (newBoth (by rw [World.size_alloc]) (Below.refl _ _) 1 _ rfl).1, (newBoth (by rw [World.size_alloc]) (Below.refl _ _) 0 _ rfl).2, (newBoth (by rw [World.size_alloc]) (Below.refl _ _) 1 _ rfl).2, by go_grown⟩
    obtain ⟨x0, x1, x2, x3, r0, r1_, z0, z1, hB⟩ := hc
    go_wp2_with (go_at_call 49; (with_reducible refine Calls.mono (HG.out _) ?_); rintro e w1 ⟨rfl, hb1⟩; have z0 := keepF hb1 r0 z0; have z1 := keepF hb1 r1_ z1; have r0 := keepC hb1 r0; have r1_ := keepC hb1 r1_; have x2 := keepC hb1 x2; have x3 := keepC hb1 x3; have hB := belowSeq2 hB hb1)
    obtain ⟨c0, c1⟩ := set2 r0 r1_ (.int .i64 (0)) (.int .i64 (0))
    (with_reducible refine bodyPost_ret (v := .tuple #[.agg #[.int .i64 (0), .int .i64 (0)], .int .i64 (8)]) ?_ rfl ?_)
    · simp [results, Try.results12, go_sem, c0, c1]
    · exact ⟨rfl, by first | exact (hB.setCell (by show w.heap.size ≤ B0 + 1; omega) _).setCell (by show w.heap.size ≤ B0 + 1; omega) _ | exact hB | (rw [← hB0]; exact (hB.setCell (by show w.heap.size ≤ w.heap.size + 1; omega) _).setCell (by show w.heap.size ≤ w.heap.size + 1; omega) _)⟩
def lstV (P Q : Int × Int) : Value := if P.2 ≠ 0 then .tuple #[.agg #[.int .i64 1, .int .i64 P.1], .int .i64 P.2] else if Q.2 ≠ 0 then .tuple #[.agg #[.int .i64 2, .int .i64 Q.1], .int .i64 Q.2] else .tuple #[.agg #[.int .i64 0, .int .i64 0], .int .i64 0]
theorem eachF_bad {E : Nat → Int} {n k : Nat} (hk : k < n) {e : Int} (h : E k = e) (he : e ≠ 0) : eachF E (n - k) k = ((k : Int), e) := by rw [eachF_step E n k hk, if_neg (by rw [h]; exact he), h]
theorem eachF_good {E : Nat → Int} {n k : Nat} (hk : k < n) (h : E k = 0) : eachF E (n - k) k = eachF E (n - (k + 1)) (k + 1) := by rw [eachF_step E n k hk, if_pos h]
set_option linter.unusedVariables false in
set_option linter.unusedSimpArgs false in
set_option maxRecDepth 100000 in
set_option maxHeartbeats 8000000 in
theorem rbook_lists (lo hi : Int) (gr or NR cr gm om NM cm : Nat) (x : Nat → Rd) (y : Nat → Mw) (w : World) (hR : ∀ i j, i < NR → j < 4 → w.cell? ⟨gr, or + i * 4 + j, none⟩ = some ((x i).at j)) (hM : ∀ i j, i < NM → j < 4 → w.cell? ⟨gm, om + i * 4 + j, none⟩ = some ((y i).at j)) (hd : rangeE lo hi 100000 = 0) (hn1 : NR ≤ 40) (hn2 : NM ≤ 60) :
    Calls Try.prog 12 #[.agg #[.int .i64 lo, .int .i64 hi, .slice (some ⟨gr, or, none⟩) NR cr, .slice (some ⟨gm, om, none⟩) NM cm]] w fun e w' => e = .returned (lstV (eachF (rwE x) NR 0) (eachF (mwE y) NM 0)) ∧ Below w.heap.size w w' := by
  have HG := Lib.hid (fun w => rrngE_any lo hi 100000 w)
  rw [hd] at HG
  have HXR := Lib.hid hR
  have HXM := Lib.hid hM
  clear hd hR hM
  obtain ⟨P, hP⟩ : ∃ z, eachF (rwE x) NR 0 = z := ⟨_, rfl⟩
  obtain ⟨Q, hQ⟩ : ∃ z, eachF (mwE y) NM 0 = z := ⟨_, rfl⟩
  rw [hP, hQ]
  have HP := Lib.hid hP
  have HQ := Lib.hid hQ
  clear hP hQ
  have h1i : ¬ (40 : Int) < (NR : Int) := by omega
  have h2i : ¬ (60 : Int) < (NM : Int) := by omega
  go_enter Try.func12, Try.ntmps12
  go_upto_region 1 with fail
  obtain ⟨B0, hB0⟩ : ∃ B, w.heap.size = B := ⟨_, rfl⟩
  rw [hB0]
  refine nameWorld (fun w' => w'.cell? ⟨B0, 0, none⟩ = some (.int .i64 lo) ∧ w'.cell? ⟨B0, 1, none⟩ = some (.int .i64 hi) ∧ w'.cell? ⟨B0, 2, none⟩ = some (.slice (some ⟨gr, or, none⟩) NR cr) ∧ w'.cell? ⟨B0, 3, none⟩ = some (.slice (some ⟨gm, om, none⟩) NM cm) ∧ w'.cell? ⟨B0 + 1, 0, none⟩ = some (.int .i64 0) ∧ w'.cell? ⟨B0 + 1, 1, none⟩ = some (.int .i64 0) ∧ w'.frozen? ⟨B0 + 1, 0, none⟩ = false ∧ w'.frozen? ⟨B0 + 1, 1, none⟩ = false ∧ Below w.heap.size w w') ?_ (fun wc hc => ?_)
  · rw [← hB0]
    exact ⟨by go_cell, by go_cell, by go_cell, by go_cell, (newBoth (by rw [World.size_alloc]) (Below.refl _ _) 0 _ rfl).1, (newBoth (by rw [World.size_alloc]) (Below.refl _ _) 1 _ rfl).1, (newBoth (by rw [World.size_alloc]) (Below.refl _ _) 0 _ rfl).2, (newBoth (by rw [World.size_alloc]) (Below.refl _ _) 1 _ rfl).2, by go_grown⟩
  obtain ⟨x0, x1, x2, x3, r0, r1_, z0, z1, hB⟩ := hc
  go_upto_region 7 with (go_at_call 49; (with_reducible refine Calls.mono (HG.out _) ?_); rintro e w1 ⟨rfl, hb1⟩; have z0 := keepF hb1 r0 z0; have z1 := keepF hb1 r1_ z1; have r0 := keepC hb1 r0; have r1_ := keepC hb1 r1_; have x2 := keepC hb1 x2; have x3 := keepC hb1 x3; have hB := belowSeq2 hB hb1)
  refine nameWorld (fun w' => w'.cell? ⟨B0, 2, none⟩ = some (.slice (some ⟨gr, or, none⟩) NR cr) ∧ w'.cell? ⟨B0, 3, none⟩ = some (.slice (some ⟨gm, om, none⟩) NM cm) ∧ w'.cell? ⟨B0 + 1, 0, none⟩ = some (.int .i64 0) ∧ w'.cell? ⟨B0 + 1, 1, none⟩ = some (.int .i64 0) ∧ w'.frozen? ⟨B0 + 1, 0, none⟩ = false ∧ w'.frozen? ⟨B0 + 1, 1, none⟩ = false ∧ Below w.heap.size w w') ⟨x2, x3, r0, r1_, z0, z1, hB⟩ (fun ws hq => ?_)
  clear x0 x1 x2 x3 r0 r1_ z0 z1 hB
  obtain ⟨x2, x3, r0, r1_, z0, z1, hB⟩ := hq
  go_loopw [5, 6] (fun i ev wr => ∃ (k : Nat) (v6 : Value), (k ≤ NR ∧ i = .int .i64 (k : Int) ∧ ev = v6) ∧ Hid (P = eachF (rwE x) (NR - k) k) ∧ Below ws.heap.size ws wr)
    (fun i _ _ => NR - (intOf i).toNat)
  case atStart => exact ⟨0, _, ⟨Nat.zero_le _, rfl, rfl⟩, Lib.hid HP.out.symm, Below.refl _ _⟩
  case round =>
    obtain ⟨k, v6, ⟨hk, rfl, rfl⟩, HI, hW⟩ := hrel
    have x2 := keepC hW x2
    have x3 := keepC hW x3
    have z0 := keepF hW r0 z0
    have z1 := keepF hW r1_ z1
    have r0 := keepC hW r0
    have r1_ := keepC hW r1_
    have hB := belowSeq2 hB hW
    by_cases hlt : k < NR
    · have hk1 : (k : Int) < (NR : Int) := by omega
      obtain ⟨⟨s, d, a, b⟩, hr⟩ : ∃ z, x k = z := ⟨_, rfl⟩
      have d0 : wr.cell? ⟨gr, or + k * 4, none⟩ = some (.string s) := by have := keepC hB (HXR.out k 0 hlt (by decide)); rw [hr] at this; exact this
      have d1 : wr.cell? ⟨gr, or + k * 4 + 1, none⟩ = some (.int .i64 d) := by have := keepC hB (HXR.out k 1 hlt (by decide)); rw [hr] at this; exact this
      have d2 : wr.cell? ⟨gr, or + k * 4 + 2, none⟩ = some (.int .i64 a) := by have := keepC hB (HXR.out k 2 hlt (by decide)); rw [hr] at this; exact this
      have d3 : wr.cell? ⟨gr, or + k * 4 + 3, none⟩ = some (.int .i64 b) := by have := keepC hB (HXR.out k 3 hlt (by decide)); rw [hr] at this; exact this
      have HC := Lib.hid (fun w' => rrdE_any s d a b w')
      obtain ⟨ee, hee⟩ : ∃ z, rdE ⟨s, d, a, b⟩ = z := ⟨_, rfl⟩
      rw [hee] at HC
      by_cases hz : ee = 0
      case neg =>
        have HE : Hid (rwE x k = ee) := Lib.hid (rwE_bad (by rw [hr, hee]) hz)
        have hnz : (ee != 0) = true := by simp [hz]
        have hnz2 : (ee == 0) = false := by simp [hz]
        have HN := Lib.hid hz
        clear hz hee hr
        go_upto_region 10 with (go_at_call 50; (with_reducible refine Calls.mono (HC.out _) ?_); rintro e w2 ⟨rfl, hb2⟩; have z0 := keepF hb2 r0 z0; have z1 := keepF hb2 r1_ z1; have r0 := keepC hb2 r0; have r1_ := keepC hb2 r1_; have x2 := keepC hb2 x2; have x3 := keepC hb2 x3; have hB := belowSeq2 hB hb2; have hW := belowSeq2 hW hb2)
        go_quiet (fail)
        go_upto_region 12 with fail
        refine nameWorld (fun w' => w'.cell? ⟨B0, 2, none⟩ = some (.slice (some ⟨gr, or, none⟩) NR cr) ∧ w'.cell? ⟨B0, 3, none⟩ = some (.slice (some ⟨gm, om, none⟩) NM cm) ∧ w'.cell? ⟨B0 + 1, 0, none⟩ = some (.int .i64 0) ∧ w'.cell? ⟨B0 + 1, 1, none⟩ = some (.int .i64 0) ∧ w'.frozen? ⟨B0 + 1, 0, none⟩ = false ∧ w'.frozen? ⟨B0 + 1, 1, none⟩ = false ∧ Below w.heap.size w w' ∧ Below ws.heap.size ws w') ⟨keepC (belowDrewJ (Below.refl _ _) _) x2, keepC (belowDrewJ (Below.refl _ _) _) x3, keepC (belowDrewJ (Below.refl _ _) _) r0, keepC (belowDrewJ (Below.refl _ _) _) r1_, keepF (belowDrewJ (Below.refl _ _) _) r0 z0, keepF (belowDrewJ (Below.refl _ _) _) r1_ z1, belowDrewJ hB _, belowDrewJ hW _⟩ (fun wq hq => ?_)
        clear x2 x3 r0 r1_ z0 z1 hB hW
        obtain ⟨x2, x3, r0, r1_, z0, z1, hB, hW⟩ := hq
        go_wp2_with fail
        obtain ⟨c0, c1⟩ := set2 r0 r1_ (.int .i64 (1)) (.int .i64 ((k : Int)))
        (with_reducible refine bodyPost_ret (v := .tuple #[.agg #[.int .i64 (1), .int .i64 ((k : Int))], .int .i64 (ee)]) ?_ rfl ?_)
        · simp [results, Try.results12, go_sem, c0, c1]
        · exact ⟨by rw [HI.out, eachF_bad hlt HE.out (by first | exact HN.out | decide)]; simp [lstV, HN.out], by first | exact (hB.setCell (by show w.heap.size ≤ B0 + 1; omega) _).setCell (by show w.heap.size ≤ B0 + 1; omega) _ | exact hB | (rw [← hB0]; exact (hB.setCell (by show w.heap.size ≤ w.heap.size + 1; omega) _).setCell (by show w.heap.size ≤ w.heap.size + 1; omega) _)⟩
      case pos =>
        subst hz
        rcases Nat.eq_zero_or_pos k with hk0 | hk0
        · have HE : Hid (rwE x k = 0) := Lib.hid (by subst hk0; rw [rwE_0, hr, hee])
          have hn0 : decide (0 < k) = false := decide_eq_false (by omega)
          clear hee hr hk0
          go_upto_region 10 with (go_at_call 50; (with_reducible refine Calls.mono (HC.out _) ?_); rintro e w2 ⟨rfl, hb2⟩; have z0 := keepF hb2 r0 z0; have z1 := keepF hb2 r1_ z1; have r0 := keepC hb2 r0; have r1_ := keepC hb2 r1_; have x2 := keepC hb2 x2; have x3 := keepC hb2 x3; have hB := belowSeq2 hB hb2; have hW := belowSeq2 hW hb2)
          go_quiet (fail)
          go_upto_region 12 with fail
          refine nameWorld (fun w' => w'.cell? ⟨B0, 2, none⟩ = some (.slice (some ⟨gr, or, none⟩) NR cr) ∧ w'.cell? ⟨B0, 3, none⟩ = some (.slice (some ⟨gm, om, none⟩) NM cm) ∧ w'.cell? ⟨B0 + 1, 0, none⟩ = some (.int .i64 0) ∧ w'.cell? ⟨B0 + 1, 1, none⟩ = some (.int .i64 0) ∧ w'.frozen? ⟨B0 + 1, 0, none⟩ = false ∧ w'.frozen? ⟨B0 + 1, 1, none⟩ = false ∧ Below w.heap.size w w' ∧ Below ws.heap.size ws w') ⟨keepC (belowDrewJ (Below.refl _ _) _) x2, keepC (belowDrewJ (Below.refl _ _) _) x3, keepC (belowDrewJ (Below.refl _ _) _) r0, keepC (belowDrewJ (Below.refl _ _) _) r1_, keepF (belowDrewJ (Below.refl _ _) _) r0 z0, keepF (belowDrewJ (Below.refl _ _) _) r1_ z1, belowDrewJ hB _, belowDrewJ hW _⟩ (fun wq hq => ?_)
          clear x2 x3 r0 r1_ z0 z1 hB hW
          obtain ⟨x2, x3, r0, r1_, z0, z1, hB, hW⟩ := hq
          go_wp2_with fail
          go_roundw
          case rel => exact ⟨k + 1, _, ⟨by omega, by first | rfl | go_num, rfl⟩, Lib.hid (by rw [HI.out, eachF_good hlt HE.out]), hW⟩
          case measure => simp [intOf]; omega
        · obtain ⟨q, hq⟩ : ∃ q, k = q + 1 := ⟨k - 1, by omega⟩
          have hq1 : q < NR := by omega
          obtain ⟨⟨s2, d2, a2, b2⟩, hr2⟩ : ∃ z, x q = z := ⟨_, rfl⟩
          have p0 : wr.cell? ⟨gr, or + q * 4 + 1, none⟩ = some (.int .i64 d2) := by have := keepC hB (HXR.out q 1 hq1 (by decide)); rw [hr2] at this; exact this
          have u0 : IntKind.i64.wrap ((k : Int) - 1) = (q : Int) := by rw [show (k : Int) - 1 = (q : Int) by omega]; exact IntWalk.i64_in _ (by omega)
          have q0 : (0 : Int) ≤ (q : Int) := by omega
          have q1 : (q : Int) < (NR : Int) := by omega
          have hp0 : decide (0 < k) = true := decide_eq_true (by omega)
          have HS : Hid (rwE x k = if d2 ≤ d then 0 else 9) := Lib.hid (by rw [hq] at hr ⊢; rw [rwE_s, hr, hee, if_pos rfl, hr2])
          clear hee hr hr2 hq hk0
          by_cases hd : d2 ≤ d
          · have HE := Lib.hid (HS.out.trans (if_pos hd))
            have hd2 : decide (d < d2) = false := decide_eq_false (by omega)
            clear hd HS
            go_upto_region 10 with (go_at_call 50; (with_reducible refine Calls.mono (HC.out _) ?_); rintro e w2 ⟨rfl, hb2⟩; have z0 := keepF hb2 r0 z0; have z1 := keepF hb2 r1_ z1; have r0 := keepC hb2 r0; have r1_ := keepC hb2 r1_; have x2 := keepC hb2 x2; have x3 := keepC hb2 x3; have hB := belowSeq2 hB hb2; have hW := belowSeq2 hW hb2; have p0 := keepC hb2 p0; have d1 := keepC hb2 d1)
            go_quiet (fail)
            go_upto_region 12 with fail
            refine nameWorld (fun w' => w'.cell? ⟨B0, 2, none⟩ = some (.slice (some ⟨gr, or, none⟩) NR cr) ∧ w'.cell? ⟨B0, 3, none⟩ = some (.slice (some ⟨gm, om, none⟩) NM cm) ∧ w'.cell? ⟨B0 + 1, 0, none⟩ = some (.int .i64 0) ∧ w'.cell? ⟨B0 + 1, 1, none⟩ = some (.int .i64 0) ∧ w'.frozen? ⟨B0 + 1, 0, none⟩ = false ∧ w'.frozen? ⟨B0 + 1, 1, none⟩ = false ∧ Below w.heap.size w w' ∧ Below ws.heap.size ws w') ⟨keepC (belowDrewJ (Below.refl _ _) _) x2, keepC (belowDrewJ (Below.refl _ _) _) x3, keepC (belowDrewJ (Below.refl _ _) _) r0, keepC (belowDrewJ (Below.refl _ _) _) r1_, keepF (belowDrewJ (Below.refl _ _) _) r0 z0, keepF (belowDrewJ (Below.refl _ _) _) r1_ z1, belowDrewJ hB _, belowDrewJ hW _⟩ (fun wq hq => ?_)
            clear x2 x3 r0 r1_ z0 z1 hB hW
            obtain ⟨x2, x3, r0, r1_, z0, z1, hB, hW⟩ := hq
            go_wp2_with fail
            go_roundw
            case rel => exact ⟨k + 1, _, ⟨by omega, by first | rfl | go_num, rfl⟩, Lib.hid (by rw [HI.out, eachF_good hlt HE.out]), hW⟩
            case measure => simp [intOf]; omega
          · have HE := Lib.hid (HS.out.trans (if_neg hd))
            have hd2 : decide (d < d2) = true := decide_eq_true (by omega)
            clear hd HS
            go_upto_region 10 with (go_at_call 50; (with_reducible refine Calls.mono (HC.out _) ?_); rintro e w2 ⟨rfl, hb2⟩; have z0 := keepF hb2 r0 z0; have z1 := keepF hb2 r1_ z1; have r0 := keepC hb2 r0; have r1_ := keepC hb2 r1_; have x2 := keepC hb2 x2; have x3 := keepC hb2 x3; have hB := belowSeq2 hB hb2; have hW := belowSeq2 hW hb2; have p0 := keepC hb2 p0; have d1 := keepC hb2 d1)
            go_quiet (fail)
            go_upto_region 12 with fail
            refine nameWorld (fun w' => w'.cell? ⟨B0, 2, none⟩ = some (.slice (some ⟨gr, or, none⟩) NR cr) ∧ w'.cell? ⟨B0, 3, none⟩ = some (.slice (some ⟨gm, om, none⟩) NM cm) ∧ w'.cell? ⟨B0 + 1, 0, none⟩ = some (.int .i64 0) ∧ w'.cell? ⟨B0 + 1, 1, none⟩ = some (.int .i64 0) ∧ w'.frozen? ⟨B0 + 1, 0, none⟩ = false ∧ w'.frozen? ⟨B0 + 1, 1, none⟩ = false ∧ Below w.heap.size w w' ∧ Below ws.heap.size ws w') ⟨keepC (belowDrewJ (Below.refl _ _) _) x2, keepC (belowDrewJ (Below.refl _ _) _) x3, keepC (belowDrewJ (Below.refl _ _) _) r0, keepC (belowDrewJ (Below.refl _ _) _) r1_, keepF (belowDrewJ (Below.refl _ _) _) r0 z0, keepF (belowDrewJ (Below.refl _ _) _) r1_ z1, belowDrewJ hB _, belowDrewJ hW _⟩ (fun wq hq => ?_)
            clear x2 x3 r0 r1_ z0 z1 hB hW
            obtain ⟨x2, x3, r0, r1_, z0, z1, hB, hW⟩ := hq
            go_wp2_with fail
            obtain ⟨c0, c1⟩ := set2 r0 r1_ (.int .i64 (1)) (.int .i64 ((k : Int)))
            (with_reducible refine bodyPost_ret (v := .tuple #[.agg #[.int .i64 (1), .int .i64 ((k : Int))], .int .i64 (9)]) ?_ rfl ?_)
            · simp [results, Try.results12, go_sem, c0, c1]
            · exact ⟨by rw [HI.out, eachF_bad hlt HE.out (by decide)]; simp [lstV], by first | exact (hB.setCell (by show w.heap.size ≤ B0 + 1; omega) _).setCell (by show w.heap.size ≤ B0 + 1; omega) _ | exact hB | (rw [← hB0]; exact (hB.setCell (by show w.heap.size ≤ w.heap.size + 1; omega) _).setCell (by show w.heap.size ≤ w.heap.size + 1; omega) _)⟩
    · obtain rfl : NR = k := by omega
      have hge : ¬ (NR : Int) < (NR : Int) := by omega
      have HP0 : Hid (P = (0, 0)) := Lib.hid (by rw [HI.out, Nat.sub_self]; rfl)
      clear hlt
      clear HI
      go_upto_region 15 with fail
      refine nameWorld (fun w' => w'.cell? ⟨B0, 2, none⟩ = some (.slice (some ⟨gr, or, none⟩) NR cr) ∧ w'.cell? ⟨B0, 3, none⟩ = some (.slice (some ⟨gm, om, none⟩) NM cm) ∧ w'.cell? ⟨B0 + 1, 0, none⟩ = some (.int .i64 0) ∧ w'.cell? ⟨B0 + 1, 1, none⟩ = some (.int .i64 0) ∧ w'.frozen? ⟨B0 + 1, 0, none⟩ = false ∧ w'.frozen? ⟨B0 + 1, 1, none⟩ = false ∧ Below w.heap.size w w') ⟨x2, x3, r0, r1_, z0, z1, hB⟩ (fun wt hq => ?_)
      clear x2 x3 r0 r1_ z0 z1 hB hW
      obtain ⟨x2, x3, r0, r1_, z0, z1, hB⟩ := hq
      go_loopw [7, 8] (fun i ev wr => ∃ (k : Nat) (v6 : Value), (k ≤ NM ∧ i = .int .i64 (k : Int) ∧ ev = v6) ∧ Hid (Q = eachF (mwE y) (NM - k) k) ∧ Below wt.heap.size wt wr)
        (fun i _ _ => NM - (intOf i).toNat)
      case atStart => exact ⟨0, _, ⟨Nat.zero_le _, rfl, rfl⟩, Lib.hid HQ.out.symm, Below.refl _ _⟩
      case round =>
        obtain ⟨k, v6, ⟨hk, rfl, rfl⟩, HI, hW⟩ := hrel
        have x2 := keepC hW x2
        have x3 := keepC hW x3
        have z0 := keepF hW r0 z0
        have z1 := keepF hW r1_ z1
        have r0 := keepC hW r0
        have r1_ := keepC hW r1_
        have hB := belowSeq2 hB hW
        by_cases hlt : k < NM
        · have hk1 : (k : Int) < (NM : Int) := by omega
          obtain ⟨⟨a, b, d, t⟩, hr⟩ : ∃ z, y k = z := ⟨_, rfl⟩
          have d0 : wr.cell? ⟨gm, om + k * 4, none⟩ = some (.int .i64 d) := by have := keepC hB (HXM.out k 0 hlt (by decide)); rw [hr] at this; exact this
          have d1 : wr.cell? ⟨gm, om + k * 4 + 1, none⟩ = some (.string a) := by have := keepC hB (HXM.out k 1 hlt (by decide)); rw [hr] at this; exact this
          have d2 : wr.cell? ⟨gm, om + k * 4 + 2, none⟩ = some (.string b) := by have := keepC hB (HXM.out k 2 hlt (by decide)); rw [hr] at this; exact this
          have d3 : wr.cell? ⟨gm, om + k * 4 + 3, none⟩ = some (.int .i64 t) := by have := keepC hB (HXM.out k 3 hlt (by decide)); rw [hr] at this; exact this
          have HC := Lib.hid (fun w' => rmvE_any a b d t w')
          obtain ⟨ee, hee⟩ : ∃ z, mvE ⟨a, b, d, t⟩ = z := ⟨_, rfl⟩
          rw [hee] at HC
          by_cases hz : ee = 0
          case neg =>
            have HE : Hid (mwE y k = ee) := Lib.hid (mwE_bad (by rw [hr, hee]) hz)
            have hnz : (ee != 0) = true := by simp [hz]
            have hnz2 : (ee == 0) = false := by simp [hz]
            have HN := Lib.hid hz
            clear hz hee hr
            go_upto_region 18 with (go_at_call 51; (with_reducible refine Calls.mono (HC.out _) ?_); rintro e w2 ⟨rfl, hb2⟩; have z0 := keepF hb2 r0 z0; have z1 := keepF hb2 r1_ z1; have r0 := keepC hb2 r0; have r1_ := keepC hb2 r1_; have x2 := keepC hb2 x2; have x3 := keepC hb2 x3; have hB := belowSeq2 hB hb2; have hW := belowSeq2 hW hb2)
            go_quiet (fail)
            go_upto_region 20 with fail
            refine nameWorld (fun w' => w'.cell? ⟨B0, 2, none⟩ = some (.slice (some ⟨gr, or, none⟩) NR cr) ∧ w'.cell? ⟨B0, 3, none⟩ = some (.slice (some ⟨gm, om, none⟩) NM cm) ∧ w'.cell? ⟨B0 + 1, 0, none⟩ = some (.int .i64 0) ∧ w'.cell? ⟨B0 + 1, 1, none⟩ = some (.int .i64 0) ∧ w'.frozen? ⟨B0 + 1, 0, none⟩ = false ∧ w'.frozen? ⟨B0 + 1, 1, none⟩ = false ∧ Below w.heap.size w w' ∧ Below wt.heap.size wt w') ⟨keepC (belowDrewJ (Below.refl _ _) _) x2, keepC (belowDrewJ (Below.refl _ _) _) x3, keepC (belowDrewJ (Below.refl _ _) _) r0, keepC (belowDrewJ (Below.refl _ _) _) r1_, keepF (belowDrewJ (Below.refl _ _) _) r0 z0, keepF (belowDrewJ (Below.refl _ _) _) r1_ z1, belowDrewJ hB _, belowDrewJ hW _⟩ (fun wq hq => ?_)
            clear x2 x3 r0 r1_ z0 z1 hB hW
            obtain ⟨x2, x3, r0, r1_, z0, z1, hB, hW⟩ := hq
            go_wp2_with fail
            obtain ⟨c0, c1⟩ := set2 r0 r1_ (.int .i64 (2)) (.int .i64 ((k : Int)))
            (with_reducible refine bodyPost_ret (v := .tuple #[.agg #[.int .i64 (2), .int .i64 ((k : Int))], .int .i64 (ee)]) ?_ rfl ?_)
            · simp [results, Try.results12, go_sem, c0, c1]
            · exact ⟨by rw [HI.out, eachF_bad hlt HE.out (by first | exact HN.out | decide)]; simp [lstV, HP0.out, HN.out], by first | exact (hB.setCell (by show w.heap.size ≤ B0 + 1; omega) _).setCell (by show w.heap.size ≤ B0 + 1; omega) _ | exact hB | (rw [← hB0]; exact (hB.setCell (by show w.heap.size ≤ w.heap.size + 1; omega) _).setCell (by show w.heap.size ≤ w.heap.size + 1; omega) _)⟩
          case pos =>
            subst hz
            rcases Nat.eq_zero_or_pos k with hk0 | hk0
            · have HE : Hid (mwE y k = 0) := Lib.hid (by subst hk0; rw [mwE_0, hr, hee])
              have hn0 : decide (0 < k) = false := decide_eq_false (by omega)
              clear hee hr hk0
              go_upto_region 18 with (go_at_call 51; (with_reducible refine Calls.mono (HC.out _) ?_); rintro e w2 ⟨rfl, hb2⟩; have z0 := keepF hb2 r0 z0; have z1 := keepF hb2 r1_ z1; have r0 := keepC hb2 r0; have r1_ := keepC hb2 r1_; have x2 := keepC hb2 x2; have x3 := keepC hb2 x3; have hB := belowSeq2 hB hb2; have hW := belowSeq2 hW hb2)
              go_quiet (fail)
              go_upto_region 20 with fail
              refine nameWorld (fun w' => w'.cell? ⟨B0, 2, none⟩ = some (.slice (some ⟨gr, or, none⟩) NR cr) ∧ w'.cell? ⟨B0, 3, none⟩ = some (.slice (some ⟨gm, om, none⟩) NM cm) ∧ w'.cell? ⟨B0 + 1, 0, none⟩ = some (.int .i64 0) ∧ w'.cell? ⟨B0 + 1, 1, none⟩ = some (.int .i64 0) ∧ w'.frozen? ⟨B0 + 1, 0, none⟩ = false ∧ w'.frozen? ⟨B0 + 1, 1, none⟩ = false ∧ Below w.heap.size w w' ∧ Below wt.heap.size wt w') ⟨keepC (belowDrewJ (Below.refl _ _) _) x2, keepC (belowDrewJ (Below.refl _ _) _) x3, keepC (belowDrewJ (Below.refl _ _) _) r0, keepC (belowDrewJ (Below.refl _ _) _) r1_, keepF (belowDrewJ (Below.refl _ _) _) r0 z0, keepF (belowDrewJ (Below.refl _ _) _) r1_ z1, belowDrewJ hB _, belowDrewJ hW _⟩ (fun wq hq => ?_)
              clear x2 x3 r0 r1_ z0 z1 hB hW
              obtain ⟨x2, x3, r0, r1_, z0, z1, hB, hW⟩ := hq
              go_wp2_with fail
              go_roundw
              case rel => exact ⟨k + 1, _, ⟨by omega, by first | rfl | go_num, rfl⟩, Lib.hid (by rw [HI.out, eachF_good hlt HE.out]), hW⟩
              case measure => simp [intOf]; omega
            · obtain ⟨q, hq⟩ : ∃ q, k = q + 1 := ⟨k - 1, by omega⟩
              have hq1 : q < NM := by omega
              obtain ⟨⟨a2, b2, d2, t2⟩, hr2⟩ : ∃ z, y q = z := ⟨_, rfl⟩
              have p0 : wr.cell? ⟨gm, om + q * 4, none⟩ = some (.int .i64 d2) := by have := keepC hB (HXM.out q 0 hq1 (by decide)); rw [hr2] at this; exact this
              have u0 : IntKind.i64.wrap ((k : Int) - 1) = (q : Int) := by rw [show (k : Int) - 1 = (q : Int) by omega]; exact IntWalk.i64_in _ (by omega)
              have q0 : (0 : Int) ≤ (q : Int) := by omega
              have q1 : (q : Int) < (NM : Int) := by omega
              have hp0 : decide (0 < k) = true := decide_eq_true (by omega)
              have HS : Hid (mwE y k = if d2 ≤ d then 0 else 9) := Lib.hid (by rw [hq] at hr ⊢; rw [mwE_s, hr, hee, if_pos rfl, hr2])
              clear hee hr hr2 hq hk0
              by_cases hd : d2 ≤ d
              · have HE := Lib.hid (HS.out.trans (if_pos hd))
                have hd2 : decide (d < d2) = false := decide_eq_false (by omega)
                clear hd HS
                go_upto_region 18 with (go_at_call 51; (with_reducible refine Calls.mono (HC.out _) ?_); rintro e w2 ⟨rfl, hb2⟩; have z0 := keepF hb2 r0 z0; have z1 := keepF hb2 r1_ z1; have r0 := keepC hb2 r0; have r1_ := keepC hb2 r1_; have x2 := keepC hb2 x2; have x3 := keepC hb2 x3; have hB := belowSeq2 hB hb2; have hW := belowSeq2 hW hb2; have p0 := keepC hb2 p0; have d0 := keepC hb2 d0)
                go_quiet (fail)
                go_upto_region 20 with fail
                refine nameWorld (fun w' => w'.cell? ⟨B0, 2, none⟩ = some (.slice (some ⟨gr, or, none⟩) NR cr) ∧ w'.cell? ⟨B0, 3, none⟩ = some (.slice (some ⟨gm, om, none⟩) NM cm) ∧ w'.cell? ⟨B0 + 1, 0, none⟩ = some (.int .i64 0) ∧ w'.cell? ⟨B0 + 1, 1, none⟩ = some (.int .i64 0) ∧ w'.frozen? ⟨B0 + 1, 0, none⟩ = false ∧ w'.frozen? ⟨B0 + 1, 1, none⟩ = false ∧ Below w.heap.size w w' ∧ Below wt.heap.size wt w') ⟨keepC (belowDrewJ (Below.refl _ _) _) x2, keepC (belowDrewJ (Below.refl _ _) _) x3, keepC (belowDrewJ (Below.refl _ _) _) r0, keepC (belowDrewJ (Below.refl _ _) _) r1_, keepF (belowDrewJ (Below.refl _ _) _) r0 z0, keepF (belowDrewJ (Below.refl _ _) _) r1_ z1, belowDrewJ hB _, belowDrewJ hW _⟩ (fun wq hq => ?_)
                clear x2 x3 r0 r1_ z0 z1 hB hW
                obtain ⟨x2, x3, r0, r1_, z0, z1, hB, hW⟩ := hq
                go_wp2_with fail
                go_roundw
                case rel => exact ⟨k + 1, _, ⟨by omega, by first | rfl | go_num, rfl⟩, Lib.hid (by rw [HI.out, eachF_good hlt HE.out]), hW⟩
                case measure => simp [intOf]; omega
              · have HE := Lib.hid (HS.out.trans (if_neg hd))
                have hd2 : decide (d < d2) = true := decide_eq_true (by omega)
                clear hd HS
                go_upto_region 18 with (go_at_call 51; (with_reducible refine Calls.mono (HC.out _) ?_); rintro e w2 ⟨rfl, hb2⟩; have z0 := keepF hb2 r0 z0; have z1 := keepF hb2 r1_ z1; have r0 := keepC hb2 r0; have r1_ := keepC hb2 r1_; have x2 := keepC hb2 x2; have x3 := keepC hb2 x3; have hB := belowSeq2 hB hb2; have hW := belowSeq2 hW hb2; have p0 := keepC hb2 p0; have d0 := keepC hb2 d0)
                go_quiet (fail)
                go_upto_region 20 with fail
                refine nameWorld (fun w' => w'.cell? ⟨B0, 2, none⟩ = some (.slice (some ⟨gr, or, none⟩) NR cr) ∧ w'.cell? ⟨B0, 3, none⟩ = some (.slice (some ⟨gm, om, none⟩) NM cm) ∧ w'.cell? ⟨B0 + 1, 0, none⟩ = some (.int .i64 0) ∧ w'.cell? ⟨B0 + 1, 1, none⟩ = some (.int .i64 0) ∧ w'.frozen? ⟨B0 + 1, 0, none⟩ = false ∧ w'.frozen? ⟨B0 + 1, 1, none⟩ = false ∧ Below w.heap.size w w' ∧ Below wt.heap.size wt w') ⟨keepC (belowDrewJ (Below.refl _ _) _) x2, keepC (belowDrewJ (Below.refl _ _) _) x3, keepC (belowDrewJ (Below.refl _ _) _) r0, keepC (belowDrewJ (Below.refl _ _) _) r1_, keepF (belowDrewJ (Below.refl _ _) _) r0 z0, keepF (belowDrewJ (Below.refl _ _) _) r1_ z1, belowDrewJ hB _, belowDrewJ hW _⟩ (fun wq hq => ?_)
                clear x2 x3 r0 r1_ z0 z1 hB hW
                obtain ⟨x2, x3, r0, r1_, z0, z1, hB, hW⟩ := hq
                go_wp2_with fail
                obtain ⟨c0, c1⟩ := set2 r0 r1_ (.int .i64 (2)) (.int .i64 ((k : Int)))
                (with_reducible refine bodyPost_ret (v := .tuple #[.agg #[.int .i64 (2), .int .i64 ((k : Int))], .int .i64 (9)]) ?_ rfl ?_)
                · simp [results, Try.results12, go_sem, c0, c1]
                · exact ⟨by rw [HI.out, eachF_bad hlt HE.out (by decide)]; simp [lstV, HP0.out], by first | exact (hB.setCell (by show w.heap.size ≤ B0 + 1; omega) _).setCell (by show w.heap.size ≤ B0 + 1; omega) _ | exact hB | (rw [← hB0]; exact (hB.setCell (by show w.heap.size ≤ w.heap.size + 1; omega) _).setCell (by show w.heap.size ≤ w.heap.size + 1; omega) _)⟩
        · obtain rfl : NM = k := by omega
          have hge : ¬ (NM : Int) < (NM : Int) := by omega
          have HQ0 : Hid (Q = (0, 0)) := Lib.hid (by rw [HI.out, Nat.sub_self]; rfl)
          clear hlt
          go_wp2_with fail
          obtain ⟨c0, c1⟩ := set2 r0 r1_ (.int .i64 (0)) (.int .i64 (0))
          (with_reducible refine bodyPost_ret (v := .tuple #[.agg #[.int .i64 (0), .int .i64 (0)], .int .i64 (0)]) ?_ rfl ?_)
          · simp [results, Try.results12, go_sem, c0, c1]
          · exact ⟨by simp [lstV, HP0.out, HQ0.out], by first | exact (hB.setCell (by show w.heap.size ≤ B0 + 1; omega) _).setCell (by show w.heap.size ≤ B0 + 1; omega) _ | exact hB | (rw [← hB0]; exact (hB.setCell (by show w.heap.size ≤ w.heap.size + 1; omega) _).setCell (by show w.heap.size ≤ w.heap.size + 1; omega) _)⟩
/-- what the reference says of a book -/
def bookV (lo hi : Int) (NR NM : Nat) (x : Nat → Rd) (y : Nat → Mw) : Value :=
  if rangeE lo hi 100000 ≠ 0 then .tuple #[.agg #[.int .i64 0, .int .i64 0], .int .i64 (rangeE lo hi 100000)] else if 40 < NR ∨ 60 < NM then .tuple #[.agg #[.int .i64 0, .int .i64 0], .int .i64 8] else lstV (eachF (rwE x) NR 0) (eachF (mwE y) NM 0)
theorem rbook_any (lo hi : Int) (gr or NR cr gm om NM cm : Nat) (x : Nat → Rd) (y : Nat → Mw) (w : World) (hR : ∀ i j, i < NR → j < 4 → w.cell? ⟨gr, or + i * 4 + j, none⟩ = some ((x i).at j)) (hM : ∀ i j, i < NM → j < 4 → w.cell? ⟨gm, om + i * 4 + j, none⟩ = some ((y i).at j)) :
    Calls Try.prog 12 #[.agg #[.int .i64 lo, .int .i64 hi, .slice (some ⟨gr, or, none⟩) NR cr, .slice (some ⟨gm, om, none⟩) NM cm]] w fun e w' => e = .returned (bookV lo hi NR NM x y) ∧ Below w.heap.size w w' := by
  unfold bookV
  by_cases h1 : rangeE lo hi 100000 = 0
  · rw [if_neg (by simpa using h1)]
    by_cases h2 : 40 < NR ∨ 60 < NM
    · rw [if_pos h2]
      exact rbook_many lo hi gr or NR cr gm om NM cm x y w hR hM h1 h2
    · rw [if_neg h2]
      exact rbook_lists lo hi gr or NR cr gm om NM cm x y w hR hM h1 (by omega) (by omega)
  · rw [if_pos h1]
    exact rbook_head lo hi gr or NR cr gm om NM cm x y w hR hM h1
/-- what the program says of it is the same -/
theorem book_any (lo hi : Int) (gr or NR cr gm om NM cm : Nat) (x : Nat → Rd) (y : Nat → Mw) (w : World) (hR : ∀ i j, i < NR → j < 4 → w.cell? ⟨gr, or + i * 4 + j, none⟩ = some ((x i).at j)) (hM : ∀ i j, i < NM → j < 4 → w.cell? ⟨gm, om + i * 4 + j, none⟩ = some ((y i).at j)) (hnr : NR ≤ 100000) (hnm : NM ≤ 100000) :
    Calls Try.prog 9 #[.agg #[.int .i64 lo, .int .i64 hi, .slice (some ⟨gr, or, none⟩) NR cr, .slice (some ⟨gm, om, none⟩) NM cm]] w fun e w' => e = .returned (bookV lo hi NR NM x y) ∧ Below w.heap.size w w' := by
  have hE : bookE lo hi NR NM = if rangeE lo hi 100000 = 0 then (if 40 < NR ∨ 60 < NM then 8 else 0) else rangeE lo hi 100000 := by
    unfold bookE
    rw [firstL3]
    by_cases h1 : rangeE lo hi 100000 = 0
    · rw [if_pos h1, if_pos h1]
      have d2 : decide ((NR : Int) ≤ 40) = decide (NR ≤ 40) := by congr 1; exact propext (by omega)
      have d3 : decide ((NM : Int) ≤ 60) = decide (NM ≤ 60) := by congr 1; exact propext (by omega)
      by_cases h2 : NR ≤ 40 <;> by_cases h3 : NM ≤ 60
      · rw [if_neg (show ¬ (40 < NR ∨ 60 < NM) by omega), d2, d3, decide_eq_true h2, decide_eq_true h3]; rfl
      · rw [if_pos (show 40 < NR ∨ 60 < NM by omega), d2, d3, decide_eq_true h2, decide_eq_false h3]; rfl
      · rw [if_pos (show 40 < NR ∨ 60 < NM by omega), d2, d3, decide_eq_false h2, decide_eq_true h3]; rfl
      · rw [if_pos (show 40 < NR ∨ 60 < NM by omega), d2, d3, decide_eq_false h2, decide_eq_false h3]; rfl
    · rw [if_neg h1, if_neg h1]
  unfold bookV
  by_cases hd : bookE lo hi NR NM = 0
  · have h1 : rangeE lo hi 100000 = 0 := by
      by_cases h : rangeE lo hi 100000 = 0
      · exact h
      · rw [hE, if_neg h] at hd; exact hd
    have h2 : ¬ (40 < NR ∨ 60 < NM) := fun h => by rw [hE, if_pos h1, if_pos h] at hd; cases hd
    rw [if_neg (by simpa using h1), if_neg h2]
    unfold lstV
    by_cases hz : (eachF (rwE x) NR 0).2 = 0
    · rw [if_neg (by simpa using hz)]
      by_cases hz2 : (eachF (mwE y) NM 0).2 = 0
      · rw [if_neg (by simpa using hz2)]
        exact book_fine lo hi gr or NR cr gm om NM cm x y w hR hM hnr hnm hd hz hz2
      · rw [if_pos hz2]
        exact book_move lo hi gr or NR cr gm om NM cm x y w hR hM hnr hnm hd hz hz2
    · rw [if_pos hz]
      exact book_reading lo hi gr or NR cr gm om NM cm x y w hR hM hnr hnm hd hz
  · have hb := book_wrong lo hi gr or NR cr gm om NM cm x y w hR hM hnr hnm hd
    by_cases h1 : rangeE lo hi 100000 = 0
    · have h2 : 40 < NR ∨ 60 < NM := by
        by_cases h : 40 < NR ∨ 60 < NM
        · exact h
        · exfalso; rw [hE, if_pos h1, if_neg h] at hd; exact hd rfl
      rw [if_neg (by simpa using h1), if_pos h2]
      rw [hE, if_pos h1, if_pos h2] at hb
      exact hb
    · rw [if_pos h1]
      rw [hE, if_neg h1] at hb
      exact hb
end Go.Proofs.Ytlmnhlmgbcpclaa
