/- FOR EVERY INPUT THE LAW TopFlorFortified ANSWERS TRUE: a wine that is fortified behind some days with the greater number of decilitres that is told for a target has at least this strength, by a law that asks for it. No condition. -/
import Derived.Test.YtbijhcoloajjaaaG0
import Derived.Test.YtbijhcoloajjaaaZ9
import Derived.Test.YtbijhcoloajjaaaM1
import Derived.Test.YtbijhcoloajjaaaF12
import Derived.Test.YtbijhcoloajjaaaLTopFlorFortified
namespace Go.Proofs.Ytbijhcoloajjaaa
open Go.RowKit

theorem fawake_any (w : World) : Calls Try.prog 23 #[] w fun e w' => e = .returned (.bool true) ∧ Below w.heap.size w w' := by
  refine fawake_of (fun w => ?_) (fun w => ?_) w
  · exact florAfter_any 1000 1000 1500 1600 200 200 100 200 200 300 100 w
  · exact florSafe_fine 1000 1000 1500 1600 200 200 100 200 200 300 1490 w 33 (by decide +kernel) (by decide) safe33
theorem legal_two {z2 z3 z4 z5 tg : Int} (h0 : tg ≤ z2) (h1 : z2 ≤ z3) (h2 : z3 ≤ 10000) (h3 : 0 ≤ z4) (h4 : z4 ≤ z5) (h5 : z5 ≤ 100000) : lgR z2 z3 z4 z5 tg 10000 0 100000 = 2 := by
  have e0 : mx z2 tg = z2 := mx_eq.2 h0
  have e1 : mn z3 10000 = z3 := mn_eq.2 h2
  have e2 : mx z4 0 = z4 := mx_eq.2 h3
  have e3 : mn z5 100000 = z5 := mn_eq.2 h5
  unfold lgR
  rw [e0, e1, e2, e3, if_neg (by omega), if_pos ⟨⟨rfl, rfl⟩, rfl, rfl⟩]
set_option maxRecDepth 100000 in
set_option maxHeartbeats 2000000 in
theorem fort_walk (v0 v1 s0 s1 c0 c1 a0 a1 g0 g1 dy sp tg : Int) (w : World) :
    Calls Try.prog 7 #[.agg #[.int .i64 v0, .int .i64 v1, .int .i64 s0, .int .i64 s1, .int .i64 c0, .int .i64 c1], .agg #[.int .i64 a0, .int .i64 a1, .int .i64 g0, .int .i64 g1], .agg #[.int .i64 dy, .int .i64 sp, .int .i64 tg]] w fun e w' => e = .returned (.bool true) ∧ Below w.heap.size w w' := by
  have hA : ∀ w : World, Calls Try.prog 24 #[.agg #[.int .i64 v0, .int .i64 v1, .int .i64 s0, .int .i64 s1, .int .i64 c0, .int .i64 c1], .agg #[.int .i64 a0, .int .i64 a1, .int .i64 g0, .int .i64 g1], .int .i64 dy] w fun e w' => e = .returned (.tuple #[(aftWin ⟨v0, v1, s0, s1, c0, c1⟩ ⟨a0, a1, g0, g1, dy⟩).val, .int .i64 (aftErr ⟨v0, v1, s0, s1, c0, c1⟩ ⟨a0, a1, g0, g1, dy⟩)]) ∧ Below w.heap.size w w' := fun w => by
    have := florAfter_any v0 v1 s0 s1 c0 c1 a0 a1 g0 g1 dy w
    rw [show aftF v0 v1 s0 s1 c0 c1 a0 a1 g0 g1 dy = _ from aft_val (⟨v0, v1, s0, s1, c0, c1⟩ : Wn) (⟨a0, a1, g0, g1, dy⟩ : Sp)] at this
    exact this
  by_cases h1 : ((⟨v0, v1, s0, s1, c0, c1⟩ : Wn).task (⟨a0, a1, g0, g1, dy⟩ : Sp) != 0) = true
  · rw [aftWin, aftErr, if_pos h1, if_pos h1] at hA
    exact fort_after v0 v1 s0 s1 c0 c1 a0 a1 g0 g1 dy sp tg _ w fawake_any hA h1
  by_cases h2 : (⟨v0, v1, s0, s1, c0, c1⟩ : Wn).large (⟨a0, a1, g0, g1, dy⟩ : Sp)
  · rw [aftWin, aftErr, if_neg h1, if_neg h1, if_pos h2, if_pos h2] at hA
    exact fort_after v0 v1 s0 s1 c0 c1 a0 a1 g0 g1 dy sp tg _ w fawake_any hA (by decide)
  rw [aftWin, aftErr, if_neg h1, if_neg h1, if_neg h2, if_neg h2] at hA
  have hy := behind_right (x := (⟨v0, v1, s0, s1, c0, c1⟩ : Wn)) (r := (⟨a0, a1, g0, g1, dy⟩ : Sp)) (by simpa using h1) h2
  generalize (⟨v0, v1, s0, s1, c0, c1⟩ : Wn).behind (⟨a0, a1, g0, g1, dy⟩ : Sp) = y at hA hy
  obtain ⟨y0, y1, y2, y3, y4, y5⟩ := y
  obtain ⟨⟨Y0, Y1, Y2⟩, ⟨Y3, Y4, Y5⟩, ⟨Y6, Y7, Y8⟩⟩ := wineE_zero.1 hy
  dsimp only at Y0 Y1 Y2 Y3 Y4 Y5 Y6 Y7 Y8
  by_cases h3 : (firstE (wineE y0 y1 y2 y3 y4 y5) (strE sp) (strE tg) != 0) = true
  · exact fort_spirit v0 v1 s0 s1 c0 c1 a0 a1 g0 g1 dy sp tg y0 y1 y2 y3 y4 y5 _ w fawake_any hA (fun w => florSpirit_wrong y0 y1 y2 y3 y4 y5 sp tg w h3) h3
  have h3 : (firstE (wineE y0 y1 y2 y3 y4 y5) (strE sp) (strE tg) != 0) = false := by simpa using h3
  by_cases h4 : sp ≤ tg
  · exact fort_spirit v0 v1 s0 s1 c0 c1 a0 a1 g0 g1 dy sp tg y0 y1 y2 y3 y4 y5 _ w fawake_any hA (fun w => florSpirit_zero y0 y1 y2 y3 y4 y5 sp tg w h3 h4) (by decide)
  have h4 : tg < sp := by omega
  by_cases h5 : 100000 < ndE y1 y2 sp tg
  · exact fort_spirit v0 v1 s0 s1 c0 c1 a0 a1 g0 g1 dy sp tg y0 y1 y2 y3 y4 y5 _ w fawake_any hA (fun w => florSpirit_large y0 y1 y2 y3 y4 y5 sp tg w h3 h4 h5) (by decide)
  have h5 : ndE y1 y2 sp tg ≤ 100000 := by omega
  have hz : firstE (wineE y0 y1 y2 y3 y4 y5) (strE sp) (strE tg) = 0 := by simpa using h3
  obtain ⟨-, hst, htg⟩ := firstE_zero.1 hz
  rw [strE_zero] at hst htg
  have hS := fun w => florSpirit_fine y0 y1 y2 y3 y4 y5 sp tg w h3 h4 h5
  have hn0 := nd_nonneg (v1 := y1) (s := y2) (st := sp) (tg := tg) (by omega) h4
  have hv := two_right hy (spW_right hn0 h5 hst.1 hst.2)
  have hF := fun w => fortified_any ⟨y0, y1, y2, y3, y4, y5⟩ (ndE y1 y2 sp tg) sp w
  have hB : mixB (twoW ⟨y0, y1, y2, y3, y4, y5⟩ (spW (ndE y1 y2 sp tg) sp)) 2 0 = 0 := mixB_zero 2 0 fun j _ hj => hv j (by omega)
  have hstr := fort_strong (y := ⟨y0, y1, y2, y3, y4, y5⟩) (st := sp) (tg := tg) hy hst.2 h4
  rw [mixR, if_neg (by rw [hB]; decide)] at hF
  by_cases h6 : mixV (twoW ⟨y0, y1, y2, y3, y4, y5⟩ (spW (ndE y1 y2 sp tg) sp)) 2 = 0
  · rw [if_neg (by rw [h6]; decide)] at hF
    have hz := mixW_right hv h6
    have hz2 := hz
    obtain ⟨-, ⟨S0, S1, S2⟩, ⟨C0, C1, C2⟩⟩ := wineE_zero.1 hz2
    refine fort_fine v0 v1 s0 s1 c0 c1 a0 a1 g0 g1 dy sp tg y0 y1 y2 y3 y4 y5 _ _ _ _ _ _ _ _ w fawake_any hA hS hF (fun w => ?_)
    have hlw : (lawE tg 10000 0 100000) = 0 := by
      have : rangeE tg 10000 10000 = 0 := rangeE_zero.2 ⟨htg.1, htg.2, by omega⟩
      unfold lawE
      rw [this]; rfl
    have hq : (firstE (mixW (twoW ⟨y0, y1, y2, y3, y4, y5⟩ (spW (ndE y1 y2 sp tg) sp)) 2).err (lawE tg 10000 0 100000) 0 != 0) = false := by rw [firstE_zero.2 ⟨hz, hlw, rfl⟩]; rfl
    have hL := florLegal_right (mixW (twoW ⟨y0, y1, y2, y3, y4, y5⟩ (spW (ndE y1 y2 sp tg) sp)) 2).v0 (mixW (twoW ⟨y0, y1, y2, y3, y4, y5⟩ (spW (ndE y1 y2 sp tg) sp)) 2).v1 (mixW (twoW ⟨y0, y1, y2, y3, y4, y5⟩ (spW (ndE y1 y2 sp tg) sp)) 2).s0 (mixW (twoW ⟨y0, y1, y2, y3, y4, y5⟩ (spW (ndE y1 y2 sp tg) sp)) 2).s1 (mixW (twoW ⟨y0, y1, y2, y3, y4, y5⟩ (spW (ndE y1 y2 sp tg) sp)) 2).c0 (mixW (twoW ⟨y0, y1, y2, y3, y4, y5⟩ (spW (ndE y1 y2 sp tg) sp)) 2).c1 tg 10000 0 100000 w hq
    have hs2 : tg ≤ (mixW (twoW ⟨y0, y1, y2, y3, y4, y5⟩ (spW (ndE y1 y2 sp tg) sp)) 2).s0 := hstr
    rw [legal_two hs2 S1 S2 C0 C1 C2] at hL
    exact hL
  · rw [if_pos h6] at hF
    exact fort_none v0 v1 s0 s1 c0 c1 a0 a1 g0 g1 dy sp tg y0 y1 y2 y3 y4 y5 _ _ _ w fawake_any hA hS hF (by rcases mixV_cases (twoW ⟨y0, y1, y2, y3, y4, y5⟩ (spW (ndE y1 y2 sp tg) sp)) 2 with h | h | h <;> omega)
theorem topFlorFortified_holds : Rows.TopFlorFortifiedSaid :=
  TopFlorFortified.over (fun v0 v1 s0 s1 c0 c1 a0 a1 g0 g1 dy sp tg w _ => fort_walk v0 v1 s0 s1 c0 c1 a0 a1 g0 g1 dy sp tg w)
end Go.Proofs.Ytbijhcoloajjaaa
