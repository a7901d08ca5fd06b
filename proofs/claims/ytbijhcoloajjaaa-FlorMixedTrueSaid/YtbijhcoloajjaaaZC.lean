import Derived.Test.YtbijhcoloajjaaaZB
import Derived.Test.YtbijhcoloajjaaaF4
import Derived.WalkKit
import Derived.OwnWalkIn
import Derived.TacticsInMore
import Derived.LoopNIn
import Derived.LoopIn
import Derived.Sort.CutIn
/- flor's means. -/
namespace Go.Proofs.Ytbijhcoloajjaaa
open Go.RowKit Go.Shelf
attribute [local go_sem] Oper.semAt_some

set_option linter.unusedVariables false in
set_option linter.unusedSimpArgs false in
set_option maxRecDepth 100000 in
set_option maxHeartbeats 8000000 in
theorem means_strength (f : Nat → Wn) (rb ro n cp : Nat) (w : World) (hn0 : 0 < n) (hn : n ≤ 8) (hv : ∀ i, i < n → (f i).err = 0)
    (hc : ∀ i j, i < n → j < 6 → w.cell? ⟨rb, ro + i * 6 + j, none⟩ = some (.int .i64 ((f i).at j))) :
    Calls Try.prog 33 #[.slice (some ⟨rb, ro, none⟩) n cp, .func (.func 34) #[] #[], .func (.func 35) #[] #[]] w fun e w' =>
      e = .returned (.agg #[.int .i64 (loF f Wn.s0 n (choices f n (2 ^ n))), .int .i64 (hiF f Wn.s1 n (choices f n (2 ^ n)))]) ∧ Below w.heap.size w w' := by
  have HC := Lib.hid hc
  have HV := Lib.hid hv
  clear hc hv
  have srb := World.block_lt_of_cell? w _ (HC.out 0 0 hn0 (by decide))
  dsimp only at srb
  refine (callsIn_wide (n := 9)).1 ?_
  refine callsIn_of_wp_marks Try.func33 rfl trivial ?_ rfl
  simp only [Try.ntmps33, List.size_toArray, List.length_cons, List.length_nil, Nat.reduceAdd, Nat.reduceSub, Array.replicate_succ, Array.replicate_zero, List.push_toArray, List.append_toArray, List.nil_append, List.cons_append]
  gi_wp2_with (refine ⟨trivial, ?_⟩; refine (callsIn_wide.2 (corners_any _ _ _ _)).mono ?_; rintro e w1 ⟨bm, be, rfl, hbm, hbe, cm, ce0, ce1, hb1⟩)
  have hs : w.heap.size + 1 + 1 + 1 + 1 + 1 ≤ w1.heap.size := by have := hb1.size; simpa using this
  simp only [World.size_alloc] at hbm hbe
  have m0 : w1.cell? ⟨w.heap.size, 0, none⟩ = some (.slice (some ⟨rb, ro, none⟩) n cp) := keepC hb1 (by go_cell)
  have m1 : w1.cell? ⟨w.heap.size + 1, 0, none⟩ = some (.func (.func 34) #[] #[]) := keepC hb1 (by go_cell)
  have m2 : w1.cell? ⟨w.heap.size + 1 + 1, 0, none⟩ = some (.func (.func 35) #[] #[]) := keepC hb1 (by go_cell)
  have hb2 := belowSeq hb1 ((Below.refl _ _).alloc (Nat.le_refl _) _)
  obtain ⟨r0, rz0⟩ := newBoth (B := w.heap.size + 1 + 1 + 1) (by simp) hb2 0 _ rfl
  obtain ⟨r1, rz1⟩ := newBoth (B := w.heap.size + 1 + 1 + 1) (by simp) hb2 1 _ rfl
  obtain ⟨o0, oz0⟩ := newBoth (B := w.heap.size + 1 + 1 + 1 + 1) (by simp) hb1 0 _ rfl
  obtain ⟨o1, oz1⟩ := newBoth (B := w.heap.size + 1 + 1 + 1 + 1) (by simp) hb1 1 _ rfl
  have hB1 : Below w.heap.size w w1 := belowSeq hb1 (by go_grown)
  clear hb1 hb2
  obtain ⟨B0, hB0⟩ : ∃ B, w.heap.size = B := ⟨_, rfl⟩
  have hrow : ∀ i j, i < n → j < 6 → w1.cell? ⟨rb, ro + i * 6 + j, none⟩ = some (.int .i64 ((f i).at j)) := fun i j hi hj => keepC hB1 (HC.out i j hi hj)
  rw [hB0] at hs hbm hbe srb m0 m1 m2 r0 r1 rz0 rz1 o0 o1 oz0 oz1 ⊢
  have HROW := Lib.hid hrow
  clear HC hrow
  have HR := Lib.hid (And.intro (And.intro r0 r1) (And.intro rz0 rz1))
  clear r0 r1 rz0 rz1
  refine rangeZ rfl (by decide) rfl trivial (enters_of Try.func68 (by kernel_rfl) rfl)
    (corners_seq f rb ro n cp bm be (B0 + 1 + 1 + 1 + 1) 8 w1 hn0 hn HV.out cm ce0 ce1 HROW.out (by omega) (by omega) (by omega)) (by omega) rfl
    (fun pre W => Hid (W.cell? ⟨B0 + 1 + 1 + 1 + 1, 0, none⟩ = some (.int .i64 (loF f Wn.s0 n (pre.map (·.2)))) ∧ W.cell? ⟨B0 + 1 + 1 + 1 + 1, 1, none⟩ = some (.int .i64 (hiF f Wn.s1 n (pre.map (·.2)))) ∧
      W.frozen? ⟨B0 + 1 + 1 + 1 + 1, 0, none⟩ = false ∧ W.frozen? ⟨B0 + 1 + 1 + 1 + 1, 1, none⟩ = false ∧ KeptBut (· = B0 + 1 + 1 + 1 + 1) w1 W))
    (fun pre A B hA hAB => by
      have hA := hA.out
      refine Lib.hid ⟨(hAB.cell (p := ⟨B0 + 1 + 1 + 1 + 1, 0, none⟩) (by show B0 + 1 + 1 + 1 + 1 < _; omega)).trans hA.1, (hAB.cell (p := ⟨B0 + 1 + 1 + 1 + 1, 1, none⟩) (by show B0 + 1 + 1 + 1 + 1 < _; omega)).trans hA.2.1, (hAB.frozen (p := ⟨B0 + 1 + 1 + 1 + 1, 0, none⟩) (by show B0 + 1 + 1 + 1 + 1 < _; omega)).trans hA.2.2.1, (hAB.frozen (p := ⟨B0 + 1 + 1 + 1 + 1, 1, none⟩) (by show B0 + 1 + 1 + 1 + 1 < _; omega)).trans hA.2.2.2.1, ?_⟩
      have hk := hA.2.2.2.2
      exact ⟨Nat.le_trans hk.1 hAB.size, hk.2.1.trans hAB.os.symm, hk.2.2.1.trans hAB.tape.symm, hk.2.2.2.1.trans hAB.output.symm, fun k h1 h2 => (hAB.block k h1).trans (hk.2.2.2.2 k h1 h2)⟩)
    (Lib.hid ⟨o0, o1, oz0, oz1, KeptBut.refl _ _⟩)
    (fun x => { tmps := #[.slice (some ⟨rb, ro, none⟩) n cp, .func (.func 34) #[] #[], .func (.func 35) #[] #[], .pointer (some ⟨B0, 0, none⟩), .pointer (some ⟨B0 + 1, 0, none⟩), .pointer (some ⟨B0 + 1 + 1, 0, none⟩), .pointer (some ⟨B0 + 1 + 1 + 1, 0, none⟩), .pointer (some ⟨B0 + 1 + 1 + 1 + 1, 0, none⟩), .slice (some ⟨x.1, 0, none⟩) n n, undef, undef, undef, undef, undef, .agg #[.int .i64 9223372036854775807, .int .i64 0], .slice (some ⟨rb, ro, none⟩) n cp, .func (.func 68) #[] #[.pointer (some ⟨bm, 0, none⟩), .pointer (some ⟨be, 0, none⟩)], .slice (some ⟨x.1, 0, none⟩) n n, undef, undef, undef, undef, undef, undef, undef, undef, undef, undef, undef, undef, undef, undef, undef, undef, undef, undef, undef, undef, undef, undef, undef, undef, undef, undef, undef, undef, undef, undef, undef, undef, undef, undef, undef, undef, undef, undef, undef, undef, undef, undef, undef, undef, undef, undef, undef, undef, undef], defers := [] })
    (fun x W l r o ⟨hp, hx⟩ hl => ⟨hp, fun i hi => ?rd⟩) ?assign ?body ?done
  case assign =>
    intro l x W K hK
    gi_wp2
    exact hK
  case rd =>
    have hne : l ≠ x.1 := fun e => by
      have h2 := hx i hi
      rw [World.cell?, ← e, hl] at h2
      cases h2
    rw [World.cell?_of_block (w := W) (World.putObj_heap_other (Ne.symm hne))]
    exact hx i hi
  case body =>
    rintro l pre ⟨g, c⟩ W hl hsz hI ⟨hpos, hvol⟩
    obtain ⟨o0, o1, oz0, oz1, hk⟩ := hI.out
    dsimp only
    have q0 : W.cell? ⟨B0, 0, none⟩ = some (.slice (some ⟨rb, ro, none⟩) n cp) := (hk.cell (p := ⟨B0, 0, none⟩) (by show B0 < _; omega) (by show ¬ (B0 = B0 + 1 + 1 + 1 + 1); omega)).trans m0
    have q1 : W.cell? ⟨B0 + 1, 0, none⟩ = some (.func (.func 34) #[] #[]) := (hk.cell (p := ⟨B0 + 1, 0, none⟩) (by show B0 + 1 < _; omega) (by show ¬ (B0 + 1 = B0 + 1 + 1 + 1 + 1); omega)).trans m1
    have q2 : W.cell? ⟨B0 + 1 + 1, 0, none⟩ = some (.func (.func 35) #[] #[]) := (hk.cell (p := ⟨B0 + 1 + 1, 0, none⟩) (by show B0 + 1 + 1 < _; omega) (by show ¬ (B0 + 1 + 1 = B0 + 1 + 1 + 1 + 1); omega)).trans m2
    have hrow : ∀ i j, i < n → j < 6 → W.cell? ⟨rb, ro + i * 6 + j, none⟩ = some (.int .i64 ((f i).at j)) := fun i j hi hj => (hk.cell (p := ⟨rb, ro + i * 6 + j, none⟩) (by show rb < _; omega) (by show ¬ (rb = _); omega)).trans (HROW.out i j hi hj)
    have HRW := Lib.hid hrow
    have HVOL := Lib.hid hvol
    have HPOS := Lib.hid hpos
    dsimp only at hpos hvol
    have hgs : g < W.heap.size := World.block_lt_of_cell? W _ (hvol 0 hn0)
    have hB0s : B0 + 1 + 1 + 1 + 1 < W.heap.size := World.block_lt_of_cell? W _ o0
    clear hrow hvol hpos hI
    have hn2 : (0 : Int) ≤ (n : Int) := by omega
    have hn3 : (n : Int) ≤ 8 := by omega
    gi_wp2_with fail
    gi_loopw [9, 10, 11, 20] (fun t lo hi i wy => ∃ j : Nat, (j ≤ n ∧ t = .int .i64 (totC f c j) ∧ lo = .int .i64 (sumC f Wn.s0 c j) ∧ hi = .int .i64 (sumC f Wn.s1 c j) ∧ i = .int .i64 j) ∧ Hid (Below W.heap.size W wy))
      (fun _ _ _ i _ => n - (intOf i).toNat)
    case atStart => exact ⟨0, ⟨Nat.zero_le _, rfl, rfl, rfl, rfl⟩, Lib.hid (Below.refl _ _)⟩
    case round =>
      obtain ⟨j, ⟨hj, rfl, rfl, rfl, rfl⟩, HB⟩ := hrel
      by_cases hlt : j < n
      · obtain ⟨⟨x0, x1, x2, x3, x4, x5⟩, hx⟩ : ∃ x, f j = x := ⟨_, rfl⟩
        have d0 := keepC HB.out (HRW.out j 0 hlt (by decide))
        rw [hx] at d0
        rw [Nat.add_zero] at d0
        dsimp only [Wn.at] at d0
        have d1 := keepC HB.out (HRW.out j 1 hlt (by decide))
        rw [hx] at d1
        dsimp only [Wn.at] at d1
        have d2 := keepC HB.out (HRW.out j 2 hlt (by decide))
        rw [hx] at d2
        dsimp only [Wn.at] at d2
        have d3 := keepC HB.out (HRW.out j 3 hlt (by decide))
        rw [hx] at d3
        dsimp only [Wn.at] at d3
        have d4 := keepC HB.out (HRW.out j 4 hlt (by decide))
        rw [hx] at d4
        dsimp only [Wn.at] at d4
        have d5 := keepC HB.out (HRW.out j 5 hlt (by decide))
        rw [hx] at d5
        dsimp only [Wn.at] at d5
        have dv := keepC HB.out (HVOL.out j hlt)
        have k1 := keepC HB.out q1
        have k2 := keepC HB.out q2
        clear q0 q1 q2
        have hwr : W.heap.size ≤ wr.heap.size := HB.out.size
        obtain ⟨⟨R0, R1, R2⟩, ⟨T0, T1, T2⟩, ⟨Z0, Z1, Z2⟩⟩ := wineE_zero.1 (hx ▸ HV.out j hlt)
        dsimp only at R0 R1 R2 T0 T1 T2 Z0 Z1 Z2
        obtain ⟨tt, htt⟩ : ∃ t, totC f c j = t := ⟨_, rfl⟩
        have htb : 0 ≤ tt ∧ tt ≤ 800000 := by have := totC_bd HV.out c j (by omega); rw [htt] at this; omega
        obtain ⟨ll, hll⟩ : ∃ t, sumC f Wn.s0 c j = t := ⟨_, rfl⟩
        have hlb : 0 ≤ ll ∧ ll ≤ 80000000000 := by have := sumC_bd (g := Wn.s0) HV.out (fun i hi => by obtain ⟨⟨_, _, _⟩, ⟨_, _, _⟩, ⟨_, _, _⟩⟩ := wineE_zero.1 (HV.out i hi); omega) c j (by omega); rw [hll] at this; omega
        obtain ⟨hh, hhh⟩ : ∃ t, sumC f Wn.s1 c j = t := ⟨_, rfl⟩
        have hhb : 0 ≤ hh ∧ hh ≤ 80000000000 := by have := sumC_bd (g := Wn.s1) HV.out (fun i hi => by obtain ⟨⟨_, _, _⟩, ⟨_, _, _⟩, ⟨_, _, _⟩⟩ := wineE_zero.1 (HV.out i hi); omega) c j (by omega); rw [hhh] at this; omega
        obtain ⟨vv, hvv⟩ : ∃ v, volC f c j = v := ⟨_, rfl⟩
        have hvb : 0 ≤ vv ∧ vv ≤ 100000 := hvv ▸ volC_bd HV.out c hlt
        obtain ⟨a0, a1⟩ := mul_bd vv x2 100000 100000 hvb.1 hvb.2 (by omega) (by omega)
        obtain ⟨b0, b1⟩ := mul_bd vv x3 100000 100000 hvb.1 hvb.2 (by omega) (by omega)
        rw [htt, hll, hhh]
        rw [hvv] at dv
        have hgl : Wn.s0 (f j) = x2 := by rw [hx]
        have hgh : Wn.s1 (f j) = x3 := by rw [hx]
        have HT := Lib.hid (And.intro htt hvv)
        have HLL := Lib.hid (And.intro hll hgl)
        have HHH := Lib.hid (And.intro hhh hgh)
        clear htt hvv hll hgl hhh hgh hx R0 R1 R2 T0 T1 T2 Z0 Z1 Z2
        have hk0 : (0 : Int) ≤ (j : Int) := by omega
        have hk1 : (j : Int) < (n : Int) := by omega
        have u0 : IntKind.i64.wrap (vv * x2) = vv * x2 := IntWalk.i64_in _ (by omega)
        have u1 : IntKind.i64.wrap (ll + vv * x2) = ll + vv * x2 := IntWalk.i64_in _ (by omega)
        have u2 : IntKind.i64.wrap (vv * x3) = vv * x3 := IntWalk.i64_in _ (by omega)
        have u3 : IntKind.i64.wrap (hh + vv * x3) = hh + vv * x3 := IntWalk.i64_in _ (by omega)
        have hgw : g < wr.heap.size := World.block_lt_of_cell? wr _ dv
        gi_wp2_with fail
        obtain ⟨BW, hBW⟩ : ∃ B, wr.heap.size = B := ⟨_, rfl⟩
        rw [hBW]
        refine nameWorldIn (fun w' => w'.cell? ⟨BW, 0, none⟩ = some (.int .i64 x0) ∧ w'.cell? ⟨BW, 1, none⟩ = some (.int .i64 x1) ∧ w'.cell? ⟨BW, 2, none⟩ = some (.int .i64 x2) ∧ w'.cell? ⟨BW, 3, none⟩ = some (.int .i64 x3) ∧ w'.cell? ⟨BW, 4, none⟩ = some (.int .i64 x4) ∧ w'.cell? ⟨BW, 5, none⟩ = some (.int .i64 x5) ∧ w'.cell? ⟨B0 + 1, 0, none⟩ = some (.func (.func 34) #[] #[]) ∧ w'.cell? ⟨B0 + 1 + 1, 0, none⟩ = some (.func (.func 35) #[] #[]) ∧ w'.cell? ⟨g, j, none⟩ = some (.int .i64 vv) ∧ Below wr.heap.size wr w') ?_ (fun wc hc => ?_)
        · rw [← hBW]; have hb9 := (Below.refl _ wr).alloc (Nat.le_refl _) (.cells #[.int .i64 x0, .int .i64 x1, .int .i64 x2, .int .i64 x3, .int .i64 x4, .int .i64 x5] 76)
          exact ⟨newCell 0 _ rfl, newCell 1 _ rfl, newCell 2 _ rfl, newCell 3 _ rfl, newCell 4 _ rfl, newCell 5 _ rfl, keepC hb9 k1, keepC hb9 k2, keepC hb9 dv, hb9⟩
        clear k1 k2 dv d0 d1 d2 d3 d4 d5
        obtain ⟨y0, y1, y2, y3, y4, y5, k1, k2, dv, hBc⟩ := hc
        refine regionXIn 11 0 [] [] (by kernel_rfl) (fun ⟨_, _, h⟩ => h) (by kernel_rfl) (by kernel_rfl) (by kernel_rfl) (by kernel_rfl) (by decide) (fun _ _ d _ _ h => by cases d <;> exact h) ?_
        intro R hR
        simp only [List.take_succ_cons, List.take_zero]
        iterate 11 (first | (refine headP_val ?_ (by rfl) (by rfl) (fun w' hw' => ?_) ?_; rotate_left; (focus (have y0 := keepC hw' y0; have y1 := keepC hw' y1; have y2 := keepC hw' y2; have y3 := keepC hw' y3; have y4 := keepC hw' y4; have y5 := keepC hw' y5; have y6 := keepC hw' k1; have y7 := keepC hw' k2; have y8 := keepC hw' dv; first | (refine onlyMakes_val ?_; first | (go_simp; done) | (go_simp; with_reducible rfl)) | (apply onlyMakes_call; (first | (go_simp; done) | (go_simp; exact ⟨rfl, rfl⟩) | (go_simp; with_reducible rfl)); first | (with_reducible exact leastStrength_any _ _ _ _ _ _ _)))); (try dsimp only); (try simp only [Act.put, List.setIfInBounds_toArray, List.set_cons_zero, List.set_cons_succ])) | (refine headP_pure ?_ (by rfl) (by rfl) (fun w' => ?_) ?_; rotate_left; (focus ((first | (go_simp; done) | (go_simp; with_reducible rfl)))); (try dsimp only); (try simp only [Act.put, List.setIfInBounds_toArray, List.set_cons_zero, List.set_cons_succ])) | (refine headP_skip (by rfl) ?_; (try dsimp only); (try simp only [Act.put, List.setIfInBounds_toArray, List.set_cons_zero, List.set_cons_succ])))
        refine headP_nil (hR.out _ ?_)
        intro w3 hw3
        refine wpAny_done (by kernel_rfl) ?_
        have y0 := keepC hw3 y0
        have y1 := keepC hw3 y1
        have y2 := keepC hw3 y2
        have y3 := keepC hw3 y3
        have y4 := keepC hw3 y4
        have y5 := keepC hw3 y5
        have k1 := keepC hw3 k1
        have k2 := keepC hw3 k2
        have dv := keepC hw3 dv
        have hB3 := belowSeq hw3 hBc
        clear hR hw3 hBc
        gi_wp2_with fail
        refine regionXIn 11 0 [] [] (by kernel_rfl) (fun ⟨_, _, h⟩ => h) (by kernel_rfl) (by kernel_rfl) (by kernel_rfl) (by kernel_rfl) (by decide) (fun _ _ d _ _ h => by cases d <;> exact h) ?_
        intro R hR
        simp only [List.take_succ_cons, List.take_zero]
        iterate 11 (first | (refine headP_val ?_ (by rfl) (by rfl) (fun w' hw' => ?_) ?_; rotate_left; (focus (have y0 := keepC hw' y0; have y1 := keepC hw' y1; have y2 := keepC hw' y2; have y3 := keepC hw' y3; have y4 := keepC hw' y4; have y5 := keepC hw' y5; have y6 := keepC hw' k1; have y7 := keepC hw' k2; have y8 := keepC hw' dv; first | (refine onlyMakes_val ?_; first | (go_simp; done) | (go_simp; with_reducible rfl)) | (apply onlyMakes_call; (first | (go_simp; done) | (go_simp; exact ⟨rfl, rfl⟩) | (go_simp; with_reducible rfl)); first | (with_reducible exact mostStrength_any _ _ _ _ _ _ _)))); (try dsimp only); (try simp only [Act.put, List.setIfInBounds_toArray, List.set_cons_zero, List.set_cons_succ])) | (refine headP_pure ?_ (by rfl) (by rfl) (fun w' => ?_) ?_; rotate_left; (focus ((first | (go_simp; done) | (go_simp; with_reducible rfl)))); (try dsimp only); (try simp only [Act.put, List.setIfInBounds_toArray, List.set_cons_zero, List.set_cons_succ])) | (refine headP_skip (by rfl) ?_; (try dsimp only); (try simp only [Act.put, List.setIfInBounds_toArray, List.set_cons_zero, List.set_cons_succ])))
        refine headP_nil (hR.out _ ?_)
        intro w4 hw4
        refine wpAny_done (by kernel_rfl) ?_
        have hB4 := belowSeq hw4 hB3
        clear hR hw4 hB3 y0 y1 y2 y3 y4 y5 k1 k2 dv
        gi_wp2_with fail
        go_roundw
        case rel => exact ⟨j + 1, ⟨by omega, by rw [totC, HT.out.1, HT.out.2], by rw [sumC, HLL.out.1, HLL.out.2, HT.out.2], by rw [sumC, HHH.out.1, HHH.out.2, HT.out.2], by first | rfl | go_num⟩, Lib.hid (belowSeq hB4 HB.out)⟩
        case measure => simp [intOf]; omega
      · have e : j = n := by omega
        subst e
        have hpos := HPOS.out
        obtain ⟨tt, htt⟩ : ∃ t, totC f c j = t := ⟨_, rfl⟩
        have htb : 0 ≤ tt ∧ tt ≤ 800000 := by have := totC_bd HV.out c j (by omega); rw [htt] at this; omega
        obtain ⟨ll, hll⟩ : ∃ t, sumC f Wn.s0 c j = t := ⟨_, rfl⟩
        have hlb : 0 ≤ ll ∧ ll ≤ 80000000000 := by have := sumC_bd (g := Wn.s0) HV.out (fun i hi => by obtain ⟨⟨_, _, _⟩, ⟨_, _, _⟩, ⟨_, _, _⟩⟩ := wineE_zero.1 (HV.out i hi); omega) c j (by omega); rw [hll] at this; omega
        obtain ⟨hh, hhh⟩ : ∃ t, sumC f Wn.s1 c j = t := ⟨_, rfl⟩
        have hhb : 0 ≤ hh ∧ hh ≤ 80000000000 := by have := sumC_bd (g := Wn.s1) HV.out (fun i hi => by obtain ⟨⟨_, _, _⟩, ⟨_, _, _⟩, ⟨_, _, _⟩⟩ := wineE_zero.1 (HV.out i hi); omega) c j (by omega); rw [hhh] at this; omega
        rw [htt] at hpos
        have htd : 0 < tt := hpos
        rw [htt, hll, hhh]
        have HT := Lib.hid htt
        have HLL := Lib.hid hll
        have HHH := Lib.hid hhh
        have HFL := Lib.hid (fun w => still_call (ffl_any ll tt w (by omega) (by omega) (by omega) (by omega)))
        have HCE := Lib.hid (fun w => still_call (fce_any hh tt w (by omega) (by omega) (by omega) (by omega)))
        obtain ⟨ol, hol⟩ : ∃ x, loF f Wn.s0 j (pre.map (·.2)) = x := ⟨_, rfl⟩
        obtain ⟨oh, hoh⟩ : ∃ x, hiF f Wn.s1 j (pre.map (·.2)) = x := ⟨_, rfl⟩
        rw [hol] at o0
        rw [hoh] at o1
        have HOL := Lib.hid hol
        have HOH := Lib.hid hoh
        have p0 := keepC HB.out o0
        have p1 := keepC HB.out o1
        have z0 := keepF HB.out o0 oz0
        have z1 := keepF HB.out o1 oz1
        have HK := Lib.hid (KeptBut.of_below (B := (· = B0 + 1 + 1 + 1 + 1)) HB.out)
        clear htt hll hhh hpos hol hoh o0 o1 oz0 oz1 q0 q1 q2
        gi_wp2_with fail
        refine regionXIn 7 0 [] [] (by kernel_rfl) (fun ⟨_, _, h⟩ => h) (by kernel_rfl) (by kernel_rfl) (by kernel_rfl) (by kernel_rfl) (by decide) (fun _ _ d _ _ h => by cases d <;> exact h) ?_
        intro R hR
        simp only [List.take_succ_cons, List.take_zero]
        iterate 7 (first | (refine headP_val ?_ (by rfl) (by rfl) (fun w' hw' => ?_) ?_; rotate_left; (focus (have y0 := keepC hw' p0; first | (refine onlyMakes_val ?_; first | (go_simp; done) | (go_simp; with_reducible rfl)) | (apply onlyMakes_call; (first | (go_simp; done) | (go_simp; exact ⟨rfl, rfl⟩) | (go_simp; with_reducible rfl)); first | (with_reducible exact HFL.out _)))); (try dsimp only); (try simp only [Act.put, List.setIfInBounds_toArray, List.set_cons_zero, List.set_cons_succ])) | (refine headP_pure ?_ (by rfl) (by rfl) (fun w' => ?_) ?_; rotate_left; (focus ((first | (go_simp; done) | (go_simp; with_reducible rfl)))); (try dsimp only); (try simp only [Act.put, List.setIfInBounds_toArray, List.set_cons_zero, List.set_cons_succ])) | (refine headP_skip (by rfl) ?_; (try dsimp only); (try simp only [Act.put, List.setIfInBounds_toArray, List.set_cons_zero, List.set_cons_succ])))
        refine headP_nil (hR.out _ ?_)
        refine AnyZ.last 7 (by kernel_rfl) (by decide) (fun w2 hw2 => ?_)
        refine wpAny_one 7 (by kernel_rfl) rfl rfl ?_
        have g0 := keepC hw2 p0
        have g1 := keepC hw2 p1
        have y0 := keepF hw2 p0 z0
        have y1 := keepF hw2 p1 z1
        clear hR p0 p1 z0 z1
        (try simp only [List.getElem_toArray, List.getElem_cons_succ, List.getElem_cons_zero])
        (try simp only [Act.put, List.setIfInBounds_toArray, List.set_cons_succ, List.set_cons_zero])
        unfold Oper.wp
        go_simp
        refine wpAny_done (by kernel_rfl) ?_
        gi_upto_region 13 with fail
        have hk2 : KeptBut (· = B0 + 1 + 1 + 1 + 1) W w2 := HK.out.trans (KeptBut.of_below hw2)
        refine nameWorldIn (fun w' => w'.cell? ⟨B0 + 1 + 1 + 1 + 1, 0, none⟩ = some (.int .i64 (min ol (fl ll tt))) ∧ w'.cell? ⟨B0 + 1 + 1 + 1 + 1, 1, none⟩ = some (.int .i64 oh) ∧ w'.frozen? ⟨B0 + 1 + 1 + 1 + 1, 0, none⟩ = false ∧ w'.frozen? ⟨B0 + 1 + 1 + 1 + 1, 1, none⟩ = false ∧ Hid (KeptBut (· = B0 + 1 + 1 + 1 + 1) W w')) ?_ (fun wd hd => ?_)
        · exact ⟨World.cell?_setCell_same _ _ _ g0, by rw [setOff (by decide)]; exact g1, by rw [World.frozen?_setCell]; exact y0, by rw [World.frozen?_setCell]; exact y1, Lib.hid (hk2.set rfl)⟩
        clear HK hk2 hw2 g0 g1 y0 y1
        obtain ⟨p0, p1, z0, z1, HK⟩ := hd
        refine regionXIn 7 0 [] [] (by kernel_rfl) (fun ⟨_, _, h⟩ => h) (by kernel_rfl) (by kernel_rfl) (by kernel_rfl) (by kernel_rfl) (by decide) (fun _ _ d _ _ h => by cases d <;> exact h) ?_
        intro R hR
        simp only [List.take_succ_cons, List.take_zero]
        iterate 7 (first | (refine headP_val ?_ (by rfl) (by rfl) (fun w' hw' => ?_) ?_; rotate_left; (focus (have y0 := keepC hw' p1; first | (refine onlyMakes_val ?_; first | (go_simp; done) | (go_simp; with_reducible rfl)) | (apply onlyMakes_call; (first | (go_simp; done) | (go_simp; exact ⟨rfl, rfl⟩) | (go_simp; with_reducible rfl)); first | (with_reducible exact HCE.out _)))); (try dsimp only); (try simp only [Act.put, List.setIfInBounds_toArray, List.set_cons_zero, List.set_cons_succ])) | (refine headP_pure ?_ (by rfl) (by rfl) (fun w' => ?_) ?_; rotate_left; (focus ((first | (go_simp; done) | (go_simp; with_reducible rfl)))); (try dsimp only); (try simp only [Act.put, List.setIfInBounds_toArray, List.set_cons_zero, List.set_cons_succ])) | (refine headP_skip (by rfl) ?_; (try dsimp only); (try simp only [Act.put, List.setIfInBounds_toArray, List.set_cons_zero, List.set_cons_succ])))
        refine headP_nil (hR.out _ ?_)
        refine AnyZ.last 7 (by kernel_rfl) (by decide) (fun w2 hw2 => ?_)
        refine wpAny_one 7 (by kernel_rfl) rfl rfl ?_
        have g0 := keepC hw2 p0
        have g1 := keepC hw2 p1
        have y0 := keepF hw2 p0 z0
        have y1 := keepF hw2 p1 z1
        clear hR p0 p1 z0 z1
        (try simp only [List.getElem_toArray, List.getElem_cons_succ, List.getElem_cons_zero])
        (try simp only [Act.put, List.setIfInBounds_toArray, List.set_cons_succ, List.set_cons_zero])
        unfold Oper.wp
        go_simp
        refine wpAny_done (by kernel_rfl) ?_
        gi_wp2_with fail
        have hk2 : KeptBut (· = B0 + 1 + 1 + 1 + 1) W w2 := HK.out.trans (KeptBut.of_below hw2)
        refine ⟨hk2.set rfl, Lib.hid ⟨?_, ?_, by rw [World.frozen?_setCell]; exact y0, by rw [World.frozen?_setCell]; exact y1, hk.trans (hk2.set rfl)⟩⟩
        · rw [setOff (by decide), g0, List.map_append, List.map_singleton, loF_snoc, loS, HOL.out, HLL.out, HT.out]
        · rw [List.map_append, List.map_singleton, hiF_snoc, hiS, HOH.out, HHH.out, HT.out]
          exact World.cell?_setCell_same _ _ _ g1
  case done =>
    rintro D xs W hD hS hI hK hsz
    obtain ⟨o0, o1, oz0, oz1, hk⟩ := hI.out
    obtain ⟨⟨r0, r1⟩, rz0, rz1⟩ := HR.out
    have hS2 : xs.map (·.2) = choices f n (2 ^ n) := hS
    rw [hS2] at o0 o1
    have r0 := (hk.cell (p := ⟨B0 + 1 + 1 + 1, 0, none⟩) (by show B0 + 1 + 1 + 1 < _; omega) (by show ¬ (B0 + 1 + 1 + 1 = B0 + 1 + 1 + 1 + 1); omega)).trans r0
    have r1 := (hk.cell (p := ⟨B0 + 1 + 1 + 1, 1, none⟩) (by show B0 + 1 + 1 + 1 < _; omega) (by show ¬ (B0 + 1 + 1 + 1 = B0 + 1 + 1 + 1 + 1); omega)).trans r1
    have rz0 := (hk.frozen (p := ⟨B0 + 1 + 1 + 1, 0, none⟩) (by show B0 + 1 + 1 + 1 < _; omega) (by show ¬ (B0 + 1 + 1 + 1 = B0 + 1 + 1 + 1 + 1); omega)).trans rz0
    have rz1 := (hk.frozen (p := ⟨B0 + 1 + 1 + 1, 1, none⟩) (by show B0 + 1 + 1 + 1 < _; omega) (by show ¬ (B0 + 1 + 1 + 1 = B0 + 1 + 1 + 1 + 1); omega)).trans rz1
    (try dsimp only at r0 r1)
    dsimp only
    gi_wp2_with fail
    have hB2 : Below B0 w W := by
      rw [hB0] at hB1
      exact ⟨hk.2.1.symm.trans hB1.os, hk.2.2.1.symm.trans hB1.tape, hk.2.2.2.1.symm.trans hB1.output, Nat.le_trans hB1.size hk.1, fun k h1 => (hk.2.2.2.2 k (by omega) (by show ¬ (k = B0 + 1 + 1 + 1 + 1); omega)).trans (hB1.block k h1)⟩
    have hB3 := (hB2.setCell (p := ⟨B0 + 1 + 1 + 1, 0, none⟩) (by show B0 ≤ B0 + 1 + 1 + 1; omega) (.int .i64 (loF f Wn.s0 n (choices f n (2 ^ n))))).setCell (p := ⟨B0 + 1 + 1 + 1, 1, none⟩) (by show B0 ≤ B0 + 1 + 1 + 1; omega) (.int .i64 (hiF f Wn.s1 n (choices f n (2 ^ n))))
    have hK3 : ((W.setCell ⟨B0 + 1 + 1 + 1, 0, none⟩ (.int .i64 (loF f Wn.s0 n (choices f n (2 ^ n))))).setCell ⟨B0 + 1 + 1 + 1, 1, none⟩ (.int .i64 (hiF f Wn.s1 n (choices f n (2 ^ n))))).heap[D]? = some (.deferred (some [])) :=
      (Below.heap_setCell _ _ _ _ (by show _ ≠ _; dsimp only; omega)).trans ((Below.heap_setCell _ _ _ _ (by show _ ≠ _; dsimp only; omega)).trans hK)
    obtain ⟨c0, c1⟩ := set2 r0 r1 (.int .i64 (loF f Wn.s0 n (choices f n (2 ^ n)))) (.int .i64 (hiF f Wn.s1 n (choices f n (2 ^ n))))
    generalize ((W.setCell ⟨B0 + 1 + 1 + 1, 0, none⟩ (.int .i64 (loF f Wn.s0 n (choices f n (2 ^ n))))).setCell ⟨B0 + 1 + 1 + 1, 1, none⟩ (.int .i64 (hiF f Wn.s1 n (choices f n (2 ^ n))))) = W' at *
    have hDW : D < W'.heap.size := (Array.getElem?_eq_some_iff.1 hK3).1
    have hne : B0 + 1 + 1 + 1 ≠ D := by omega
    have d0 : (W'.putObj D (.deferred none)).cell? ⟨B0 + 1 + 1 + 1, 0, none⟩ = some (.int .i64 (loF f Wn.s0 n (choices f n (2 ^ n)))) := (World.cell?_of_block (w := W') (World.putObj_heap_other hne)).trans c0
    have d1 : (W'.putObj D (.deferred none)).cell? ⟨B0 + 1 + 1 + 1, 1, none⟩ = some (.int .i64 (hiF f Wn.s1 n (choices f n (2 ^ n)))) := (World.cell?_of_block (w := W') (World.putObj_heap_other hne)).trans c1
    refine ⟨by simp, .inl ⟨_, _, rfl, run_takeDeferred hK3, ?_⟩⟩
    refine ⟨_, (by simp [results, Try.results33, go_sem, d0, d1]), rfl, ?_⟩
    exact hB3.grown (grownBy_putObj' W' D _) (by omega) (fun k e => by cases e; omega)
end Go.Proofs.Ytbijhcoloajjaaa

/- flor's means, of sugars. -/
namespace Go.Proofs.Ytbijhcoloajjaaa
open Go.RowKit Go.Shelf
attribute [local go_sem] Oper.semAt_some

set_option linter.unusedVariables false in
set_option linter.unusedSimpArgs false in
set_option maxRecDepth 100000 in
set_option maxHeartbeats 8000000 in
theorem means_sugar (f : Nat → Wn) (rb ro n cp : Nat) (w : World) (hn0 : 0 < n) (hn : n ≤ 8) (hv : ∀ i, i < n → (f i).err = 0)
    (hc : ∀ i j, i < n → j < 6 → w.cell? ⟨rb, ro + i * 6 + j, none⟩ = some (.int .i64 ((f i).at j))) :
    Calls Try.prog 33 #[.slice (some ⟨rb, ro, none⟩) n cp, .func (.func 36) #[] #[], .func (.func 37) #[] #[]] w fun e w' =>
      e = .returned (.agg #[.int .i64 (loF f Wn.c0 n (choices f n (2 ^ n))), .int .i64 (hiF f Wn.c1 n (choices f n (2 ^ n)))]) ∧ Below w.heap.size w w' := by
  have HC := Lib.hid hc
  have HV := Lib.hid hv
  clear hc hv
  have srb := World.block_lt_of_cell? w _ (HC.out 0 0 hn0 (by decide))
  dsimp only at srb
  refine (callsIn_wide (n := 9)).1 ?_
  refine callsIn_of_wp_marks Try.func33 rfl trivial ?_ rfl
  simp only [Try.ntmps33, List.size_toArray, List.length_cons, List.length_nil, Nat.reduceAdd, Nat.reduceSub, Array.replicate_succ, Array.replicate_zero, List.push_toArray, List.append_toArray, List.nil_append, List.cons_append]
  gi_wp2_with (refine ⟨trivial, ?_⟩; refine (callsIn_wide.2 (corners_any _ _ _ _)).mono ?_; rintro e w1 ⟨bm, be, rfl, hbm, hbe, cm, ce0, ce1, hb1⟩)
  have hs : w.heap.size + 1 + 1 + 1 + 1 + 1 ≤ w1.heap.size := by have := hb1.size; simpa using this
  simp only [World.size_alloc] at hbm hbe
  have m0 : w1.cell? ⟨w.heap.size, 0, none⟩ = some (.slice (some ⟨rb, ro, none⟩) n cp) := keepC hb1 (by go_cell)
  have m1 : w1.cell? ⟨w.heap.size + 1, 0, none⟩ = some (.func (.func 36) #[] #[]) := keepC hb1 (by go_cell)
  have m2 : w1.cell? ⟨w.heap.size + 1 + 1, 0, none⟩ = some (.func (.func 37) #[] #[]) := keepC hb1 (by go_cell)
  have hb2 := belowSeq hb1 ((Below.refl _ _).alloc (Nat.le_refl _) _)
  obtain ⟨r0, rz0⟩ := newBoth (B := w.heap.size + 1 + 1 + 1) (by simp) hb2 0 _ rfl
  obtain ⟨r1, rz1⟩ := newBoth (B := w.heap.size + 1 + 1 + 1) (by simp) hb2 1 _ rfl
  obtain ⟨o0, oz0⟩ := newBoth (B := w.heap.size + 1 + 1 + 1 + 1) (by simp) hb1 0 _ rfl
  obtain ⟨o1, oz1⟩ := newBoth (B := w.heap.size + 1 + 1 + 1 + 1) (by simp) hb1 1 _ rfl
  have hB1 : Below w.heap.size w w1 := belowSeq hb1 (by go_grown)
  clear hb1 hb2
  obtain ⟨B0, hB0⟩ : ∃ B, w.heap.size = B := ⟨_, rfl⟩
  have hrow : ∀ i j, i < n → j < 6 → w1.cell? ⟨rb, ro + i * 6 + j, none⟩ = some (.int .i64 ((f i).at j)) := fun i j hi hj => keepC hB1 (HC.out i j hi hj)
  rw [hB0] at hs hbm hbe srb m0 m1 m2 r0 r1 rz0 rz1 o0 o1 oz0 oz1 ⊢
  have HROW := Lib.hid hrow
  clear HC hrow
  have HR := Lib.hid (And.intro (And.intro r0 r1) (And.intro rz0 rz1))
  clear r0 r1 rz0 rz1
  refine rangeZ rfl (by decide) rfl trivial (enters_of Try.func68 (by kernel_rfl) rfl)
    (corners_seq f rb ro n cp bm be (B0 + 1 + 1 + 1 + 1) 8 w1 hn0 hn HV.out cm ce0 ce1 HROW.out (by omega) (by omega) (by omega)) (by omega) rfl
    (fun pre W => Hid (W.cell? ⟨B0 + 1 + 1 + 1 + 1, 0, none⟩ = some (.int .i64 (loF f Wn.c0 n (pre.map (·.2)))) ∧ W.cell? ⟨B0 + 1 + 1 + 1 + 1, 1, none⟩ = some (.int .i64 (hiF f Wn.c1 n (pre.map (·.2)))) ∧
      W.frozen? ⟨B0 + 1 + 1 + 1 + 1, 0, none⟩ = false ∧ W.frozen? ⟨B0 + 1 + 1 + 1 + 1, 1, none⟩ = false ∧ KeptBut (· = B0 + 1 + 1 + 1 + 1) w1 W))
    (fun pre A B hA hAB => by
      have hA := hA.out
      refine Lib.hid ⟨(hAB.cell (p := ⟨B0 + 1 + 1 + 1 + 1, 0, none⟩) (by show B0 + 1 + 1 + 1 + 1 < _; omega)).trans hA.1, (hAB.cell (p := ⟨B0 + 1 + 1 + 1 + 1, 1, none⟩) (by show B0 + 1 + 1 + 1 + 1 < _; omega)).trans hA.2.1, (hAB.frozen (p := ⟨B0 + 1 + 1 + 1 + 1, 0, none⟩) (by show B0 + 1 + 1 + 1 + 1 < _; omega)).trans hA.2.2.1, (hAB.frozen (p := ⟨B0 + 1 + 1 + 1 + 1, 1, none⟩) (by show B0 + 1 + 1 + 1 + 1 < _; omega)).trans hA.2.2.2.1, ?_⟩
      have hk := hA.2.2.2.2
      exact ⟨Nat.le_trans hk.1 hAB.size, hk.2.1.trans hAB.os.symm, hk.2.2.1.trans hAB.tape.symm, hk.2.2.2.1.trans hAB.output.symm, fun k h1 h2 => (hAB.block k h1).trans (hk.2.2.2.2 k h1 h2)⟩)
    (Lib.hid ⟨o0, o1, oz0, oz1, KeptBut.refl _ _⟩)
    (fun x => { tmps := #[.slice (some ⟨rb, ro, none⟩) n cp, .func (.func 36) #[] #[], .func (.func 37) #[] #[], .pointer (some ⟨B0, 0, none⟩), .pointer (some ⟨B0 + 1, 0, none⟩), .pointer (some ⟨B0 + 1 + 1, 0, none⟩), .pointer (some ⟨B0 + 1 + 1 + 1, 0, none⟩), .pointer (some ⟨B0 + 1 + 1 + 1 + 1, 0, none⟩), .slice (some ⟨x.1, 0, none⟩) n n, undef, undef, undef, undef, undef, .agg #[.int .i64 9223372036854775807, .int .i64 0], .slice (some ⟨rb, ro, none⟩) n cp, .func (.func 68) #[] #[.pointer (some ⟨bm, 0, none⟩), .pointer (some ⟨be, 0, none⟩)], .slice (some ⟨x.1, 0, none⟩) n n, undef, undef, undef, undef, undef, undef, undef, undef, undef, undef, undef, undef, undef, undef, undef, undef, undef, undef, undef, undef, undef, undef, undef, undef, undef, undef, undef, undef, undef, undef, undef, undef, undef, undef, undef, undef, undef, undef, undef, undef, undef, undef, undef, undef, undef, undef, undef, undef, undef], defers := [] })
    (fun x W l r o ⟨hp, hx⟩ hl => ⟨hp, fun i hi => ?rd⟩) ?assign ?body ?done
  case assign =>
    intro l x W K hK
    gi_wp2
    exact hK
  case rd =>
    have hne : l ≠ x.1 := fun e => by
      have h2 := hx i hi
      rw [World.cell?, ← e, hl] at h2
      cases h2
    rw [World.cell?_of_block (w := W) (World.putObj_heap_other (Ne.symm hne))]
    exact hx i hi
  case body =>
    rintro l pre ⟨g, c⟩ W hl hsz hI ⟨hpos, hvol⟩
    obtain ⟨o0, o1, oz0, oz1, hk⟩ := hI.out
    dsimp only
    have q0 : W.cell? ⟨B0, 0, none⟩ = some (.slice (some ⟨rb, ro, none⟩) n cp) := (hk.cell (p := ⟨B0, 0, none⟩) (by show B0 < _; omega) (by show ¬ (B0 = B0 + 1 + 1 + 1 + 1); omega)).trans m0
    have q1 : W.cell? ⟨B0 + 1, 0, none⟩ = some (.func (.func 36) #[] #[]) := (hk.cell (p := ⟨B0 + 1, 0, none⟩) (by show B0 + 1 < _; omega) (by show ¬ (B0 + 1 = B0 + 1 + 1 + 1 + 1); omega)).trans m1
    have q2 : W.cell? ⟨B0 + 1 + 1, 0, none⟩ = some (.func (.func 37) #[] #[]) := (hk.cell (p := ⟨B0 + 1 + 1, 0, none⟩) (by show B0 + 1 + 1 < _; omega) (by show ¬ (B0 + 1 + 1 = B0 + 1 + 1 + 1 + 1); omega)).trans m2
    have hrow : ∀ i j, i < n → j < 6 → W.cell? ⟨rb, ro + i * 6 + j, none⟩ = some (.int .i64 ((f i).at j)) := fun i j hi hj => (hk.cell (p := ⟨rb, ro + i * 6 + j, none⟩) (by show rb < _; omega) (by show ¬ (rb = _); omega)).trans (HROW.out i j hi hj)
    have HRW := Lib.hid hrow
    have HVOL := Lib.hid hvol
    have HPOS := Lib.hid hpos
    dsimp only at hpos hvol
    have hgs : g < W.heap.size := World.block_lt_of_cell? W _ (hvol 0 hn0)
    have hB0s : B0 + 1 + 1 + 1 + 1 < W.heap.size := World.block_lt_of_cell? W _ o0
    clear hrow hvol hpos hI
    have hn2 : (0 : Int) ≤ (n : Int) := by omega
    have hn3 : (n : Int) ≤ 8 := by omega
    gi_wp2_with fail
    gi_loopw [9, 10, 11, 20] (fun t lo hi i wy => ∃ j : Nat, (j ≤ n ∧ t = .int .i64 (totC f c j) ∧ lo = .int .i64 (sumC f Wn.c0 c j) ∧ hi = .int .i64 (sumC f Wn.c1 c j) ∧ i = .int .i64 j) ∧ Hid (Below W.heap.size W wy))
      (fun _ _ _ i _ => n - (intOf i).toNat)
    case atStart => exact ⟨0, ⟨Nat.zero_le _, rfl, rfl, rfl, rfl⟩, Lib.hid (Below.refl _ _)⟩
    case round =>
      obtain ⟨j, ⟨hj, rfl, rfl, rfl, rfl⟩, HB⟩ := hrel
      by_cases hlt : j < n
      · obtain ⟨⟨x0, x1, x2, x3, x4, x5⟩, hx⟩ : ∃ x, f j = x := ⟨_, rfl⟩
        have d0 := keepC HB.out (HRW.out j 0 hlt (by decide))
        rw [hx] at d0
        rw [Nat.add_zero] at d0
        dsimp only [Wn.at] at d0
        have d1 := keepC HB.out (HRW.out j 1 hlt (by decide))
        rw [hx] at d1
        dsimp only [Wn.at] at d1
        have d2 := keepC HB.out (HRW.out j 2 hlt (by decide))
        rw [hx] at d2
        dsimp only [Wn.at] at d2
        have d3 := keepC HB.out (HRW.out j 3 hlt (by decide))
        rw [hx] at d3
        dsimp only [Wn.at] at d3
        have d4 := keepC HB.out (HRW.out j 4 hlt (by decide))
        rw [hx] at d4
        dsimp only [Wn.at] at d4
        have d5 := keepC HB.out (HRW.out j 5 hlt (by decide))
        rw [hx] at d5
        dsimp only [Wn.at] at d5
        have dv := keepC HB.out (HVOL.out j hlt)
        have k1 := keepC HB.out q1
        have k2 := keepC HB.out q2
        clear q0 q1 q2
        have hwr : W.heap.size ≤ wr.heap.size := HB.out.size
        obtain ⟨⟨R0, R1, R2⟩, ⟨T0, T1, T2⟩, ⟨Z0, Z1, Z2⟩⟩ := wineE_zero.1 (hx ▸ HV.out j hlt)
        dsimp only at R0 R1 R2 T0 T1 T2 Z0 Z1 Z2
        obtain ⟨tt, htt⟩ : ∃ t, totC f c j = t := ⟨_, rfl⟩
        have htb : 0 ≤ tt ∧ tt ≤ 800000 := by have := totC_bd HV.out c j (by omega); rw [htt] at this; omega
        obtain ⟨ll, hll⟩ : ∃ t, sumC f Wn.c0 c j = t := ⟨_, rfl⟩
        have hlb : 0 ≤ ll ∧ ll ≤ 80000000000 := by have := sumC_bd (g := Wn.c0) HV.out (fun i hi => by obtain ⟨⟨_, _, _⟩, ⟨_, _, _⟩, ⟨_, _, _⟩⟩ := wineE_zero.1 (HV.out i hi); omega) c j (by omega); rw [hll] at this; omega
        obtain ⟨hh, hhh⟩ : ∃ t, sumC f Wn.c1 c j = t := ⟨_, rfl⟩
        have hhb : 0 ≤ hh ∧ hh ≤ 80000000000 := by have := sumC_bd (g := Wn.c1) HV.out (fun i hi => by obtain ⟨⟨_, _, _⟩, ⟨_, _, _⟩, ⟨_, _, _⟩⟩ := wineE_zero.1 (HV.out i hi); omega) c j (by omega); rw [hhh] at this; omega
        obtain ⟨vv, hvv⟩ : ∃ v, volC f c j = v := ⟨_, rfl⟩
        have hvb : 0 ≤ vv ∧ vv ≤ 100000 := hvv ▸ volC_bd HV.out c hlt
        obtain ⟨a0, a1⟩ := mul_bd vv x4 100000 100000 hvb.1 hvb.2 (by omega) (by omega)
        obtain ⟨b0, b1⟩ := mul_bd vv x5 100000 100000 hvb.1 hvb.2 (by omega) (by omega)
        rw [htt, hll, hhh]
        rw [hvv] at dv
        have hgl : Wn.c0 (f j) = x4 := by rw [hx]
        have hgh : Wn.c1 (f j) = x5 := by rw [hx]
        have HT := Lib.hid (And.intro htt hvv)
        have HLL := Lib.hid (And.intro hll hgl)
        have HHH := Lib.hid (And.intro hhh hgh)
        clear htt hvv hll hgl hhh hgh hx R0 R1 R2 T0 T1 T2 Z0 Z1 Z2
        have hk0 : (0 : Int) ≤ (j : Int) := by omega
        have hk1 : (j : Int) < (n : Int) := by omega
        have u0 : IntKind.i64.wrap (vv * x4) = vv * x4 := IntWalk.i64_in _ (by omega)
        have u1 : IntKind.i64.wrap (ll + vv * x4) = ll + vv * x4 := IntWalk.i64_in _ (by omega)
        have u2 : IntKind.i64.wrap (vv * x5) = vv * x5 := IntWalk.i64_in _ (by omega)
        have u3 : IntKind.i64.wrap (hh + vv * x5) = hh + vv * x5 := IntWalk.i64_in _ (by omega)
        have hgw : g < wr.heap.size := World.block_lt_of_cell? wr _ dv
        gi_wp2_with fail
        obtain ⟨BW, hBW⟩ : ∃ B, wr.heap.size = B := ⟨_, rfl⟩
        rw [hBW]
        refine nameWorldIn (fun w' => w'.cell? ⟨BW, 0, none⟩ = some (.int .i64 x0) ∧ w'.cell? ⟨BW, 1, none⟩ = some (.int .i64 x1) ∧ w'.cell? ⟨BW, 2, none⟩ = some (.int .i64 x2) ∧ w'.cell? ⟨BW, 3, none⟩ = some (.int .i64 x3) ∧ w'.cell? ⟨BW, 4, none⟩ = some (.int .i64 x4) ∧ w'.cell? ⟨BW, 5, none⟩ = some (.int .i64 x5) ∧ w'.cell? ⟨B0 + 1, 0, none⟩ = some (.func (.func 36) #[] #[]) ∧ w'.cell? ⟨B0 + 1 + 1, 0, none⟩ = some (.func (.func 37) #[] #[]) ∧ w'.cell? ⟨g, j, none⟩ = some (.int .i64 vv) ∧ Below wr.heap.size wr w') ?_ (fun wc hc => ?_)
        · rw [← hBW]; have hb9 := (Below.refl _ wr).alloc (Nat.le_refl _) (.cells #[.int .i64 x0, .int .i64 x1, .int .i64 x2, .int .i64 x3, .int .i64 x4, .int .i64 x5] 76)
          exact ⟨newCell 0 _ rfl, newCell 1 _ rfl, newCell 2 _ rfl, newCell 3 _ rfl, newCell 4 _ rfl, newCell 5 _ rfl, keepC hb9 k1, keepC hb9 k2, keepC hb9 dv, hb9⟩
        clear k1 k2 dv d0 d1 d2 d3 d4 d5
        obtain ⟨y0, y1, y2, y3, y4, y5, k1, k2, dv, hBc⟩ := hc
        refine regionXIn 11 0 [] [] (by kernel_rfl) (fun ⟨_, _, h⟩ => h) (by kernel_rfl) (by kernel_rfl) (by kernel_rfl) (by kernel_rfl) (by decide) (fun _ _ d _ _ h => by cases d <;> exact h) ?_
        intro R hR
        simp only [List.take_succ_cons, List.take_zero]
        iterate 11 (first | (refine headP_val ?_ (by rfl) (by rfl) (fun w' hw' => ?_) ?_; rotate_left; (focus (have y0 := keepC hw' y0; have y1 := keepC hw' y1; have y2 := keepC hw' y2; have y3 := keepC hw' y3; have y4 := keepC hw' y4; have y5 := keepC hw' y5; have y6 := keepC hw' k1; have y7 := keepC hw' k2; have y8 := keepC hw' dv; first | (refine onlyMakes_val ?_; first | (go_simp; done) | (go_simp; with_reducible rfl)) | (apply onlyMakes_call; (first | (go_simp; done) | (go_simp; exact ⟨rfl, rfl⟩) | (go_simp; with_reducible rfl)); first | (with_reducible exact leastSugar_any _ _ _ _ _ _ _)))); (try dsimp only); (try simp only [Act.put, List.setIfInBounds_toArray, List.set_cons_zero, List.set_cons_succ])) | (refine headP_pure ?_ (by rfl) (by rfl) (fun w' => ?_) ?_; rotate_left; (focus ((first | (go_simp; done) | (go_simp; with_reducible rfl)))); (try dsimp only); (try simp only [Act.put, List.setIfInBounds_toArray, List.set_cons_zero, List.set_cons_succ])) | (refine headP_skip (by rfl) ?_; (try dsimp only); (try simp only [Act.put, List.setIfInBounds_toArray, List.set_cons_zero, List.set_cons_succ])))
        refine headP_nil (hR.out _ ?_)
        intro w3 hw3
        refine wpAny_done (by kernel_rfl) ?_
        have y0 := keepC hw3 y0
        have y1 := keepC hw3 y1
        have y2 := keepC hw3 y2
        have y3 := keepC hw3 y3
        have y4 := keepC hw3 y4
        have y5 := keepC hw3 y5
        have k1 := keepC hw3 k1
        have k2 := keepC hw3 k2
        have dv := keepC hw3 dv
        have hB3 := belowSeq hw3 hBc
        clear hR hw3 hBc
        gi_wp2_with fail
        refine regionXIn 11 0 [] [] (by kernel_rfl) (fun ⟨_, _, h⟩ => h) (by kernel_rfl) (by kernel_rfl) (by kernel_rfl) (by kernel_rfl) (by decide) (fun _ _ d _ _ h => by cases d <;> exact h) ?_
        intro R hR
        simp only [List.take_succ_cons, List.take_zero]
        iterate 11 (first | (refine headP_val ?_ (by rfl) (by rfl) (fun w' hw' => ?_) ?_; rotate_left; (focus (have y0 := keepC hw' y0; have y1 := keepC hw' y1; have y2 := keepC hw' y2; have y3 := keepC hw' y3; have y4 := keepC hw' y4; have y5 := keepC hw' y5; have y6 := keepC hw' k1; have y7 := keepC hw' k2; have y8 := keepC hw' dv; first | (refine onlyMakes_val ?_; first | (go_simp; done) | (go_simp; with_reducible rfl)) | (apply onlyMakes_call; (first | (go_simp; done) | (go_simp; exact ⟨rfl, rfl⟩) | (go_simp; with_reducible rfl)); first | (with_reducible exact mostSugar_any _ _ _ _ _ _ _)))); (try dsimp only); (try simp only [Act.put, List.setIfInBounds_toArray, List.set_cons_zero, List.set_cons_succ])) | (refine headP_pure ?_ (by rfl) (by rfl) (fun w' => ?_) ?_; rotate_left; (focus ((first | (go_simp; done) | (go_simp; with_reducible rfl)))); (try dsimp only); (try simp only [Act.put, List.setIfInBounds_toArray, List.set_cons_zero, List.set_cons_succ])) | (refine headP_skip (by rfl) ?_; (try dsimp only); (try simp only [Act.put, List.setIfInBounds_toArray, List.set_cons_zero, List.set_cons_succ])))
        refine headP_nil (hR.out _ ?_)
        intro w4 hw4
        refine wpAny_done (by kernel_rfl) ?_
        have hB4 := belowSeq hw4 hB3
        clear hR hw4 hB3 y0 y1 y2 y3 y4 y5 k1 k2 dv
        gi_wp2_with fail
        go_roundw
        case rel => exact ⟨j + 1, ⟨by omega, by rw [totC, HT.out.1, HT.out.2], by rw [sumC, HLL.out.1, HLL.out.2, HT.out.2], by rw [sumC, HHH.out.1, HHH.out.2, HT.out.2], by first | rfl | go_num⟩, Lib.hid (belowSeq hB4 HB.out)⟩
        case measure => simp [intOf]; omega
      · have e : j = n := by omega
        subst e
        have hpos := HPOS.out
        obtain ⟨tt, htt⟩ : ∃ t, totC f c j = t := ⟨_, rfl⟩
        have htb : 0 ≤ tt ∧ tt ≤ 800000 := by have := totC_bd HV.out c j (by omega); rw [htt] at this; omega
        obtain ⟨ll, hll⟩ : ∃ t, sumC f Wn.c0 c j = t := ⟨_, rfl⟩
        have hlb : 0 ≤ ll ∧ ll ≤ 80000000000 := by have := sumC_bd (g := Wn.c0) HV.out (fun i hi => by obtain ⟨⟨_, _, _⟩, ⟨_, _, _⟩, ⟨_, _, _⟩⟩ := wineE_zero.1 (HV.out i hi); omega) c j (by omega); rw [hll] at this; omega
        obtain ⟨hh, hhh⟩ : ∃ t, sumC f Wn.c1 c j = t := ⟨_, rfl⟩
        have hhb : 0 ≤ hh ∧ hh ≤ 80000000000 := by have := sumC_bd (g := Wn.c1) HV.out (fun i hi => by obtain ⟨⟨_, _, _⟩, ⟨_, _, _⟩, ⟨_, _, _⟩⟩ := wineE_zero.1 (HV.out i hi); omega) c j (by omega); rw [hhh] at this; omega
        rw [htt] at hpos
        have htd : 0 < tt := hpos
        rw [htt, hll, hhh]
        have HT := Lib.hid htt
        have HLL := Lib.hid hll
        have HHH := Lib.hid hhh
        have HFL := Lib.hid (fun w => still_call (ffl_any ll tt w (by omega) (by omega) (by omega) (by omega)))
        have HCE := Lib.hid (fun w => still_call (fce_any hh tt w (by omega) (by omega) (by omega) (by omega)))
        obtain ⟨ol, hol⟩ : ∃ x, loF f Wn.c0 j (pre.map (·.2)) = x := ⟨_, rfl⟩
        obtain ⟨oh, hoh⟩ : ∃ x, hiF f Wn.c1 j (pre.map (·.2)) = x := ⟨_, rfl⟩
        rw [hol] at o0
        rw [hoh] at o1
        have HOL := Lib.hid hol
        have HOH := Lib.hid hoh
        have p0 := keepC HB.out o0
        have p1 := keepC HB.out o1
        have z0 := keepF HB.out o0 oz0
        have z1 := keepF HB.out o1 oz1
        have HK := Lib.hid (KeptBut.of_below (B := (· = B0 + 1 + 1 + 1 + 1)) HB.out)
        clear htt hll hhh hpos hol hoh o0 o1 oz0 oz1 q0 q1 q2
        gi_wp2_with fail
        refine regionXIn 7 0 [] [] (by kernel_rfl) (fun ⟨_, _, h⟩ => h) (by kernel_rfl) (by kernel_rfl) (by kernel_rfl) (by kernel_rfl) (by decide) (fun _ _ d _ _ h => by cases d <;> exact h) ?_
        intro R hR
        simp only [List.take_succ_cons, List.take_zero]
        iterate 7 (first | (refine headP_val ?_ (by rfl) (by rfl) (fun w' hw' => ?_) ?_; rotate_left; (focus (have y0 := keepC hw' p0; first | (refine onlyMakes_val ?_; first | (go_simp; done) | (go_simp; with_reducible rfl)) | (apply onlyMakes_call; (first | (go_simp; done) | (go_simp; exact ⟨rfl, rfl⟩) | (go_simp; with_reducible rfl)); first | (with_reducible exact HFL.out _)))); (try dsimp only); (try simp only [Act.put, List.setIfInBounds_toArray, List.set_cons_zero, List.set_cons_succ])) | (refine headP_pure ?_ (by rfl) (by rfl) (fun w' => ?_) ?_; rotate_left; (focus ((first | (go_simp; done) | (go_simp; with_reducible rfl)))); (try dsimp only); (try simp only [Act.put, List.setIfInBounds_toArray, List.set_cons_zero, List.set_cons_succ])) | (refine headP_skip (by rfl) ?_; (try dsimp only); (try simp only [Act.put, List.setIfInBounds_toArray, List.set_cons_zero, List.set_cons_succ])))
        refine headP_nil (hR.out _ ?_)
        refine AnyZ.last 7 (by kernel_rfl) (by decide) (fun w2 hw2 => ?_)
        refine wpAny_one 7 (by kernel_rfl) rfl rfl ?_
        have g0 := keepC hw2 p0
        have g1 := keepC hw2 p1
        have y0 := keepF hw2 p0 z0
        have y1 := keepF hw2 p1 z1
        clear hR p0 p1 z0 z1
        (try simp only [List.getElem_toArray, List.getElem_cons_succ, List.getElem_cons_zero])
        (try simp only [Act.put, List.setIfInBounds_toArray, List.set_cons_succ, List.set_cons_zero])
        unfold Oper.wp
        go_simp
        refine wpAny_done (by kernel_rfl) ?_
        gi_upto_region 13 with fail
        have hk2 : KeptBut (· = B0 + 1 + 1 + 1 + 1) W w2 := HK.out.trans (KeptBut.of_below hw2)
        refine nameWorldIn (fun w' => w'.cell? ⟨B0 + 1 + 1 + 1 + 1, 0, none⟩ = some (.int .i64 (min ol (fl ll tt))) ∧ w'.cell? ⟨B0 + 1 + 1 + 1 + 1, 1, none⟩ = some (.int .i64 oh) ∧ w'.frozen? ⟨B0 + 1 + 1 + 1 + 1, 0, none⟩ = false ∧ w'.frozen? ⟨B0 + 1 + 1 + 1 + 1, 1, none⟩ = false ∧ Hid (KeptBut (· = B0 + 1 + 1 + 1 + 1) W w')) ?_ (fun wd hd => ?_)
        · exact ⟨World.cell?_setCell_same _ _ _ g0, by rw [setOff (by decide)]; exact g1, by rw [World.frozen?_setCell]; exact y0, by rw [World.frozen?_setCell]; exact y1, Lib.hid (hk2.set rfl)⟩
        clear HK hk2 hw2 g0 g1 y0 y1
        obtain ⟨p0, p1, z0, z1, HK⟩ := hd
        refine regionXIn 7 0 [] [] (by kernel_rfl) (fun ⟨_, _, h⟩ => h) (by kernel_rfl) (by kernel_rfl) (by kernel_rfl) (by kernel_rfl) (by decide) (fun _ _ d _ _ h => by cases d <;> exact h) ?_
        intro R hR
        simp only [List.take_succ_cons, List.take_zero]
        iterate 7 (first | (refine headP_val ?_ (by rfl) (by rfl) (fun w' hw' => ?_) ?_; rotate_left; (focus (have y0 := keepC hw' p1; first | (refine onlyMakes_val ?_; first | (go_simp; done) | (go_simp; with_reducible rfl)) | (apply onlyMakes_call; (first | (go_simp; done) | (go_simp; exact ⟨rfl, rfl⟩) | (go_simp; with_reducible rfl)); first | (with_reducible exact HCE.out _)))); (try dsimp only); (try simp only [Act.put, List.setIfInBounds_toArray, List.set_cons_zero, List.set_cons_succ])) | (refine headP_pure ?_ (by rfl) (by rfl) (fun w' => ?_) ?_; rotate_left; (focus ((first | (go_simp; done) | (go_simp; with_reducible rfl)))); (try dsimp only); (try simp only [Act.put, List.setIfInBounds_toArray, List.set_cons_zero, List.set_cons_succ])) | (refine headP_skip (by rfl) ?_; (try dsimp only); (try simp only [Act.put, List.setIfInBounds_toArray, List.set_cons_zero, List.set_cons_succ])))
        refine headP_nil (hR.out _ ?_)
        refine AnyZ.last 7 (by kernel_rfl) (by decide) (fun w2 hw2 => ?_)
        refine wpAny_one 7 (by kernel_rfl) rfl rfl ?_
        have g0 := keepC hw2 p0
        have g1 := keepC hw2 p1
        have y0 := keepF hw2 p0 z0
        have y1 := keepF hw2 p1 z1
        clear hR p0 p1 z0 z1
        (try simp only [List.getElem_toArray, List.getElem_cons_succ, List.getElem_cons_zero])
        (try simp only [Act.put, List.setIfInBounds_toArray, List.set_cons_succ, List.set_cons_zero])
        unfold Oper.wp
        go_simp
        refine wpAny_done (by kernel_rfl) ?_
        gi_wp2_with fail
        have hk2 : KeptBut (· = B0 + 1 + 1 + 1 + 1) W w2 := HK.out.trans (KeptBut.of_below hw2)
        refine ⟨hk2.set rfl, Lib.hid ⟨?_, ?_, by rw [World.frozen?_setCell]; exact y0, by rw [World.frozen?_setCell]; exact y1, hk.trans (hk2.set rfl)⟩⟩
        · rw [setOff (by decide), g0, List.map_append, List.map_singleton, loF_snoc, loS, HOL.out, HLL.out, HT.out]
        · rw [List.map_append, List.map_singleton, hiF_snoc, hiS, HOH.out, HHH.out, HT.out]
          exact World.cell?_setCell_same _ _ _ g1
  case done =>
    rintro D xs W hD hS hI hK hsz
    obtain ⟨o0, o1, oz0, oz1, hk⟩ := hI.out
    obtain ⟨⟨r0, r1⟩, rz0, rz1⟩ := HR.out
    have hS2 : xs.map (·.2) = choices f n (2 ^ n) := hS
    rw [hS2] at o0 o1
    have r0 := (hk.cell (p := ⟨B0 + 1 + 1 + 1, 0, none⟩) (by show B0 + 1 + 1 + 1 < _; omega) (by show ¬ (B0 + 1 + 1 + 1 = B0 + 1 + 1 + 1 + 1); omega)).trans r0
    have r1 := (hk.cell (p := ⟨B0 + 1 + 1 + 1, 1, none⟩) (by show B0 + 1 + 1 + 1 < _; omega) (by show ¬ (B0 + 1 + 1 + 1 = B0 + 1 + 1 + 1 + 1); omega)).trans r1
    have rz0 := (hk.frozen (p := ⟨B0 + 1 + 1 + 1, 0, none⟩) (by show B0 + 1 + 1 + 1 < _; omega) (by show ¬ (B0 + 1 + 1 + 1 = B0 + 1 + 1 + 1 + 1); omega)).trans rz0
    have rz1 := (hk.frozen (p := ⟨B0 + 1 + 1 + 1, 1, none⟩) (by show B0 + 1 + 1 + 1 < _; omega) (by show ¬ (B0 + 1 + 1 + 1 = B0 + 1 + 1 + 1 + 1); omega)).trans rz1
    (try dsimp only at r0 r1)
    dsimp only
    gi_wp2_with fail
    have hB2 : Below B0 w W := by
      rw [hB0] at hB1
      exact ⟨hk.2.1.symm.trans hB1.os, hk.2.2.1.symm.trans hB1.tape, hk.2.2.2.1.symm.trans hB1.output, Nat.le_trans hB1.size hk.1, fun k h1 => (hk.2.2.2.2 k (by omega) (by show ¬ (k = B0 + 1 + 1 + 1 + 1); omega)).trans (hB1.block k h1)⟩
    have hB3 := (hB2.setCell (p := ⟨B0 + 1 + 1 + 1, 0, none⟩) (by show B0 ≤ B0 + 1 + 1 + 1; omega) (.int .i64 (loF f Wn.c0 n (choices f n (2 ^ n))))).setCell (p := ⟨B0 + 1 + 1 + 1, 1, none⟩) (by show B0 ≤ B0 + 1 + 1 + 1; omega) (.int .i64 (hiF f Wn.c1 n (choices f n (2 ^ n))))
    have hK3 : ((W.setCell ⟨B0 + 1 + 1 + 1, 0, none⟩ (.int .i64 (loF f Wn.c0 n (choices f n (2 ^ n))))).setCell ⟨B0 + 1 + 1 + 1, 1, none⟩ (.int .i64 (hiF f Wn.c1 n (choices f n (2 ^ n))))).heap[D]? = some (.deferred (some [])) :=
      (Below.heap_setCell _ _ _ _ (by show _ ≠ _; dsimp only; omega)).trans ((Below.heap_setCell _ _ _ _ (by show _ ≠ _; dsimp only; omega)).trans hK)
    obtain ⟨c0, c1⟩ := set2 r0 r1 (.int .i64 (loF f Wn.c0 n (choices f n (2 ^ n)))) (.int .i64 (hiF f Wn.c1 n (choices f n (2 ^ n))))
    generalize ((W.setCell ⟨B0 + 1 + 1 + 1, 0, none⟩ (.int .i64 (loF f Wn.c0 n (choices f n (2 ^ n))))).setCell ⟨B0 + 1 + 1 + 1, 1, none⟩ (.int .i64 (hiF f Wn.c1 n (choices f n (2 ^ n))))) = W' at *
    have hDW : D < W'.heap.size := (Array.getElem?_eq_some_iff.1 hK3).1
    have hne : B0 + 1 + 1 + 1 ≠ D := by omega
    have d0 : (W'.putObj D (.deferred none)).cell? ⟨B0 + 1 + 1 + 1, 0, none⟩ = some (.int .i64 (loF f Wn.c0 n (choices f n (2 ^ n)))) := (World.cell?_of_block (w := W') (World.putObj_heap_other hne)).trans c0
    have d1 : (W'.putObj D (.deferred none)).cell? ⟨B0 + 1 + 1 + 1, 1, none⟩ = some (.int .i64 (hiF f Wn.c1 n (choices f n (2 ^ n)))) := (World.cell?_of_block (w := W') (World.putObj_heap_other hne)).trans c1
    refine ⟨by simp, .inl ⟨_, _, rfl, run_takeDeferred hK3, ?_⟩⟩
    refine ⟨_, (by simp [results, Try.results33, go_sem, d0, d1]), rfl, ?_⟩
    exact hB3.grown (grownBy_putObj' W' D _) (by omega) (fun k e => by cases e; omega)
end Go.Proofs.Ytbijhcoloajjaaa
