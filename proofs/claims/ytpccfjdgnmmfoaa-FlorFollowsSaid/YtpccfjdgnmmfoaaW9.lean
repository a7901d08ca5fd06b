/- The reference's Followed in one contract; copies; SameWines; what is followed lies within. -/
import Derived.Test.YtpccfjdgnmmfoaaW8
import Derived.ArgAppend
namespace Go.Proofs.Ytpccfjdgnmmfoaa
open Go.RowKit

theorem copyMeasures_anyInfo : (Try.prog.info? 69).map (fun i => (i.zero, i.size, i.bytes)) = some (some (.agg #[.int .i64 0, .int .i64 0, .int .i64 0, .int .i64 0, .int .i64 0, .int .i64 0, .int .i64 0]), 7, 56) := by kernel_rfl
theorem copyMeasures_any (sa : Option Addr) (n cp b off : Nat) (f : Nat → Nat → Int) (w : World) (hsa : 0 < n → sa = some ⟨b, off, none⟩) (hz : sa = none → n = 0 ∧ cp = 0) (hn : n ≤ 1000)
    (hc : ∀ i j, i < n → j < 7 → w.cell? ⟨b, off + i * 7 + j, none⟩ = some (.int .i64 (f i j))) :
    Calls Try.prog 26 #[.slice sa n cp] w fun e w' => (∃ (sb : Option Addr) (cb g : Nat), e = .returned (.slice sb n cb) ∧ (0 < n → sb = some ⟨g, 0, none⟩) ∧ ∀ i j, i < n → j < 7 → w'.cell? ⟨g, 0 + i * 7 + j, none⟩ = some (.int .i64 (f i j))) ∧ Below w.heap.size w w' := by
  obtain ⟨i0, hi, hz0, hz1, hz2⟩ := info_parts copyMeasures_anyInfo
  have HC := Lib.hid hc
  clear hc
  by_cases h0 : 0 < n
  · obtain rfl := hsa h0
    go_enter Try.func26, Try.ntmps26
    go_wp2_with (at_builtin; refine wpList_append_grows _ rfl (.tmp 3) (.tmp 4) 59 rfl 69 i0 (.agg #[.int .i64 0, .int .i64 0, .int .i64 0, .int .i64 0, .int .i64 0, .int .i64 0, .int .i64 0]) 7 56 Try.underlying59 hi hz0 hz1 hz2 rfl (by decide) (some ⟨w.heap.size, 0, none⟩) 0 0 [] rfl (fun h => by cases h) rfl (by intro _ _ _ _ h; simp at h) ⟨b, off, none⟩ n cp ((List.range (n * 7)).map fun t => Value.int .i64 (f (t / 7) (t % 7))) rfl (by simp) ?c1 ?c2 (by omega) (by unfold maxLen; omega) (by omega) ?grow)
    case c1 =>
      intro j u hj
      have hl : j < n * 7 := by have := (List.getElem?_eq_some_iff.1 hj).1; simpa using this
      rw [List.getElem?_range hl] at hj
      obtain rfl := Option.some.inj hj
      have := HC.out (j / 7) (j % 7) (by omega) (by omega)
      rw [show off + j / 7 * 7 + j % 7 = off + j by omega] at this
      exact keepC ((Below.refl _ w).alloc (Nat.le_refl _) _) this
    case c2 =>
      intro u hu
      rfl
    case grow =>
      intro v' w' hown hgrow
      obtain ⟨g, cb, rfl⟩ : ∃ g cap, v' = .slice (some ⟨g, 0, none⟩) n cap := by
        rcases hown.2 with ⟨_, h⟩ | ⟨g, cap, _, e, _⟩
        · omega
        · exact ⟨g, cap, e⟩
      go_wp2
      go_ret
      refine ⟨⟨_, _, g, rfl, fun _ => rfl, fun i j hi hj => ?_⟩, ?_⟩
      · have hl : i * 7 + j < n * 7 := by omega
        rw [Nat.zero_add, hown.cellAt _ hl, List.getElem?_map, List.getElem?_range hl]
        show some (Value.int .i64 (f ((i * 7 + j) / 7) ((i * 7 + j) % 7))) = _
        rw [show (i * 7 + j) / 7 = i by omega, show (i * 7 + j) % 7 = j by omega]
      · exact ((Below.refl _ w).alloc (Nat.le_refl _) _).grown hgrow (by simp) (fun k e => by cases e)
  · obtain rfl : n = 0 := by omega
    have hown := World.ownsRow_lit (base := w.heap.size) (e := 69) (size := 7) w #[] 0 (Nat.le_refl _) (by decide) rfl
    have hB0 : Below w.heap.size w (w.alloc (.cells #[] 69)) := (Below.refl _ w).alloc (Nat.le_refl _) _
    go_enter Try.func26, Try.ntmps26
    go_wp2_with (at_builtin; refine wpList_append_fits_any _ rfl (.tmp 3) (.tmp 4) 59 rfl w.heap.size 69 i0 7 Try.underlying59 hi hz1 w.heap.size 0 0 [] rfl hown sa 0 cp [] rfl (by simp) hz (by intro _ _ _ _ h; simp at h) (by simp) (by omega) ?grow)
    case grow =>
      intro w' hown' hgrow
      go_wp2
      go_ret
      exact ⟨⟨_, _, 0, rfl, fun h => by omega, fun i j hi => by omega⟩, hB0.grown hgrow hB0.size (fun k e => by cases e; exact Nat.le_refl _)⟩
theorem Lies.keep {L : List Wn} {sb : Option Addr} {g : Nat} {w w' : World} (h : Lies L sb g w) (hb : Below w.heap.size w w') : Lies L sb g w' :=
  ⟨h.1, fun i j hi hj => keepC hb (h.2 i j hi hj)⟩
theorem folN_zero {r : Sp} {f : Nat → Ms} : ∀ (m k : Nat) (x : Wn), folE r f m k x = 0 → folN r f m k x = 0
  | 0, _, _, _ => rfl
  | m + 1, k, x, h => by
    unfold folE at h
    unfold folN
    by_cases hz : folD r f k x = 0
    · rw [if_pos hz] at h ⊢; exact folN_zero m _ _ h
    · rw [if_neg hz] at h; exact absurd h hz
theorem rfollowed_any (r : Sp) (f : Nat → Ms) (sa : Option Addr) (n cp b off : Nat) (w : World) (hsa : 0 < n → sa = some ⟨b, off, none⟩) (hc : ∀ k j, k < n → j < 7 → w.cell? ⟨b, off + k * 7 + j, none⟩ = some (.int .i64 ((f k).at j))) :
    Calls Try.prog 27 #[.agg #[.int .i64 r.a0, .int .i64 r.a1, .int .i64 r.g0, .int .i64 r.g1], .slice sa n cp] w fun e w' => (∃ (sb : Option Addr) (cb g : Nat), e = .returned (.tuple #[.slice sb (FL r f n).length cb, .int .i64 (FN r f n), .int .i64 (FE r f n)]) ∧ Lies (FL r f n) sb g w') ∧ Below w.heap.size w w' := by
  have nil : ∀ w : World, Lies [] none 0 w := fun w => ⟨fun h => by simp at h, fun i j h => by simp at h⟩
  by_cases h1 : rateE r.a0 r.a1 r.g0 r.g1 = 0
  case neg =>
    have e0 : fol0 r f n = rateE r.a0 r.a1 r.g0 r.g1 := if_pos h1
    have e1 : FE r f n = rateE r.a0 r.a1 r.g0 r.g1 := by unfold FE; rw [e0, if_pos h1]
    have e2 : FN r f n = 0 := if_pos h1
    have e3 : FL r f n = [] := by unfold FL; rw [e1, if_neg h1]
    rw [e1, e2, e3]
    exact (rfol_rate r f sa n cp b off w (by simpa using h1)).mono fun e w' ⟨he, hb⟩ => ⟨⟨none, 0, 0, he, nil _⟩, hb⟩
  have hr0 : (rateE r.a0 r.a1 r.g0 r.g1 != 0) = false := by rw [h1]; rfl
  by_cases h2 : mes0 n = 0
  case neg =>
    have e0 : fol0 r f n = mes0 n := by unfold fol0; rw [if_neg (by simpa using h1), if_pos h2]
    have e1 : FE r f n = mes0 n := by unfold FE; rw [e0, if_pos h2]
    have e2 : FN r f n = 0 := by unfold FN; rw [if_neg (by simpa using h1), if_pos h2]
    have e3 : FL r f n = [] := by unfold FL; rw [e1, if_neg h2]
    rw [e1, e2, e3]
    by_cases hz : n = 0
    · have e4 : mes0 n = 10 := by rw [hz]; rfl
      rw [e4]
      exact (rfol_shape r f sa n cp b off w hr0 hz).mono fun e w' ⟨he, hb⟩ => ⟨⟨none, 0, 0, he, nil _⟩, hb⟩
    · have hn : 40 < n := by
        refine Nat.lt_of_not_le fun hle => h2 ?_
        unfold mes0 unlE
        rw [decide_eq_true (by omega : 0 < n), decide_eq_true (by omega : (n : Int) ≤ 40)]; rfl
      have e4 : mes0 n = 8 := by
        unfold mes0 unlE
        rw [decide_eq_true (by omega : 0 < n), decide_eq_false (by omega : ¬ (n : Int) ≤ 40)]; rfl
      rw [e4]
      exact (rfol_large r f sa n cp b off w hr0 (by simp; omega) (by omega)).mono fun e w' ⟨he, hb⟩ => ⟨⟨none, 0, 0, he, nil _⟩, hb⟩
  obtain ⟨hn0, hn⟩ := mes0_zero h2
  refine (rfol_ok r f sa n cp b off w h1 hn0 hn hsa hc).mono fun e w' ⟨he, hb⟩ => ⟨?_, hb⟩
  rcases he with ⟨h3, he⟩ | ⟨h3, he⟩
  · have e0 : fol0 r f n = mesE f n 0 := by unfold fol0; rw [if_neg (by simpa using h1), if_neg (by simpa using h2)]
    have e1 : FE r f n = mesE f n 0 := by unfold FE; rw [e0, if_pos h3]
    have e2 : FN r f n = mesN f n 0 := by unfold FN; rw [if_neg (by simpa using h1), if_neg (by simpa using h2), if_pos h3]
    have e3 : FL r f n = [] := by unfold FL; rw [e1, if_neg h3]
    rw [e1, e2, e3]
    exact ⟨none, 0, 0, he, nil _⟩
  have e0 : fol0 r f n = 0 := by unfold fol0; rw [if_neg (by simpa using h1), if_neg (by simpa using h2)]; exact h3
  have e1 : FE r f n = folE r f (n - 1) 1 (f 0).x := by unfold FE; rw [e0, if_neg (by decide)]
  have e2 : FN r f n = folN r f (n - 1) 1 (f 0).x := by unfold FN; rw [if_neg (by simpa using h1), if_neg (by simpa using h2), if_neg (by simpa using h3)]
  rcases he with ⟨hz, cb, g, he, hcell⟩ | ⟨hz, he⟩
  · have e3 : FL r f n = (f 0).x :: folL r f (n - 1) 1 (f 0).x := by unfold FL; rw [e1, if_pos hz]
    rw [e1, e2, e3, hz, folN_zero _ _ _ hz]
    exact ⟨some ⟨g, 0, none⟩, cb, g, he, fun _ => rfl, hcell⟩
  · have e3 : FL r f n = [] := by unfold FL; rw [e1, if_neg hz]
    rw [e1, e2, e3]
    exact ⟨none, 0, 0, he, nil _⟩
/-- what two wines have in common has no more in common with the second one than itself -/
theorem com_com (x y : Wn) : (x.com y).com y = x.com y := by
  have l0 : ∀ a b : Int, mx (mx a b) b = mx a b := by intro a b; unfold mx; split <;> (try split) <;> omega
  have l1 : ∀ a b : Int, mn (mn a b) b = mn a b := by intro a b; unfold mn; split <;> (try split) <;> omega
  unfold Wn.com
  simp only [l0, l1]
theorem com_self (x : Wn) : x.com x = x := by
  have l0 : ∀ a : Int, mx a a = a := by intro a; unfold mx; split <;> rfl
  have l1 : ∀ a : Int, mn a a = a := by intro a; unfold mn; split <;> rfl
  unfold Wn.com
  simp only [l0, l1]
theorem err_isB {x : Wn} (h : x.err = 0) : x.isB = true := by
  obtain ⟨⟨R0, R1, R2⟩, ⟨T0, T1, T2⟩, ⟨Z0, Z1, Z2⟩⟩ := wineE_zero.1 h
  simp [Wn.isB, R1, T1, Z1]
theorem folL_in {r : Sp} {f : Nat → Ms} : ∀ (m k : Nat) (x : Wn), (folL r f m k x).length ≤ m ∧ ∀ i, i < (folL r f m k x).length → ((folL r f m k x).getD i .zero).com (f (k + i)).x = (folL r f m k x).getD i .zero ∧ ((folL r f m k x).getD i .zero).isB = true
  | 0, k, x => ⟨Nat.le_refl _, fun i h => by simp [folL] at h⟩
  | m + 1, k, x => by
    unfold folL
    by_cases hz : folD r f k x = 0
    · rw [if_pos hz]
      obtain ⟨h1, h2⟩ := folL_in (r := r) (f := f) m (k + 1) (folX r f k x)
      refine ⟨by simp; omega, fun i hi => ?_⟩
      cases i with
      | zero =>
        refine ⟨com_com _ _, ?_⟩
        unfold folD at hz
        by_cases hs : stE x (folS r f k) = 0
        · rw [if_neg (by simpa using hs)] at hz
          by_cases hb : (folX r f k x).isB = true
          · exact hb
          · rw [if_neg hb] at hz; omega
        · rw [if_pos hs] at hz; exact absurd hz hs
      | succ i =>
        have := h2 i (by simpa using hi)
        rw [show k + (i + 1) = k + 1 + i by omega]
        simpa using this
    · rw [if_neg hz]
      exact ⟨Nat.zero_le _, fun i h => by simp at h⟩
/-- each narrowed wine lies within its measurement -/
theorem FL_in (r : Sp) (f : Nat → Ms) (n : Nat) : (FL r f n).length ≤ n ∧ ∀ i, i < (FL r f n).length → ((FL r f n).getD i .zero).com (f i).x = (FL r f n).getD i .zero ∧ ((FL r f n).getD i .zero).isB = true := by
  unfold FL
  by_cases hz : FE r f n = 0
  case neg => rw [if_neg hz]; exact ⟨Nat.zero_le _, fun i h => by simp at h⟩
  rw [if_pos hz]
  have h0 : fol0 r f n = 0 := by
    refine Classical.byContradiction fun h => ?_
    unfold FE at hz
    rw [if_pos h] at hz
    exact h hz
  unfold fol0 at h0
  by_cases h1 : rateE r.a0 r.a1 r.g0 r.g1 = 0
  case neg => rw [if_pos h1] at h0; exact absurd h0 h1
  rw [if_neg (by simpa using h1)] at h0
  by_cases h2 : mes0 n = 0
  case neg => rw [if_pos h2] at h0; exact absurd h0 h2
  rw [if_neg (by simpa using h2)] at h0
  obtain ⟨hn0, hn⟩ := mes0_zero h2
  obtain ⟨l1, l2⟩ := folL_in (r := r) (f := f) (n - 1) 1 (f 0).x
  refine ⟨by simp; omega, fun i hi => ?_⟩
  cases i with
  | zero => exact ⟨com_self _, err_isB (mes_fine h0 0 hn0).2.1⟩
  | succ i =>
    have := l2 i (by simpa using hi)
    rw [show i + 1 = 1 + i by omega]
    simpa [Nat.add_comm] using this
set_option linter.unusedVariables false in
set_option maxRecDepth 100000 in
set_option maxHeartbeats 8000000 in
theorem sameWines_yes (L : List Wn) (sa sb : Option Addr) (ca cb ga gb : Nat) (w : World) (ha : Lies L sa ga w) (hb : Lies L sb gb w) (hl : L.length ≤ 1000) :
    Calls Try.prog 28 #[.slice sa L.length ca, .slice sb L.length cb] w fun e w' => e = .returned (.bool true) ∧ Below w.heap.size w w' := by
  obtain ⟨n, hn⟩ : ∃ n, L.length = n := ⟨_, rfl⟩
  obtain ⟨sha, hca⟩ := ha
  obtain ⟨shb, hcb⟩ := hb
  rw [hn] at sha shb hca hcb hl ⊢
  have HCA := Lib.hid hca
  have HCB := Lib.hid hcb
  clear hca hcb hn
  go_enter Try.func28, Try.ntmps28
  go_wp2_with fail
  go_loopw [5] (fun i wr => ∃ k : Nat, k ≤ n ∧ i = .int .i64 k ∧ Below w.heap.size w wr)
    (fun i _ => n - (intOf i).toNat)
  case atStart => exact ⟨0, Nat.zero_le _, rfl, Below.refl _ _⟩
  case round =>
    obtain ⟨k, hk, rfl, hB⟩ := hrel
    by_cases hlt : k < n
    · obtain rfl := sha (by omega)
      obtain rfl := shb (by omega)
      obtain ⟨⟨e0, e1, e2, e3, e4, e5⟩, hx⟩ : ∃ x, L.getD k .zero = x := ⟨_, rfl⟩
      have a0 := keepC hB (HCA.out k 0 hlt (by omega))
      rw [hx] at a0
      rw [Nat.add_zero] at a0
      dsimp only [Wn.at] at a0
      have a1 := keepC hB (HCA.out k 1 hlt (by omega))
      rw [hx] at a1
      dsimp only [Wn.at] at a1
      have a2 := keepC hB (HCA.out k 2 hlt (by omega))
      rw [hx] at a2
      dsimp only [Wn.at] at a2
      have a3 := keepC hB (HCA.out k 3 hlt (by omega))
      rw [hx] at a3
      dsimp only [Wn.at] at a3
      have a4 := keepC hB (HCA.out k 4 hlt (by omega))
      rw [hx] at a4
      dsimp only [Wn.at] at a4
      have a5 := keepC hB (HCA.out k 5 hlt (by omega))
      rw [hx] at a5
      dsimp only [Wn.at] at a5
      have b0 := keepC hB (HCB.out k 0 hlt (by omega))
      rw [hx] at b0
      rw [Nat.add_zero] at b0
      dsimp only [Wn.at] at b0
      have b1 := keepC hB (HCB.out k 1 hlt (by omega))
      rw [hx] at b1
      dsimp only [Wn.at] at b1
      have b2 := keepC hB (HCB.out k 2 hlt (by omega))
      rw [hx] at b2
      dsimp only [Wn.at] at b2
      have b3 := keepC hB (HCB.out k 3 hlt (by omega))
      rw [hx] at b3
      dsimp only [Wn.at] at b3
      have b4 := keepC hB (HCB.out k 4 hlt (by omega))
      rw [hx] at b4
      dsimp only [Wn.at] at b4
      have b5 := keepC hB (HCB.out k 5 hlt (by omega))
      rw [hx] at b5
      dsimp only [Wn.at] at b5
      clear hx
      have hk0 : (0 : Int) ≤ (k : Int) := by omega
      have hk2 : (k : Int) < (n : Int) := by omega
      go_wp2_with fail
      refine nameWorld (fun w' => w'.cell? ⟨ga, k * 6, none⟩ = some (.int .i64 e0) ∧ w'.cell? ⟨ga, k * 6 + 1, none⟩ = some (.int .i64 e1) ∧ w'.cell? ⟨ga, k * 6 + 2, none⟩ = some (.int .i64 e2) ∧ w'.cell? ⟨ga, k * 6 + 3, none⟩ = some (.int .i64 e3) ∧ w'.cell? ⟨ga, k * 6 + 4, none⟩ = some (.int .i64 e4) ∧ w'.cell? ⟨ga, k * 6 + 5, none⟩ = some (.int .i64 e5) ∧ w'.cell? ⟨gb, k * 6, none⟩ = some (.int .i64 e0) ∧ w'.cell? ⟨gb, k * 6 + 1, none⟩ = some (.int .i64 e1) ∧ w'.cell? ⟨gb, k * 6 + 2, none⟩ = some (.int .i64 e2) ∧ w'.cell? ⟨gb, k * 6 + 3, none⟩ = some (.int .i64 e3) ∧ w'.cell? ⟨gb, k * 6 + 4, none⟩ = some (.int .i64 e4) ∧ w'.cell? ⟨gb, k * 6 + 5, none⟩ = some (.int .i64 e5) ∧ Below w.heap.size w w') ⟨a0, a1, a2, a3, a4, a5, b0, b1, b2, b3, b4, b5, hB⟩ (fun wc hc => ?_)
      clear a0 b0 a1 b1 a2 b2 a3 b3 a4 b4 a5 b5 hB
      obtain ⟨a0, a1, a2, a3, a4, a5, b0, b1, b2, b3, b4, b5, hB⟩ := hc
      refine regionX 9 0 [] [] (by kernel_rfl) (by kernel_rfl) (by kernel_rfl) (by kernel_rfl) (by decide) (fun _ _ d _ _ h => by cases d <;> exact h) ?_
      intro R hR
      simp only [List.take_succ_cons, List.take_zero]
      iterate 9 (first | (refine headP_val ?_ (by rfl) (by rfl) (fun w' hw' => ?_) ?_; rotate_left; (focus (have y0 := keepC hw' a0; have y1 := keepC hw' a1; have y2 := keepC hw' a2; have y3 := keepC hw' a3; have y4 := keepC hw' a4; have y5 := keepC hw' a5; have y6 := keepC hw' b0; have y7 := keepC hw' b1; have y8 := keepC hw' b2; have y9 := keepC hw' b3; have y10 := keepC hw' b4; have y11 := keepC hw' b5; first | (refine onlyMakes_val ?_; first | (go_simp; done) | (go_simp; with_reducible rfl)) | fail)); (try dsimp only); (try simp only [Act.put, List.setIfInBounds_toArray, List.set_cons_zero, List.set_cons_succ])) | (refine headP_pure ?_ (by rfl) (by rfl) (fun w' => ?_) ?_; rotate_left; (focus ((first | (go_simp; done) | (go_simp; with_reducible rfl)))); (try dsimp only); (try simp only [Act.put, List.setIfInBounds_toArray, List.set_cons_zero, List.set_cons_succ])) | (refine headP_skip (by rfl) ?_; (try dsimp only); (try simp only [Act.put, List.setIfInBounds_toArray, List.set_cons_zero, List.set_cons_succ])))
      refine headP_nil (hR.out _ ?_)
      intro w3 hw3
      refine wpAny_done (by kernel_rfl) ?_
      have hB9 := belowSeq hw3 hB
      clear hR hw3 hB a0 b0 a1 b1 a2 b2 a3 b3 a4 b4 a5 b5
      go_wp2_with fail
      go_roundw
      case rel => exact ⟨k + 1, by omega, by go_num, hB9⟩
      case measure => simp [intOf]; omega
    · have e : k = n := by omega
      subst e
      go_wp2_with ((with_reducible refine bodyPost_ret (v := .bool true) ?_ rfl ?_); (simp [results, Try.results28, go_sem]); exact ⟨rfl, hB⟩)
end Go.Proofs.Ytpccfjdgnmmfoaa
