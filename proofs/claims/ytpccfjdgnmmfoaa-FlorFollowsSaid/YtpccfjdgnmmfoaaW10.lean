/- FlorFollows: its walk. -/
import Derived.Test.YtpccfjdgnmmfoaaW9
namespace Go.Proofs.Ytpccfjdgnmmfoaa
open Go.RowKit

theorem keepsB {w W w1 : World} (hb : Below W.heap.size W w1) (h : Below w.heap.size w W) : Below w.heap.size w w1 := belowSeq hb h
set_option linter.unusedVariables false in
set_option linter.unusedSimpArgs false in
set_option maxRecDepth 100000 in
set_option maxHeartbeats 8000000 in
theorem follows_some (hA : ∀ w : World, Calls Try.prog 10 #[] w fun e w' => e = .returned (.bool true) ∧ Below w.heap.size w w') (r : Sp) (f : Nat → Ms) (sa : Option Addr) (n cp b off : Nat) (w : World) (h1 : (6 : Int) < n) (h2 : (n : Int) ≤ 40) :
    Calls Try.prog 7 #[.agg #[.int .i64 r.a0, .int .i64 r.a1, .int .i64 r.g0, .int .i64 r.g1], .slice sa n cp] w fun e w' => e = .returned (.bool true) ∧ Below w.heap.size w w' := by
  have HA := Lib.hid hA
  clear hA
  go_enter Try.func7, Try.ntmps7
  go_upto_region 3 with (go_at_call 10; refine (HA.out _).mono ?_; rintro e w1 ⟨rfl, hb1⟩)
  refine nameWorld (fun w' => w'.cell? ⟨w.heap.size, 0, none⟩ = some (.int .i64 r.a0) ∧ w'.cell? ⟨w.heap.size, 1, none⟩ = some (.int .i64 r.a1) ∧ w'.cell? ⟨w.heap.size, 2, none⟩ = some (.int .i64 r.g0) ∧ w'.cell? ⟨w.heap.size, 3, none⟩ = some (.int .i64 r.g1) ∧ Below w.heap.size w w') (by refine ⟨?_, ?_, ?_, ?_, ?_⟩ <;> first | (exact keepC (by assumption) (by go_cell)) | (exact belowSeq (by assumption) (by (go_grown; done))) | (exact keepZ (by assumption) (by go_size))) (fun wc hc => ?_)
  obtain ⟨q0, q1, q2, q3, hB⟩ := hc
  clear hb1
  go_wp2
  go_ret
  exact ⟨rfl, hB⟩
set_option linter.unusedVariables false in
set_option linter.unusedSimpArgs false in
set_option maxRecDepth 100000 in
set_option maxHeartbeats 8000000 in
theorem follows_long (hA : ∀ w : World, Calls Try.prog 10 #[] w fun e w' => e = .returned (.bool true) ∧ Below w.heap.size w w') (r : Sp) (f : Nat → Ms) (sa : Option Addr) (n cp b off : Nat) (w : World) (h1 : (6 : Int) < n) (h2 : (40 : Int) < n) (h3 : (42 : Int) < n) :
    Calls Try.prog 7 #[.agg #[.int .i64 r.a0, .int .i64 r.a1, .int .i64 r.g0, .int .i64 r.g1], .slice sa n cp] w fun e w' => e = .returned (.bool true) ∧ Below w.heap.size w w' := by
  have HA := Lib.hid hA
  clear hA
  go_enter Try.func7, Try.ntmps7
  go_upto_region 3 with (go_at_call 10; refine (HA.out _).mono ?_; rintro e w1 ⟨rfl, hb1⟩)
  refine nameWorld (fun w' => w'.cell? ⟨w.heap.size, 0, none⟩ = some (.int .i64 r.a0) ∧ w'.cell? ⟨w.heap.size, 1, none⟩ = some (.int .i64 r.a1) ∧ w'.cell? ⟨w.heap.size, 2, none⟩ = some (.int .i64 r.g0) ∧ w'.cell? ⟨w.heap.size, 3, none⟩ = some (.int .i64 r.g1) ∧ Below w.heap.size w w') (by refine ⟨?_, ?_, ?_, ?_, ?_⟩ <;> first | (exact keepC (by assumption) (by go_cell)) | (exact belowSeq (by assumption) (by (go_grown; done))) | (exact keepZ (by assumption) (by go_size))) (fun wc hc => ?_)
  obtain ⟨q0, q1, q2, q3, hB⟩ := hc
  clear hb1
  go_wp2
  go_ret
  exact ⟨rfl, hB⟩
set_option linter.unusedVariables false in
set_option linter.unusedSimpArgs false in
set_option maxRecDepth 100000 in
set_option maxHeartbeats 8000000 in
theorem follows_few (hA : ∀ w : World, Calls Try.prog 10 #[] w fun e w' => e = .returned (.bool true) ∧ Below w.heap.size w w') (r : Sp) (f : Nat → Ms) (sa : Option Addr) (n cp b off : Nat) (w : World) (h1 : (n : Int) ≤ 6) (L : List Wn) (N E : Int) (hLn : L.length ≤ n) (hsa : 0 < n → sa = some ⟨b, off, none⟩) (hc : ∀ k j, k < n → j < 7 → w.cell? ⟨b, off + k * 7 + j, none⟩ = some (.int .i64 ((f k).at j)))
    (hcom : ∀ i, i < L.length → (L.getD i .zero).com (f i).x = L.getD i .zero ∧ (L.getD i .zero).isB = true)
    (hCP : ∀ W, Below w.heap.size w W → Calls Try.prog 26 #[.slice sa n cp] W fun e w' => (∃ (sb : Option Addr) (cb g : Nat), e = .returned (.slice sb n cb) ∧ (0 < n → sb = some ⟨g, 0, none⟩) ∧ (∀ k j, k < n → j < 7 → w'.cell? ⟨g, 0 + k * 7 + j, none⟩ = some (.int .i64 ((f k).at j)))) ∧ Below W.heap.size W w')
    (hFO : ∀ (sb : Option Addr) (cb g : Nat) (W : World), (0 < n → sb = some ⟨g, 0, none⟩) → (∀ k j, k < n → j < 7 → W.cell? ⟨g, 0 + k * 7 + j, none⟩ = some (.int .i64 ((f k).at j))) → Calls Try.prog 25 #[.agg #[.int .i64 r.a0, .int .i64 r.a1, .int .i64 r.g0, .int .i64 r.g1], .slice sb n cb] W fun e w' => (∃ (sx : Option Addr) (cx gx : Nat), e = .returned (.tuple #[.slice sx L.length cx, .int .i64 N, .int .i64 E]) ∧ Lies L sx gx w') ∧ Below W.heap.size W w')
    (hRF : ∀ W, Below w.heap.size w W → Calls Try.prog 27 #[.agg #[.int .i64 r.a0, .int .i64 r.a1, .int .i64 r.g0, .int .i64 r.g1], .slice sa n cp] W fun e w' => (∃ (sx : Option Addr) (cx gx : Nat), e = .returned (.tuple #[.slice sx L.length cx, .int .i64 N, .int .i64 E]) ∧ Lies L sx gx w') ∧ Below W.heap.size W w')
    (hSW : ∀ (sx sy : Option Addr) (cx cy gx gy : Nat) (W : World), Lies L sx gx W → Lies L sy gy W → Calls Try.prog 28 #[.slice sx L.length cx, .slice sy L.length cy] W fun e w' => e = .returned (.bool true) ∧ Below W.heap.size W w') :
    Calls Try.prog 7 #[.agg #[.int .i64 r.a0, .int .i64 r.a1, .int .i64 r.g0, .int .i64 r.g1], .slice sa n cp] w fun e w' => e = .returned (.bool true) ∧ Below w.heap.size w w' := by
  have HCP := Lib.hid hCP
  have HFO := Lib.hid hFO
  have HRF := Lib.hid hRF
  have HSW := Lib.hid hSW
  have HCO := Lib.hid hcom
  have HC := Lib.hid hc
  have HSA := Lib.hid hsa
  clear hCP hFO hRF hSW hcom hc hsa
  obtain ⟨ln, hln⟩ : ∃ l, L.length = l := ⟨_, rfl⟩
  have HLN := Lib.hid hln
  have hlnn : ln ≤ n := hln ▸ hLn
  rw [hln] at HFO HRF HSW
  clear hLn hln
  have HA := Lib.hid hA
  clear hA
  go_enter Try.func7, Try.ntmps7
  go_upto_region 3 with (go_at_call 10; refine (HA.out _).mono ?_; rintro e w1 ⟨rfl, hb1⟩)
  refine nameWorld (fun w' => w'.cell? ⟨w.heap.size, 0, none⟩ = some (.int .i64 r.a0) ∧ w'.cell? ⟨w.heap.size, 1, none⟩ = some (.int .i64 r.a1) ∧ w'.cell? ⟨w.heap.size, 2, none⟩ = some (.int .i64 r.g0) ∧ w'.cell? ⟨w.heap.size, 3, none⟩ = some (.int .i64 r.g1) ∧ Below w.heap.size w w') (by refine ⟨?_, ?_, ?_, ?_, ?_⟩ <;> first | (exact keepC (by assumption) (by go_cell)) | (exact belowSeq (by assumption) (by (go_grown; done))) | (exact keepZ (by assumption) (by go_size))) (fun wc hc => ?_)
  obtain ⟨q0, q1, q2, q3, hB⟩ := hc
  clear hb1
  go_wp2_with fail
  go_region_held3 (fun w' => w'.cell? ⟨w.heap.size, 0, none⟩ = some (.int .i64 r.a0) ∧ w'.cell? ⟨w.heap.size, 1, none⟩ = some (.int .i64 r.a1) ∧ w'.cell? ⟨w.heap.size, 2, none⟩ = some (.int .i64 r.g0) ∧ w'.cell? ⟨w.heap.size, 3, none⟩ = some (.int .i64 r.g1) ∧ Below wc.heap.size wc w')
      (first | (with_reducible assumption) | (have hk2 := hk1.out; have hk3 := hk2.size; (try go_split_ands); refine pack4 ?_ q0 q1 q2 q3; (first | (with_reducible assumption) | (with_reducible exact Below.refl _ _) | ((with_reducible apply belowSeq hb1); (with_reducible assumption)) | ((with_reducible refine Below.alloc ?_ ?_ _) <;> first | (with_reducible assumption) | (exact Below.size (by with_reducible assumption))) | (go_grown; done))) | ((try go_split_ands); refine pack4 ?_ q0 q1 q2 q3; (first | (with_reducible assumption) | (with_reducible exact Below.refl _ _) | ((with_reducible apply belowSeq hb1); (with_reducible assumption)) | ((with_reducible refine Below.alloc ?_ ?_ _) <;> first | (with_reducible assumption) | (exact Below.size (by with_reducible assumption))) | (go_grown; done))))
      (first
        | ((go_at_call 26; (with_reducible refine Calls.mono (HCP.out _ ?_) ?_); (focus (first | (with_reducible exact hB) | (with_reducible exact hB.drew))); rintro e w1 ⟨⟨sb, cb, g, rfl, hsb, hcb⟩, hb1⟩))
        | ((go_at_call 25; (with_reducible refine Calls.mono (HFO.out _ _ _ _ hsb hcb) ?_); rintro e w1 ⟨⟨sx, cx, gx, rfl, hLx⟩, hb1⟩)))
  rename_i hS
  have hW := hS.2.2.2.2
  clear hS
  have hB5 := belowSeq hW hB
  have Q0 := keepC hW q0
  have Q1 := keepC hW q1
  have Q2 := keepC hW q2
  have Q3 := keepC hW q3
  clear hW hB q0 q1 q2 q3 hcb hb1
  go_wp2_with (first | (go_at_call 27; (with_reducible refine Calls.mono (HRF.out _ hB5) ?_); rintro e w6 ⟨⟨sy, cy, gy, rfl, hLy⟩, hb6⟩; have hL6 := hLx.keep hb6; have hB6 := belowSeq hb6 hB5) | (go_at_call 28; (with_reducible refine Calls.mono (HSW.out _ _ _ _ _ _ _ hL6 hLy) ?_); rintro e w7 ⟨rfl, hb7⟩; have hL7 := hL6.keep hb7; have hB7 := belowSeq hb7 hB6))
  go_loopw [11] (fun i wr => ∃ k : Nat, k ≤ ln ∧ i = .int .i64 k ∧ Hid (Lies L sx gx wr) ∧ Below w.heap.size w wr)
    (fun i _ => ln - (intOf i).toNat)
  case atStart => exact ⟨0, Nat.zero_le _, rfl, Lib.hid hL7, hB7⟩
  case round =>
    clear hL7 hL6 hLy hLx hb6 hb7 hB5 hB6 hB7 Q0 Q1 Q2 Q3
    obtain ⟨k, hk, rfl, HL, hB⟩ := hrel
    by_cases hlt : k < ln
    · have hltL : k < L.length := by rw [HLN.out]; exact hlt
      obtain rfl := HL.out.1 (by omega)
      obtain rfl := HSA.out (by omega)
      obtain ⟨⟨e0, e1, e2, e3, e4, e5⟩, hx⟩ : ∃ x, L.getD k .zero = x := ⟨_, rfl⟩
      obtain ⟨⟨t0, t1, t2, t3, t4, t5, t6⟩, hm⟩ : ∃ m, f k = m := ⟨_, rfl⟩
      have a0 := HL.out.2 k 0 hltL (by omega)
      rw [hx] at a0
      rw [Nat.add_zero] at a0
      dsimp only [Wn.at] at a0
      have a1 := HL.out.2 k 1 hltL (by omega)
      rw [hx] at a1
      dsimp only [Wn.at] at a1
      have a2 := HL.out.2 k 2 hltL (by omega)
      rw [hx] at a2
      dsimp only [Wn.at] at a2
      have a3 := HL.out.2 k 3 hltL (by omega)
      rw [hx] at a3
      dsimp only [Wn.at] at a3
      have a4 := HL.out.2 k 4 hltL (by omega)
      rw [hx] at a4
      dsimp only [Wn.at] at a4
      have a5 := HL.out.2 k 5 hltL (by omega)
      rw [hx] at a5
      dsimp only [Wn.at] at a5
      have d1 := keepC hB (HC.out k 1 (by omega) (by omega))
      rw [hm] at d1
      dsimp only [Ms.at] at d1
      have d2 := keepC hB (HC.out k 2 (by omega) (by omega))
      rw [hm] at d2
      dsimp only [Ms.at] at d2
      have d3 := keepC hB (HC.out k 3 (by omega) (by omega))
      rw [hm] at d3
      dsimp only [Ms.at] at d3
      have d4 := keepC hB (HC.out k 4 (by omega) (by omega))
      rw [hm] at d4
      dsimp only [Ms.at] at d4
      have d5 := keepC hB (HC.out k 5 (by omega) (by omega))
      rw [hm] at d5
      dsimp only [Ms.at] at d5
      have d6 := keepC hB (HC.out k 6 (by omega) (by omega))
      rw [hm] at d6
      dsimp only [Ms.at] at d6
      have HK : Hid (∀ w : World, Calls Try.prog 29 #[.agg #[.int .i64 e0, .int .i64 e1, .int .i64 e2, .int .i64 e3, .int .i64 e4, .int .i64 e5], .agg #[.int .i64 t1, .int .i64 t2, .int .i64 t3, .int .i64 t4, .int .i64 t5, .int .i64 t6]] w fun e w' => e = .returned (.tuple #[.agg #[.int .i64 e0, .int .i64 e1, .int .i64 e2, .int .i64 e3, .int .i64 e4, .int .i64 e5], .bool true]) ∧ Below w.heap.size w w') := Lib.hid fun w => by
        have := refCommon_any ⟨e0, e1, e2, e3, e4, e5⟩ ⟨t1, t2, t3, t4, t5, t6⟩ w
        obtain ⟨c1, c2⟩ := HCO.out k hltL
        rw [hx, hm] at c1
        rw [hx] at c2
        have e : Wn.com ⟨e0, e1, e2, e3, e4, e5⟩ ⟨t1, t2, t3, t4, t5, t6⟩ = ⟨e0, e1, e2, e3, e4, e5⟩ := c1
        rw [e, c2] at this
        exact this
      have hk0 : (0 : Int) ≤ (k : Int) := by omega
      have hk2 : (k : Int) < (n : Int) := by omega
      have hk3 : (k : Int) < (ln : Int) := by omega
      have hk4 : k < n := by omega
      clear hx hm
      go_wp2_with fail
      have hL := HL.out
      clear HL
      refine nameWorld (fun w' => w'.cell? ⟨gx, k * 6, none⟩ = some (.int .i64 e0) ∧ w'.cell? ⟨gx, k * 6 + 1, none⟩ = some (.int .i64 e1) ∧ w'.cell? ⟨gx, k * 6 + 2, none⟩ = some (.int .i64 e2) ∧ w'.cell? ⟨gx, k * 6 + 3, none⟩ = some (.int .i64 e3) ∧ w'.cell? ⟨gx, k * 6 + 4, none⟩ = some (.int .i64 e4) ∧ w'.cell? ⟨gx, k * 6 + 5, none⟩ = some (.int .i64 e5) ∧ w'.cell? ⟨b, off + k * 7 + 1, none⟩ = some (.int .i64 t1) ∧ w'.cell? ⟨b, off + k * 7 + 2, none⟩ = some (.int .i64 t2) ∧ w'.cell? ⟨b, off + k * 7 + 3, none⟩ = some (.int .i64 t3) ∧ w'.cell? ⟨b, off + k * 7 + 4, none⟩ = some (.int .i64 t4) ∧ w'.cell? ⟨b, off + k * 7 + 5, none⟩ = some (.int .i64 t5) ∧ w'.cell? ⟨b, off + k * 7 + 6, none⟩ = some (.int .i64 t6) ∧ Lies L (some ⟨gx, 0, none⟩) gx w' ∧ Below w.heap.size w w') ⟨a0, a1, a2, a3, a4, a5, d1, d2, d3, d4, d5, d6, hL, hB⟩ (fun wc hc => ?_)
      clear a0 a1 a2 a3 a4 a5 d1 d2 d3 d4 d5 d6 hL hB
      obtain ⟨a0, a1, a2, a3, a4, a5, d1, d2, d3, d4, d5, d6, hL, hB⟩ := hc
      have HL := Lib.hid hL
      clear hL
      refine regionX 13 1 [12] [] (by kernel_rfl) (by kernel_rfl) (by kernel_rfl) (by kernel_rfl) (by decide) (fun _ _ d _ _ h => by cases d <;> exact h) ?_
      intro R hR
      simp only [List.take_succ_cons, List.take_zero]
      iterate 13 (first | (refine headP_val ?_ (by rfl) (by rfl) (fun w' hw' => ?_) ?_; rotate_left; (focus (have y0 := keepC hw' a0; have y1 := keepC hw' a1; have y2 := keepC hw' a2; have y3 := keepC hw' a3; have y4 := keepC hw' a4; have y5 := keepC hw' a5; have y6 := keepC hw' d1; have y7 := keepC hw' d2; have y8 := keepC hw' d3; have y9 := keepC hw' d4; have y10 := keepC hw' d5; have y11 := keepC hw' d6; first | (refine onlyMakes_val ?_; first | (go_simp; done) | (go_simp; with_reducible rfl)) | (apply onlyMakes_call; (first | (go_simp; done) | (go_simp; exact ⟨rfl, rfl⟩) | (go_simp; with_reducible rfl)); first | (with_reducible exact HK.out _)))); (try dsimp only); (try simp only [Act.put, List.setIfInBounds_toArray, List.set_cons_zero, List.set_cons_succ])) | (refine headP_pure ?_ (by rfl) (by rfl) (fun w' => ?_) ?_; rotate_left; (focus ((first | (go_simp; done) | (go_simp; with_reducible rfl)))); (try dsimp only); (try simp only [Act.put, List.setIfInBounds_toArray, List.set_cons_zero, List.set_cons_succ])) | (refine headP_skip (by rfl) ?_; (try dsimp only); (try simp only [Act.put, List.setIfInBounds_toArray, List.set_cons_zero, List.set_cons_succ])))
      refine headP_nil (hR.out _ ?_)
      refine AnyZ.one_alloc 13 (obj := .cells #[.int .i64 0, .int .i64 0, .int .i64 0, .int .i64 0, .int .i64 0, .int .i64 0] 27) (by kernel_rfl) rfl (by decide) ⟨rfl, fun w' hw' => ?_⟩ (fun w1 hw1 => ?_)
      · first | (go_simp; done) | (go_simp; with_reducible rfl) | (go_simp; exact ⟨rfl, rfl⟩)
      refine AnyZ.last 14 (by kernel_rfl) (by decide) (fun w2 hw2 => ?_)
      refine wpAny_one 14 (by kernel_rfl) rfl rfl ?_
      have n0 := (newHeld hw2 0 _ rfl)
      have n1 := (newHeld hw2 1 _ rfl)
      have n2 := (newHeld hw2 2 _ rfl)
      have n3 := (newHeld hw2 3 _ rfl)
      have n4 := (newHeld hw2 4 _ rfl)
      have n5 := (newHeld hw2 5 _ rfl)
      have hX : Below wc.heap.size wc w2 := belowSeq hw2 (hw1.alloc hw1.size _)
      have hsz : wc.heap.size ≤ w1.heap.size := hw1.size
      clear hR hw1
      (try simp only [List.getElem_toArray, List.getElem_cons_succ, List.getElem_cons_zero])
      (try simp only [Act.put, List.setIfInBounds_toArray, List.set_cons_succ, List.set_cons_zero])
      unfold Oper.wp
      go_simp
      refine wpAny_one 15 (by kernel_rfl) rfl rfl ?_
      (try simp only [List.getElem_toArray, List.getElem_cons_succ, List.getElem_cons_zero])
      (try simp only [Act.put, List.setIfInBounds_toArray, List.set_cons_succ, List.set_cons_zero])
      unfold Oper.wp
      go_simp
      refine wpAny_done (by kernel_rfl) ?_
      go_upto_region 13 with fail
      obtain ⟨s0, s1, s2, s3, s4, s5⟩ := set6 n0.1 n1.1 n2.1 n3.1 n4.1 n5.1 (.int .i64 e0) (.int .i64 e1) (.int .i64 e2) (.int .i64 e3) (.int .i64 e4) (.int .i64 e5)
      have hY := sixBelow hX hsz e0 e1 e2 e3 e4 e5
      obtain ⟨BY, hBY⟩ : ∃ B, w1.heap.size = B := ⟨_, rfl⟩
      rw [hBY] at s0 s1 s2 s3 s4 s5 hY hsz ⊢
      refine nameWorld (fun w' => w'.cell? ⟨gx, k * 6, none⟩ = some (.int .i64 e0) ∧ w'.cell? ⟨gx, k * 6 + 1, none⟩ = some (.int .i64 e1) ∧ w'.cell? ⟨gx, k * 6 + 2, none⟩ = some (.int .i64 e2) ∧ w'.cell? ⟨gx, k * 6 + 3, none⟩ = some (.int .i64 e3) ∧ w'.cell? ⟨gx, k * 6 + 4, none⟩ = some (.int .i64 e4) ∧ w'.cell? ⟨gx, k * 6 + 5, none⟩ = some (.int .i64 e5) ∧ Lies L (some ⟨gx, 0, none⟩) gx w' ∧ Below w.heap.size w w' ∧ w'.cell? ⟨BY, 0, none⟩ = some (.int .i64 e0) ∧ w'.cell? ⟨BY, 1, none⟩ = some (.int .i64 e1) ∧ w'.cell? ⟨BY, 2, none⟩ = some (.int .i64 e2) ∧ w'.cell? ⟨BY, 3, none⟩ = some (.int .i64 e3) ∧ w'.cell? ⟨BY, 4, none⟩ = some (.int .i64 e4) ∧ w'.cell? ⟨BY, 5, none⟩ = some (.int .i64 e5)) ⟨keepC hY a0, keepC hY a1, keepC hY a2, keepC hY a3, keepC hY a4, keepC hY a5, HL.out.keep hY, belowSeq hY hB, s0, s1, s2, s3, s4, s5⟩ (fun wc hc => ?_)
      clear a0 a1 a2 a3 a4 a5 d1 d2 d3 d4 d5 d6 HL hB hY hX hw2 hBY hsz n0 s0 n1 s1 n2 s2 n3 s3 n4 s4 n5 s5
      obtain ⟨a0, a1, a2, a3, a4, a5, hL, hB, u0, u1, u2, u3, u4, u5⟩ := hc
      have HL := Lib.hid hL
      clear hL
      go_upto_region 13 with fail
      refine regionX 10 0 [] [] (by kernel_rfl) (by kernel_rfl) (by kernel_rfl) (by kernel_rfl) (by decide) (fun _ _ d _ _ h => by cases d <;> exact h) ?_
      intro R hR
      simp only [List.take_succ_cons, List.take_zero]
      iterate 10 (first | (refine headP_val ?_ (by rfl) (by rfl) (fun w' hw' => ?_) ?_; rotate_left; (focus (have y0 := keepC hw' a0; have y1 := keepC hw' a1; have y2 := keepC hw' a2; have y3 := keepC hw' a3; have y4 := keepC hw' a4; have y5 := keepC hw' a5; have y6 := keepC hw' u0; have y7 := keepC hw' u1; have y8 := keepC hw' u2; have y9 := keepC hw' u3; have y10 := keepC hw' u4; have y11 := keepC hw' u5; first | (refine onlyMakes_val ?_; first | (go_simp; done) | (go_simp; with_reducible rfl)) | fail)); (try dsimp only); (try simp only [Act.put, List.setIfInBounds_toArray, List.set_cons_zero, List.set_cons_succ])) | (refine headP_pure ?_ (by rfl) (by rfl) (fun w' => ?_) ?_; rotate_left; (focus ((first | (go_simp; done) | (go_simp; with_reducible rfl)))); (try dsimp only); (try simp only [Act.put, List.setIfInBounds_toArray, List.set_cons_zero, List.set_cons_succ])) | (refine headP_skip (by rfl) ?_; (try dsimp only); (try simp only [Act.put, List.setIfInBounds_toArray, List.set_cons_zero, List.set_cons_succ])))
      refine headP_nil (hR.out _ ?_)
      intro w3 hw3
      refine wpAny_done (by kernel_rfl) ?_
      have hB9 := belowSeq hw3 hB
      have HL9 := Lib.hid (HL.out.keep hw3)
      clear hR hw3 hB HL a0 u0 a1 u1 a2 u2 a3 u3 a4 u4 a5 u5
      go_wp2_with fail
      go_roundw
      case rel => exact ⟨k + 1, by omega, by go_num, HL9, hB9⟩
      case measure => simp [intOf]; omega
    · have e : k = ln := by omega
      subst e
      go_wp2_with ((with_reducible refine bodyPost_ret (v := .bool true) ?_ rfl ?_); (simp [results, Try.results7, go_sem]); exact ⟨rfl, hB⟩)
set_option linter.unusedVariables false in
set_option linter.unusedSimpArgs false in
set_option maxRecDepth 100000 in
set_option maxHeartbeats 8000000 in
theorem follows_two (hA : ∀ w : World, Calls Try.prog 10 #[] w fun e w' => e = .returned (.bool true) ∧ Below w.heap.size w w') (r : Sp) (f : Nat → Ms) (sa : Option Addr) (n cp b off : Nat) (w : World) (h1 : (6 : Int) < n) (h2 : (40 : Int) < n) (h3 : (n : Int) ≤ 42) (L : List Wn) (N E : Int) (hLn : L.length ≤ n) (hsa : 0 < n → sa = some ⟨b, off, none⟩) (hc : ∀ k j, k < n → j < 7 → w.cell? ⟨b, off + k * 7 + j, none⟩ = some (.int .i64 ((f k).at j)))
    (hcom : ∀ i, i < L.length → (L.getD i .zero).com (f i).x = L.getD i .zero ∧ (L.getD i .zero).isB = true)
    (hCP : ∀ W, Below w.heap.size w W → Calls Try.prog 26 #[.slice sa n cp] W fun e w' => (∃ (sb : Option Addr) (cb g : Nat), e = .returned (.slice sb n cb) ∧ (0 < n → sb = some ⟨g, 0, none⟩) ∧ (∀ k j, k < n → j < 7 → w'.cell? ⟨g, 0 + k * 7 + j, none⟩ = some (.int .i64 ((f k).at j)))) ∧ Below W.heap.size W w')
    (hFO : ∀ (sb : Option Addr) (cb g : Nat) (W : World), (0 < n → sb = some ⟨g, 0, none⟩) → (∀ k j, k < n → j < 7 → W.cell? ⟨g, 0 + k * 7 + j, none⟩ = some (.int .i64 ((f k).at j))) → Calls Try.prog 25 #[.agg #[.int .i64 r.a0, .int .i64 r.a1, .int .i64 r.g0, .int .i64 r.g1], .slice sb n cb] W fun e w' => (∃ (sx : Option Addr) (cx gx : Nat), e = .returned (.tuple #[.slice sx L.length cx, .int .i64 N, .int .i64 E]) ∧ Lies L sx gx w') ∧ Below W.heap.size W w')
    (hRF : ∀ W, Below w.heap.size w W → Calls Try.prog 27 #[.agg #[.int .i64 r.a0, .int .i64 r.a1, .int .i64 r.g0, .int .i64 r.g1], .slice sa n cp] W fun e w' => (∃ (sx : Option Addr) (cx gx : Nat), e = .returned (.tuple #[.slice sx L.length cx, .int .i64 N, .int .i64 E]) ∧ Lies L sx gx w') ∧ Below W.heap.size W w')
    (hSW : ∀ (sx sy : Option Addr) (cx cy gx gy : Nat) (W : World), Lies L sx gx W → Lies L sy gy W → Calls Try.prog 28 #[.slice sx L.length cx, .slice sy L.length cy] W fun e w' => e = .returned (.bool true) ∧ Below W.heap.size W w') :
    Calls Try.prog 7 #[.agg #[.int .i64 r.a0, .int .i64 r.a1, .int .i64 r.g0, .int .i64 r.g1], .slice sa n cp] w fun e w' => e = .returned (.bool true) ∧ Below w.heap.size w w' := by
  have HCP := Lib.hid hCP
  have HFO := Lib.hid hFO
  have HRF := Lib.hid hRF
  have HSW := Lib.hid hSW
  have HCO := Lib.hid hcom
  have HC := Lib.hid hc
  have HSA := Lib.hid hsa
  clear hCP hFO hRF hSW hcom hc hsa
  obtain ⟨ln, hln⟩ : ∃ l, L.length = l := ⟨_, rfl⟩
  have HLN := Lib.hid hln
  have hlnn : ln ≤ n := hln ▸ hLn
  rw [hln] at HFO HRF HSW
  clear hLn hln
  have HA := Lib.hid hA
  clear hA
  go_enter Try.func7, Try.ntmps7
  go_upto_region 3 with (go_at_call 10; refine (HA.out _).mono ?_; rintro e w1 ⟨rfl, hb1⟩)
  refine nameWorld (fun w' => w'.cell? ⟨w.heap.size, 0, none⟩ = some (.int .i64 r.a0) ∧ w'.cell? ⟨w.heap.size, 1, none⟩ = some (.int .i64 r.a1) ∧ w'.cell? ⟨w.heap.size, 2, none⟩ = some (.int .i64 r.g0) ∧ w'.cell? ⟨w.heap.size, 3, none⟩ = some (.int .i64 r.g1) ∧ Below w.heap.size w w') (by refine ⟨?_, ?_, ?_, ?_, ?_⟩ <;> first | (exact keepC (by assumption) (by go_cell)) | (exact belowSeq (by assumption) (by (go_grown; done))) | (exact keepZ (by assumption) (by go_size))) (fun wc hc => ?_)
  obtain ⟨q0, q1, q2, q3, hB⟩ := hc
  clear hb1
  go_wp2_with fail
  go_region_held3 (fun w' => w'.cell? ⟨w.heap.size, 0, none⟩ = some (.int .i64 r.a0) ∧ w'.cell? ⟨w.heap.size, 1, none⟩ = some (.int .i64 r.a1) ∧ w'.cell? ⟨w.heap.size, 2, none⟩ = some (.int .i64 r.g0) ∧ w'.cell? ⟨w.heap.size, 3, none⟩ = some (.int .i64 r.g1) ∧ Below wc.heap.size wc w')
      (first | (with_reducible assumption) | (have hk2 := hk1.out; have hk3 := hk2.size; (try go_split_ands); refine pack4 ?_ q0 q1 q2 q3; (first | (with_reducible assumption) | (with_reducible exact Below.refl _ _) | ((with_reducible apply belowSeq hb1); (with_reducible assumption)) | ((with_reducible refine Below.alloc ?_ ?_ _) <;> first | (with_reducible assumption) | (exact Below.size (by with_reducible assumption))) | (go_grown; done))) | ((try go_split_ands); refine pack4 ?_ q0 q1 q2 q3; (first | (with_reducible assumption) | (with_reducible exact Below.refl _ _) | ((with_reducible apply belowSeq hb1); (with_reducible assumption)) | ((with_reducible refine Below.alloc ?_ ?_ _) <;> first | (with_reducible assumption) | (exact Below.size (by with_reducible assumption))) | (go_grown; done))))
      (first
        | ((go_at_call 26; (with_reducible refine Calls.mono (HCP.out _ ?_) ?_); (focus (first | (with_reducible exact hB) | (with_reducible exact hB.drew))); rintro e w1 ⟨⟨sb, cb, g, rfl, hsb, hcb⟩, hb1⟩))
        | ((go_at_call 25; (with_reducible refine Calls.mono (HFO.out _ _ _ _ hsb hcb) ?_); rintro e w1 ⟨⟨sx, cx, gx, rfl, hLx⟩, hb1⟩)))
  rename_i hS
  have hW := hS.2.2.2.2
  clear hS
  have hB5 := belowSeq hW hB
  have Q0 := keepC hW q0
  have Q1 := keepC hW q1
  have Q2 := keepC hW q2
  have Q3 := keepC hW q3
  clear hW hB q0 q1 q2 q3 hcb hb1
  go_wp2_with (first | (go_at_call 27; (with_reducible refine Calls.mono (HRF.out _ hB5) ?_); rintro e w6 ⟨⟨sy, cy, gy, rfl, hLy⟩, hb6⟩; have hL6 := hLx.keep hb6; have hB6 := belowSeq hb6 hB5) | (go_at_call 28; (with_reducible refine Calls.mono (HSW.out _ _ _ _ _ _ _ hL6 hLy) ?_); rintro e w7 ⟨rfl, hb7⟩; have hL7 := hL6.keep hb7; have hB7 := belowSeq hb7 hB6))
  go_loopw [11] (fun i wr => ∃ k : Nat, k ≤ ln ∧ i = .int .i64 k ∧ Hid (Lies L sx gx wr) ∧ Below w.heap.size w wr)
    (fun i _ => ln - (intOf i).toNat)
  case atStart => exact ⟨0, Nat.zero_le _, rfl, Lib.hid hL7, hB7⟩
  case round =>
    clear hL7 hL6 hLy hLx hb6 hb7 hB5 hB6 hB7 Q0 Q1 Q2 Q3
    obtain ⟨k, hk, rfl, HL, hB⟩ := hrel
    by_cases hlt : k < ln
    · have hltL : k < L.length := by rw [HLN.out]; exact hlt
      obtain rfl := HL.out.1 (by omega)
      obtain rfl := HSA.out (by omega)
      obtain ⟨⟨e0, e1, e2, e3, e4, e5⟩, hx⟩ : ∃ x, L.getD k .zero = x := ⟨_, rfl⟩
      obtain ⟨⟨t0, t1, t2, t3, t4, t5, t6⟩, hm⟩ : ∃ m, f k = m := ⟨_, rfl⟩
      have a0 := HL.out.2 k 0 hltL (by omega)
      rw [hx] at a0
      rw [Nat.add_zero] at a0
      dsimp only [Wn.at] at a0
      have a1 := HL.out.2 k 1 hltL (by omega)
      rw [hx] at a1
      dsimp only [Wn.at] at a1
      have a2 := HL.out.2 k 2 hltL (by omega)
      rw [hx] at a2
      dsimp only [Wn.at] at a2
      have a3 := HL.out.2 k 3 hltL (by omega)
      rw [hx] at a3
      dsimp only [Wn.at] at a3
      have a4 := HL.out.2 k 4 hltL (by omega)
      rw [hx] at a4
      dsimp only [Wn.at] at a4
      have a5 := HL.out.2 k 5 hltL (by omega)
      rw [hx] at a5
      dsimp only [Wn.at] at a5
      have d1 := keepC hB (HC.out k 1 (by omega) (by omega))
      rw [hm] at d1
      dsimp only [Ms.at] at d1
      have d2 := keepC hB (HC.out k 2 (by omega) (by omega))
      rw [hm] at d2
      dsimp only [Ms.at] at d2
      have d3 := keepC hB (HC.out k 3 (by omega) (by omega))
      rw [hm] at d3
      dsimp only [Ms.at] at d3
      have d4 := keepC hB (HC.out k 4 (by omega) (by omega))
      rw [hm] at d4
      dsimp only [Ms.at] at d4
      have d5 := keepC hB (HC.out k 5 (by omega) (by omega))
      rw [hm] at d5
      dsimp only [Ms.at] at d5
      have d6 := keepC hB (HC.out k 6 (by omega) (by omega))
      rw [hm] at d6
      dsimp only [Ms.at] at d6
      have HK : Hid (∀ w : World, Calls Try.prog 29 #[.agg #[.int .i64 e0, .int .i64 e1, .int .i64 e2, .int .i64 e3, .int .i64 e4, .int .i64 e5], .agg #[.int .i64 t1, .int .i64 t2, .int .i64 t3, .int .i64 t4, .int .i64 t5, .int .i64 t6]] w fun e w' => e = .returned (.tuple #[.agg #[.int .i64 e0, .int .i64 e1, .int .i64 e2, .int .i64 e3, .int .i64 e4, .int .i64 e5], .bool true]) ∧ Below w.heap.size w w') := Lib.hid fun w => by
        have := refCommon_any ⟨e0, e1, e2, e3, e4, e5⟩ ⟨t1, t2, t3, t4, t5, t6⟩ w
        obtain ⟨c1, c2⟩ := HCO.out k hltL
        rw [hx, hm] at c1
        rw [hx] at c2
        have e : Wn.com ⟨e0, e1, e2, e3, e4, e5⟩ ⟨t1, t2, t3, t4, t5, t6⟩ = ⟨e0, e1, e2, e3, e4, e5⟩ := c1
        rw [e, c2] at this
        exact this
      have hk0 : (0 : Int) ≤ (k : Int) := by omega
      have hk2 : (k : Int) < (n : Int) := by omega
      have hk3 : (k : Int) < (ln : Int) := by omega
      have hk4 : k < n := by omega
      clear hx hm
      go_wp2_with fail
      have hL := HL.out
      clear HL
      refine nameWorld (fun w' => w'.cell? ⟨gx, k * 6, none⟩ = some (.int .i64 e0) ∧ w'.cell? ⟨gx, k * 6 + 1, none⟩ = some (.int .i64 e1) ∧ w'.cell? ⟨gx, k * 6 + 2, none⟩ = some (.int .i64 e2) ∧ w'.cell? ⟨gx, k * 6 + 3, none⟩ = some (.int .i64 e3) ∧ w'.cell? ⟨gx, k * 6 + 4, none⟩ = some (.int .i64 e4) ∧ w'.cell? ⟨gx, k * 6 + 5, none⟩ = some (.int .i64 e5) ∧ w'.cell? ⟨b, off + k * 7 + 1, none⟩ = some (.int .i64 t1) ∧ w'.cell? ⟨b, off + k * 7 + 2, none⟩ = some (.int .i64 t2) ∧ w'.cell? ⟨b, off + k * 7 + 3, none⟩ = some (.int .i64 t3) ∧ w'.cell? ⟨b, off + k * 7 + 4, none⟩ = some (.int .i64 t4) ∧ w'.cell? ⟨b, off + k * 7 + 5, none⟩ = some (.int .i64 t5) ∧ w'.cell? ⟨b, off + k * 7 + 6, none⟩ = some (.int .i64 t6) ∧ Lies L (some ⟨gx, 0, none⟩) gx w' ∧ Below w.heap.size w w') ⟨a0, a1, a2, a3, a4, a5, d1, d2, d3, d4, d5, d6, hL, hB⟩ (fun wc hc => ?_)
      clear a0 a1 a2 a3 a4 a5 d1 d2 d3 d4 d5 d6 hL hB
      obtain ⟨a0, a1, a2, a3, a4, a5, d1, d2, d3, d4, d5, d6, hL, hB⟩ := hc
      have HL := Lib.hid hL
      clear hL
      refine regionX 13 1 [12] [] (by kernel_rfl) (by kernel_rfl) (by kernel_rfl) (by kernel_rfl) (by decide) (fun _ _ d _ _ h => by cases d <;> exact h) ?_
      intro R hR
      simp only [List.take_succ_cons, List.take_zero]
      iterate 13 (first | (refine headP_val ?_ (by rfl) (by rfl) (fun w' hw' => ?_) ?_; rotate_left; (focus (have y0 := keepC hw' a0; have y1 := keepC hw' a1; have y2 := keepC hw' a2; have y3 := keepC hw' a3; have y4 := keepC hw' a4; have y5 := keepC hw' a5; have y6 := keepC hw' d1; have y7 := keepC hw' d2; have y8 := keepC hw' d3; have y9 := keepC hw' d4; have y10 := keepC hw' d5; have y11 := keepC hw' d6; first | (refine onlyMakes_val ?_; first | (go_simp; done) | (go_simp; with_reducible rfl)) | (apply onlyMakes_call; (first | (go_simp; done) | (go_simp; exact ⟨rfl, rfl⟩) | (go_simp; with_reducible rfl)); first | (with_reducible exact HK.out _)))); (try dsimp only); (try simp only [Act.put, List.setIfInBounds_toArray, List.set_cons_zero, List.set_cons_succ])) | (refine headP_pure ?_ (by rfl) (by rfl) (fun w' => ?_) ?_; rotate_left; (focus ((first | (go_simp; done) | (go_simp; with_reducible rfl)))); (try dsimp only); (try simp only [Act.put, List.setIfInBounds_toArray, List.set_cons_zero, List.set_cons_succ])) | (refine headP_skip (by rfl) ?_; (try dsimp only); (try simp only [Act.put, List.setIfInBounds_toArray, List.set_cons_zero, List.set_cons_succ])))
      refine headP_nil (hR.out _ ?_)
      refine AnyZ.one_alloc 13 (obj := .cells #[.int .i64 0, .int .i64 0, .int .i64 0, .int .i64 0, .int .i64 0, .int .i64 0] 27) (by kernel_rfl) rfl (by decide) ⟨rfl, fun w' hw' => ?_⟩ (fun w1 hw1 => ?_)
      · first | (go_simp; done) | (go_simp; with_reducible rfl) | (go_simp; exact ⟨rfl, rfl⟩)
      refine AnyZ.last 14 (by kernel_rfl) (by decide) (fun w2 hw2 => ?_)
      refine wpAny_one 14 (by kernel_rfl) rfl rfl ?_
      have n0 := (newHeld hw2 0 _ rfl)
      have n1 := (newHeld hw2 1 _ rfl)
      have n2 := (newHeld hw2 2 _ rfl)
      have n3 := (newHeld hw2 3 _ rfl)
      have n4 := (newHeld hw2 4 _ rfl)
      have n5 := (newHeld hw2 5 _ rfl)
      have hX : Below wc.heap.size wc w2 := belowSeq hw2 (hw1.alloc hw1.size _)
      have hsz : wc.heap.size ≤ w1.heap.size := hw1.size
      clear hR hw1
      (try simp only [List.getElem_toArray, List.getElem_cons_succ, List.getElem_cons_zero])
      (try simp only [Act.put, List.setIfInBounds_toArray, List.set_cons_succ, List.set_cons_zero])
      unfold Oper.wp
      go_simp
      refine wpAny_one 15 (by kernel_rfl) rfl rfl ?_
      (try simp only [List.getElem_toArray, List.getElem_cons_succ, List.getElem_cons_zero])
      (try simp only [Act.put, List.setIfInBounds_toArray, List.set_cons_succ, List.set_cons_zero])
      unfold Oper.wp
      go_simp
      refine wpAny_done (by kernel_rfl) ?_
      go_upto_region 13 with fail
      obtain ⟨s0, s1, s2, s3, s4, s5⟩ := set6 n0.1 n1.1 n2.1 n3.1 n4.1 n5.1 (.int .i64 e0) (.int .i64 e1) (.int .i64 e2) (.int .i64 e3) (.int .i64 e4) (.int .i64 e5)
      have hY := sixBelow hX hsz e0 e1 e2 e3 e4 e5
      obtain ⟨BY, hBY⟩ : ∃ B, w1.heap.size = B := ⟨_, rfl⟩
      rw [hBY] at s0 s1 s2 s3 s4 s5 hY hsz ⊢
      refine nameWorld (fun w' => w'.cell? ⟨gx, k * 6, none⟩ = some (.int .i64 e0) ∧ w'.cell? ⟨gx, k * 6 + 1, none⟩ = some (.int .i64 e1) ∧ w'.cell? ⟨gx, k * 6 + 2, none⟩ = some (.int .i64 e2) ∧ w'.cell? ⟨gx, k * 6 + 3, none⟩ = some (.int .i64 e3) ∧ w'.cell? ⟨gx, k * 6 + 4, none⟩ = some (.int .i64 e4) ∧ w'.cell? ⟨gx, k * 6 + 5, none⟩ = some (.int .i64 e5) ∧ Lies L (some ⟨gx, 0, none⟩) gx w' ∧ Below w.heap.size w w' ∧ w'.cell? ⟨BY, 0, none⟩ = some (.int .i64 e0) ∧ w'.cell? ⟨BY, 1, none⟩ = some (.int .i64 e1) ∧ w'.cell? ⟨BY, 2, none⟩ = some (.int .i64 e2) ∧ w'.cell? ⟨BY, 3, none⟩ = some (.int .i64 e3) ∧ w'.cell? ⟨BY, 4, none⟩ = some (.int .i64 e4) ∧ w'.cell? ⟨BY, 5, none⟩ = some (.int .i64 e5)) ⟨keepC hY a0, keepC hY a1, keepC hY a2, keepC hY a3, keepC hY a4, keepC hY a5, HL.out.keep hY, belowSeq hY hB, s0, s1, s2, s3, s4, s5⟩ (fun wc hc => ?_)
      clear a0 a1 a2 a3 a4 a5 d1 d2 d3 d4 d5 d6 HL hB hY hX hw2 hBY hsz n0 s0 n1 s1 n2 s2 n3 s3 n4 s4 n5 s5
      obtain ⟨a0, a1, a2, a3, a4, a5, hL, hB, u0, u1, u2, u3, u4, u5⟩ := hc
      have HL := Lib.hid hL
      clear hL
      go_upto_region 13 with fail
      refine regionX 10 0 [] [] (by kernel_rfl) (by kernel_rfl) (by kernel_rfl) (by kernel_rfl) (by decide) (fun _ _ d _ _ h => by cases d <;> exact h) ?_
      intro R hR
      simp only [List.take_succ_cons, List.take_zero]
      iterate 10 (first | (refine headP_val ?_ (by rfl) (by rfl) (fun w' hw' => ?_) ?_; rotate_left; (focus (have y0 := keepC hw' a0; have y1 := keepC hw' a1; have y2 := keepC hw' a2; have y3 := keepC hw' a3; have y4 := keepC hw' a4; have y5 := keepC hw' a5; have y6 := keepC hw' u0; have y7 := keepC hw' u1; have y8 := keepC hw' u2; have y9 := keepC hw' u3; have y10 := keepC hw' u4; have y11 := keepC hw' u5; first | (refine onlyMakes_val ?_; first | (go_simp; done) | (go_simp; with_reducible rfl)) | fail)); (try dsimp only); (try simp only [Act.put, List.setIfInBounds_toArray, List.set_cons_zero, List.set_cons_succ])) | (refine headP_pure ?_ (by rfl) (by rfl) (fun w' => ?_) ?_; rotate_left; (focus ((first | (go_simp; done) | (go_simp; with_reducible rfl)))); (try dsimp only); (try simp only [Act.put, List.setIfInBounds_toArray, List.set_cons_zero, List.set_cons_succ])) | (refine headP_skip (by rfl) ?_; (try dsimp only); (try simp only [Act.put, List.setIfInBounds_toArray, List.set_cons_zero, List.set_cons_succ])))
      refine headP_nil (hR.out _ ?_)
      intro w3 hw3
      refine wpAny_done (by kernel_rfl) ?_
      have hB9 := belowSeq hw3 hB
      have HL9 := Lib.hid (HL.out.keep hw3)
      clear hR hw3 hB HL a0 u0 a1 u1 a2 u2 a3 u3 a4 u4 a5 u5
      go_wp2_with fail
      go_roundw
      case rel => exact ⟨k + 1, by omega, by go_num, HL9, hB9⟩
      case measure => simp [intOf]; omega
    · have e : k = ln := by omega
      subst e
      go_wp2_with ((with_reducible refine bodyPost_ret (v := .bool true) ?_ rfl ?_); (simp [results, Try.results7, go_sem]); exact ⟨rfl, hB⟩)
end Go.Proofs.Ytpccfjdgnmmfoaa
