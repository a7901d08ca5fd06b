/- flor's own Followed: what is common of each measurement and what the one before it becomes. -/
import Derived.Test.YtpccfjdgnmmfoaaW3
import Derived.Test.YtpccfjdgnmmfoaaW4
import Derived.Test.YtpccfjdgnmmfoaaQQ
import Derived.OwnWalk
import Derived.Laws.OwnMore
import Derived.Deep.AppendLies
namespace Go.Proofs.Ytpccfjdgnmmfoaa
open Go.RowKit

theorem rowBelow {B : Nat} {e : TypeId} {k : Nat} {v : Value} {n : Nat} {xs : List Value} {w w' : World} (h : w.ownsRow B e k v n xs) (hb : Below w.heap.size w w') : w'.ownsRow B e k v n xs :=
  h.kept (row := none) ⟨hb.os, hb.tape, hb.output, hb.size, fun j hj _ => hb.block j hj⟩ (by cases hv : v.ownBlock <;> simp)
theorem sixBelow {A W : World} {b n : Nat} (h : Below n A W) (hn : n ≤ b) (u0 u1 u2 u3 u4 u5 : Int) : Below n A ((((((W.setCell ⟨b, 0, none⟩ (.int .i64 u0)).setCell ⟨b, 1, none⟩ (.int .i64 u1)).setCell ⟨b, 2, none⟩ (.int .i64 u2)).setCell ⟨b, 3, none⟩ (.int .i64 u3)).setCell ⟨b, 4, none⟩ (.int .i64 u4)).setCell ⟨b, 5, none⟩ (.int .i64 u5)) :=
  (((((h.setCell hn _).setCell hn _).setCell hn _).setCell hn _).setCell hn _).setCell hn _
theorem sixRow {B : Nat} {e : TypeId} {k : Nat} {v : Value} {n b : Nat} {xs : List Value} {W : World} (h : W.ownsRow B e k v n xs) (hb : b < B) (u0 u1 u2 u3 u4 u5 : Int) : World.ownsRow ((((((W.setCell ⟨b, 0, none⟩ (.int .i64 u0)).setCell ⟨b, 1, none⟩ (.int .i64 u1)).setCell ⟨b, 2, none⟩ (.int .i64 u2)).setCell ⟨b, 3, none⟩ (.int .i64 u3)).setCell ⟨b, 4, none⟩ (.int .i64 u4)).setCell ⟨b, 5, none⟩ (.int .i64 u5)) B e k v n xs :=
  ownsRow_setCell_below (ownsRow_setCell_below (ownsRow_setCell_below (ownsRow_setCell_below (ownsRow_setCell_below (ownsRow_setCell_below h hb _) hb _) hb _) hb _) hb _) hb _
theorem sixApart {W : World} {b s i : Nat} (h : s ≠ b) (u0 u1 u2 u3 u4 u5 : Int) : World.cell? ((((((W.setCell ⟨b, 0, none⟩ (.int .i64 u0)).setCell ⟨b, 1, none⟩ (.int .i64 u1)).setCell ⟨b, 2, none⟩ (.int .i64 u2)).setCell ⟨b, 3, none⟩ (.int .i64 u3)).setCell ⟨b, 4, none⟩ (.int .i64 u4)).setCell ⟨b, 5, none⟩ (.int .i64 u5)) ⟨s, i, none⟩ = W.cell? ⟨s, i, none⟩ := by
  have e : ∀ (V : World) (j : Nat) (x : Value), (V.setCell ⟨b, j, none⟩ x).cell? ⟨s, i, none⟩ = V.cell? ⟨s, i, none⟩ := fun V j x => World.cell?_setCell_other _ _ _ _ (by intro q; cases q; exact h rfl)
  rw [e, e, e, e, e, e]
theorem sixFroz {W : World} {b : Nat} (p : Addr) (u0 u1 u2 u3 u4 u5 : Int) : World.frozen? ((((((W.setCell ⟨b, 0, none⟩ (.int .i64 u0)).setCell ⟨b, 1, none⟩ (.int .i64 u1)).setCell ⟨b, 2, none⟩ (.int .i64 u2)).setCell ⟨b, 3, none⟩ (.int .i64 u3)).setCell ⟨b, 4, none⟩ (.int .i64 u4)).setCell ⟨b, 5, none⟩ (.int .i64 u5)) p = W.frozen? p := by simp only [World.frozen?_setCell]
theorem flat_at : ∀ (xs : List Wn) (i j : Nat), i < xs.length → j < 6 → (xs.flatMap Wn.cells)[i * 6 + j]? = some (.int .i64 ((xs.getD i .zero).at j))
  | [], i, j, h, _ => by simp at h
  | x :: xs, 0, j, _, hj => by
    rw [List.flatMap_cons, List.getElem?_append_left (by simp [Wn.cells]; omega)]
    match j, hj with
    | 0, _ => rfl
    | 1, _ => rfl
    | 2, _ => rfl
    | 3, _ => rfl
    | 4, _ => rfl
    | 5, _ => rfl
  | x :: xs, i + 1, j, h, hj => by
    have hl : x.cells.length = 6 := rfl
    rw [List.flatMap_cons, List.getElem?_append_right (by rw [hl]; omega), hl, show (i + 1) * 6 + j - 6 = i * 6 + j by omega]
    have := flat_at xs i j (by simpa using h) hj
    simpa using this
theorem wineInfo : (Try.prog.info? 27).map (fun i => (i.zero, i.size, i.bytes)) = some (some (.agg #[.int .i64 0, .int .i64 0, .int .i64 0, .int .i64 0, .int .i64 0, .int .i64 0]), 6, 48) := by kernel_rfl
set_option linter.unusedVariables false in
set_option linter.unusedSimpArgs false in
set_option maxRecDepth 100000 in
set_option maxHeartbeats 8000000 in
theorem fol_rate (r : Sp) (f : Nat → Ms) (sa : Option Addr) (n cp b off : Nat) (w : World) (hd : (rateE r.a0 r.a1 r.g0 r.g1 != 0) = true) :
    Calls Try.prog 25 #[.agg #[.int .i64 r.a0, .int .i64 r.a1, .int .i64 r.g0, .int .i64 r.g1], .slice sa n cp] w fun e w' => e = .returned (.tuple #[.slice none 0 0, .int .i64 0, .int .i64 (rateE r.a0 r.a1 r.g0 r.g1)]) ∧ Below w.heap.size w w' := by
  go_enter Try.func25, Try.ntmps25
  go_wp2_with (first | (go_at_call 64; refine (florCheckRate_any _ _ _ _ _).mono ?_; rintro e w1 ⟨rfl, hb1⟩; have hB1 := belowSeq hb1 ((Below.refl _ w).alloc (Nat.le_refl _) _)) | ((with_reducible refine bodyPost_ret (v := .tuple #[.slice none 0 0, .int .i64 0, .int .i64 (rateE r.a0 r.a1 r.g0 r.g1)]) ?_ rfl ?_); (simp [results, Try.results25, go_sem]); exact ⟨rfl, hB1⟩))
set_option linter.unusedVariables false in
set_option linter.unusedSimpArgs false in
set_option maxRecDepth 100000 in
set_option maxHeartbeats 8000000 in
theorem fol_mes (r : Sp) (f : Nat → Ms) (sa : Option Addr) (n cp b off : Nat) (w : World) (hr : (rateE r.a0 r.a1 r.g0 r.g1 != 0) = false) (N E : Int) (hE : (E != 0) = true) (hM : ∀ W, Below w.heap.size w W → Calls Try.prog 65 #[.slice sa n cp] W fun e w' => e = .returned (.tuple #[.int .i64 N, .int .i64 E]) ∧ Below W.heap.size W w') :
    Calls Try.prog 25 #[.agg #[.int .i64 r.a0, .int .i64 r.a1, .int .i64 r.g0, .int .i64 r.g1], .slice sa n cp] w fun e w' => e = .returned (.tuple #[.slice none 0 0, .int .i64 N, .int .i64 E]) ∧ Below w.heap.size w w' := by
  have HM := Lib.hid hM
  clear hM
  go_enter Try.func25, Try.ntmps25
  go_wp2_with (first | (go_at_call 64; refine (florCheckRate_any _ _ _ _ _).mono ?_; rintro e w1 ⟨rfl, hb1⟩; have hB1 := belowSeq hb1 ((Below.refl _ w).alloc (Nat.le_refl _) _)) | (go_at_call 65; (with_reducible refine Calls.mono (HM.out _ ?_) ?_); (focus (exact hB1)); rintro e w2 ⟨rfl, hb2⟩; have hB2 := belowSeq hb2 hB1) | ((with_reducible refine bodyPost_ret (v := .tuple #[.slice none 0 0, .int .i64 N, .int .i64 E]) ?_ rfl ?_); (simp [results, Try.results25, go_sem]); exact ⟨rfl, hB2⟩))
set_option linter.unusedVariables false in
set_option linter.unusedSimpArgs false in
set_option maxRecDepth 100000 in
set_option maxHeartbeats 8000000 in
theorem fol_ok (r : Sp) (f : Nat → Ms) (sa : Option Addr) (n cp b off : Nat) (w : World) (hr : rateE r.a0 r.a1 r.g0 r.g1 = 0) (h0 : 0 < n) (hn : n ≤ 40) (hsa : 0 < n → sa = some ⟨b, off, none⟩) (hme : mesE f n 0 = 0) (hc : ∀ k j, k < n → j < 7 → w.cell? ⟨b, off + k * 7 + j, none⟩ = some (.int .i64 ((f k).at j))) (hM : ∀ W, Below w.heap.size w W → Calls Try.prog 65 #[.slice sa n cp] W fun e w' => e = .returned (.tuple #[.int .i64 0, .int .i64 0]) ∧ Below W.heap.size W w') :
    Calls Try.prog 25 #[.agg #[.int .i64 r.a0, .int .i64 r.a1, .int .i64 r.g0, .int .i64 r.g1], .slice sa n cp] w fun e w' => ((folE r f (n - 1) 1 (f 0).x = 0 ∧ (∃ (cb g : Nat), e = .returned (.tuple #[.slice (some ⟨g, 0, none⟩) ((f 0).x :: folL r f (n - 1) 1 (f 0).x).length cb, .int .i64 0, .int .i64 0]) ∧ ∀ i j, i < ((f 0).x :: folL r f (n - 1) 1 (f 0).x).length → j < 6 → w'.cell? ⟨g, i * 6 + j, none⟩ = some (.int .i64 ((((f 0).x :: folL r f (n - 1) 1 (f 0).x).getD i .zero).at j)))) ∨ (folE r f (n - 1) 1 (f 0).x ≠ 0 ∧ e = .returned (.tuple #[.slice none 0 0, .int .i64 (folN r f (n - 1) 1 (f 0).x), .int .i64 (folE r f (n - 1) 1 (f 0).x)]))) ∧ Below w.heap.size w w' := by
  have hr0 : (rateE r.a0 r.a1 r.g0 r.g1 != 0) = false := by rw [hr]; rfl
  have HR := Lib.hid hr
  have HM := Lib.hid hM
  have HC := Lib.hid hc
  have HF := Lib.hid (fun k hk => mes_fine hme k hk)
  clear hr hM hc hme
  obtain rfl := hsa h0
  obtain ⟨i0, hi, hz0, hz1, hz2⟩ := info_parts wineInfo
  obtain ⟨⟨m0, m1, m2, m3, m4, m5, m6⟩, hm0⟩ : ∃ m, f 0 = m := ⟨_, rfl⟩
  have hx0 : (f 0).x = ⟨m1, m2, m3, m4, m5, m6⟩ := by rw [hm0]; rfl
  have hxe : Wn.err ⟨m1, m2, m3, m4, m5, m6⟩ = 0 := hx0 ▸ (HF.out 0 h0).2.1
  have HM0 := Lib.hid hm0
  rw [hx0]
  generalize hLL : ((⟨m1, m2, m3, m4, m5, m6⟩ : Wn) :: folL r f (n - 1) 1 ⟨m1, m2, m3, m4, m5, m6⟩) = LL
  have HLL := Lib.hid hLL.symm
  clear hm0 hLL
  go_enter Try.func25, Try.ntmps25
  have hn1 : (0 : Int) < (n : Int) := by omega
  go_upto_region 7 with (first | (go_at_call 64; refine (florCheckRate_any _ _ _ _ _).mono ?_; rintro e w1 ⟨rfl, hb1⟩; have hB1 := belowSeq hb1 ((Below.refl _ w).alloc (Nat.le_refl _) _)) | (go_at_call 65; (with_reducible refine Calls.mono (HM.out _ ?_) ?_); (focus (exact hB1)); rintro e w2 ⟨rfl, hb2⟩; have hB2 := belowSeq hb2 hB1))
  have q0 : w2.cell? ⟨w.heap.size, 0, none⟩ = some (.int .i64 r.a0) := keepC hb2 (keepC hb1 (by go_cell))
  have q1 : w2.cell? ⟨w.heap.size, 1, none⟩ = some (.int .i64 r.a1) := keepC hb2 (keepC hb1 (by go_cell))
  have q2 : w2.cell? ⟨w.heap.size, 2, none⟩ = some (.int .i64 r.g0) := keepC hb2 (keepC hb1 (by go_cell))
  have q3 : w2.cell? ⟨w.heap.size, 3, none⟩ = some (.int .i64 r.g1) := keepC hb2 (keepC hb1 (by go_cell))
  have c1 := keepC hB2 (HC.out 0 1 h0 (by omega))
  simp only [Nat.zero_mul, Nat.add_zero] at c1
  rw [HM0.out] at c1
  dsimp only [Ms.at] at c1
  have c2 := keepC hB2 (HC.out 0 2 h0 (by omega))
  simp only [Nat.zero_mul, Nat.add_zero] at c2
  rw [HM0.out] at c2
  dsimp only [Ms.at] at c2
  have c3 := keepC hB2 (HC.out 0 3 h0 (by omega))
  simp only [Nat.zero_mul, Nat.add_zero] at c3
  rw [HM0.out] at c3
  dsimp only [Ms.at] at c3
  have c4 := keepC hB2 (HC.out 0 4 h0 (by omega))
  simp only [Nat.zero_mul, Nat.add_zero] at c4
  rw [HM0.out] at c4
  dsimp only [Ms.at] at c4
  have c5 := keepC hB2 (HC.out 0 5 h0 (by omega))
  simp only [Nat.zero_mul, Nat.add_zero] at c5
  rw [HM0.out] at c5
  dsimp only [Ms.at] at c5
  have c6 := keepC hB2 (HC.out 0 6 h0 (by omega))
  simp only [Nat.zero_mul, Nat.add_zero] at c6
  rw [HM0.out] at c6
  dsimp only [Ms.at] at c6
  obtain ⟨BL, hBL⟩ : ∃ B, w2.heap.size = B := ⟨_, rfl⟩
  have hBs : w.heap.size < BL := hBL ▸ World.block_lt_of_cell? w2 _ q0
  have hown := World.ownsRow_lit (base := BL + 1) (e := 27) (size := 6) (w2.alloc (.cells #[.int .i64 m1, .int .i64 m2, .int .i64 m3, .int .i64 m4, .int .i64 m5, .int .i64 m6] 95)) #[.int .i64 m1, .int .i64 m2, .int .i64 m3, .int .i64 m4, .int .i64 m5, .int .i64 m6] 1 (by rw [World.size_alloc, hBL]; exact Nat.le_refl _) (by decide) rfl
  rw [World.size_alloc, hBL] at hown
  have hB3 : Below w2.heap.size w2 ((w2.alloc (.cells #[.int .i64 m1, .int .i64 m2, .int .i64 m3, .int .i64 m4, .int .i64 m5, .int .i64 m6] 95)).alloc (.cells #[.int .i64 m1, .int .i64 m2, .int .i64 m3, .int .i64 m4, .int .i64 m5, .int .i64 m6] 27)) := ((Below.refl _ _).alloc (Nat.le_refl _) _).alloc (by rw [World.size_alloc]; omega) _
  have hBn : Below (w2.alloc (.cells #[.int .i64 m1, .int .i64 m2, .int .i64 m3, .int .i64 m4, .int .i64 m5, .int .i64 m6] 95)).heap.size (w2.alloc (.cells #[.int .i64 m1, .int .i64 m2, .int .i64 m3, .int .i64 m4, .int .i64 m5, .int .i64 m6] 95)) ((w2.alloc (.cells #[.int .i64 m1, .int .i64 m2, .int .i64 m3, .int .i64 m4, .int .i64 m5, .int .i64 m6] 95)).alloc (.cells #[.int .i64 m1, .int .i64 m2, .int .i64 m3, .int .i64 m4, .int .i64 m5, .int .i64 m6] 27)) := (Below.refl _ _).alloc (Nat.le_refl _) _
  have l0 := newHeld hBn 0 _ rfl
  have l1 := newHeld hBn 1 _ rfl
  have l2 := newHeld hBn 2 _ rfl
  have l3 := newHeld hBn 3 _ rfl
  have l4 := newHeld hBn 4 _ rfl
  have l5 := newHeld hBn 5 _ rfl
  rw [hBL] at l0
  rw [hBL] at l1
  rw [hBL] at l2
  rw [hBL] at l3
  rw [hBL] at l4
  rw [hBL] at l5
  clear hb1 hb2 hB1
  go_wp2_with fail
  go_loopw [12, 11] (fun i v wr => ∃ (k gg cc : Nat) (xs : List Wn) (e0 e1 e2 e3 e4 e5 : Int), (1 ≤ k ∧ k ≤ n ∧ xs.length = k ∧ i = .int .i64 k ∧ v = .slice (some ⟨gg, 0, none⟩) k cc) ∧ Hid (LL = xs ++ folL r f (n - k) k ⟨e0, e1, e2, e3, e4, e5⟩ ∧ folN r f (n - 1) 1 ⟨m1, m2, m3, m4, m5, m6⟩ = folN r f (n - k) k ⟨e0, e1, e2, e3, e4, e5⟩ ∧ folE r f (n - 1) 1 ⟨m1, m2, m3, m4, m5, m6⟩ = folE r f (n - k) k ⟨e0, e1, e2, e3, e4, e5⟩) ∧ Hid (Wn.err ⟨e0, e1, e2, e3, e4, e5⟩ = 0) ∧ wr.cell? ⟨w.heap.size, 0, none⟩ = some (.int .i64 r.a0) ∧ wr.cell? ⟨w.heap.size, 1, none⟩ = some (.int .i64 r.a1) ∧ wr.cell? ⟨w.heap.size, 2, none⟩ = some (.int .i64 r.g0) ∧ wr.cell? ⟨w.heap.size, 3, none⟩ = some (.int .i64 r.g1) ∧ wr.cell? ⟨BL, 0, none⟩ = some (.int .i64 e0) ∧ wr.cell? ⟨BL, 1, none⟩ = some (.int .i64 e1) ∧ wr.cell? ⟨BL, 2, none⟩ = some (.int .i64 e2) ∧ wr.cell? ⟨BL, 3, none⟩ = some (.int .i64 e3) ∧ wr.cell? ⟨BL, 4, none⟩ = some (.int .i64 e4) ∧ wr.cell? ⟨BL, 5, none⟩ = some (.int .i64 e5) ∧ wr.frozen? ⟨BL, 0, none⟩ = false ∧ wr.frozen? ⟨BL, 1, none⟩ = false ∧ wr.frozen? ⟨BL, 2, none⟩ = false ∧ wr.frozen? ⟨BL, 3, none⟩ = false ∧ wr.frozen? ⟨BL, 4, none⟩ = false ∧ wr.frozen? ⟨BL, 5, none⟩ = false ∧ wr.ownsRow (BL + 1) 27 6 (.slice (some ⟨gg, 0, none⟩) k cc) k (xs.flatMap Wn.cells) ∧ Below w.heap.size w wr)
    (fun i _ _ => n - (intOf i).toNat)
  case atStart =>
    exact ⟨1, BL + 1, 1, [⟨m1, m2, m3, m4, m5, m6⟩], m1, m2, m3, m4, m5, m6, ⟨Nat.le_refl _, h0, rfl, rfl, rfl⟩, Lib.hid ⟨HLL.out, rfl, rfl⟩, Lib.hid hxe, keepC hB3 q0, keepC hB3 q1, keepC hB3 q2, keepC hB3 q3, l0.1, l1.1, l2.1, l3.1, l4.1, l5.1, l0.2, l1.2, l2.2, l3.2, l4.2, l5.2, hown, belowSeq hB3 hB2⟩
  case round =>
    clear q0 q1 q2 q3 c1 c2 c3 c4 c5 c6 hown hB3 hBn l0 l1 l2 l3 l4 l5 hBL hB2 hxe
    obtain ⟨k, gg, cc, xs, e0, e1, e2, e3, e4, e5, ⟨hk1, hkn, hxl, rfl, rfl⟩, HE, HX, q0, q1, q2, q3, x0, x1, x2, x3, x4, x5, fz0, fz1, fz2, fz3, fz4, fz5, hrow, hB⟩ := hrel
    have hgg : BL + 1 ≤ gg ∧ gg < wr.heap.size := hrow.lt _ rfl
    have hs0 : w.heap.size ≤ wr.heap.size := hB.size
    have hsL : BL < wr.heap.size := by omega
    by_cases hlt : k < n
    · obtain ⟨⟨t0, t1, t2, t3, t4, t5, t6⟩, hr⟩ : ∃ m, f k = m := ⟨_, rfl⟩
      obtain ⟨q, hqk⟩ : ∃ q, k = q + 1 := ⟨k - 1, by omega⟩
      obtain ⟨pd, hpd⟩ : ∃ d, (f q).d = d := ⟨_, rfl⟩
      have d0 := keepC hB (HC.out k 0 hlt (by omega))
      rw [hr] at d0
      rw [Nat.add_zero] at d0
      dsimp only [Ms.at] at d0
      have d1 := keepC hB (HC.out k 1 hlt (by omega))
      rw [hr] at d1
      dsimp only [Ms.at] at d1
      have d2 := keepC hB (HC.out k 2 hlt (by omega))
      rw [hr] at d2
      dsimp only [Ms.at] at d2
      have d3 := keepC hB (HC.out k 3 hlt (by omega))
      rw [hr] at d3
      dsimp only [Ms.at] at d3
      have d4 := keepC hB (HC.out k 4 hlt (by omega))
      rw [hr] at d4
      dsimp only [Ms.at] at d4
      have d5 := keepC hB (HC.out k 5 hlt (by omega))
      rw [hr] at d5
      dsimp only [Ms.at] at d5
      have d6 := keepC hB (HC.out k 6 hlt (by omega))
      rw [hr] at d6
      dsimp only [Ms.at] at d6
      have p0 := keepC hB (HC.out q 0 (by omega) (by omega))
      rw [Nat.add_zero] at p0
      dsimp only [Ms.at] at p0
      rw [hpd] at p0
      have hkq : k - 1 = q := by omega
      obtain ⟨hdk, hmk, hdd⟩ := HF.out k hlt
      obtain ⟨hdq, -, -⟩ := HF.out q (by omega)
      have hdd := hdd (by omega)
      rw [hkq] at hdd
      rw [hr, hpd] at hdd
      rw [hr] at hdk hmk
      rw [hpd] at hdq
      dsimp only at hdk hdd
      have hfs : folS r f k = ⟨r.a0, r.a1, r.g0, r.g1, t0 - pd⟩ := by unfold folS; rw [hkq, hr, hpd]
      obtain ⟨⟨y0, y1, y2, y3, y4, y5⟩, hy⟩ : ∃ y, stW ⟨e0, e1, e2, e3, e4, e5⟩ (folS r f k) = y := ⟨_, rfl⟩
      obtain ⟨ea, hea⟩ : ∃ e, stE ⟨e0, e1, e2, e3, e4, e5⟩ (folS r f k) = e := ⟨_, rfl⟩
      obtain ⟨⟨z0, z1, z2, z3, z4, z5⟩, hz⟩ : ∃ z, folX r f k ⟨e0, e1, e2, e3, e4, e5⟩ = z := ⟨_, rfl⟩
      obtain ⟨bb, hbb⟩ : ∃ z, Wn.isB ⟨z0, z1, z2, z3, z4, z5⟩ = z := ⟨_, rfl⟩
      have hd : folD r f k ⟨e0, e1, e2, e3, e4, e5⟩ = (if ea ≠ 0 then ea else if bb = true then 0 else 13) := by unfold folD; rw [hea, hz, hbb]
      have HS := Lib.hid (fol_step r f n k hlt ⟨e0, e1, e2, e3, e4, e5⟩ ⟨z0, z1, z2, z3, z4, z5⟩ _ hz hd)
      have HA : Hid (∀ w : World, Calls Try.prog 66 #[.agg #[.int .i64 e0, .int .i64 e1, .int .i64 e2, .int .i64 e3, .int .i64 e4, .int .i64 e5], .agg #[.int .i64 r.a0, .int .i64 r.a1, .int .i64 r.g0, .int .i64 r.g1], .int .i64 (t0 - pd)] w fun e w' => e = .returned (.tuple #[.agg #[.int .i64 y0, .int .i64 y1, .int .i64 y2, .int .i64 y3, .int .i64 y4, .int .i64 y5], .int .i64 ea]) ∧ Below w.heap.size w w') := Lib.hid fun w => by
        have := chk_any ⟨e0, e1, e2, e3, e4, e5⟩ (folS r f k) HX.out (by rw [hfs]; exact HR.out) (by rw [hfs]; dsimp only; omega) (by rw [hfs]; dsimp only; omega) w
        rw [hy, hea, hfs] at this
        exact this
      have HK : Hid (∀ w : World, Calls Try.prog 67 #[.agg #[.int .i64 y0, .int .i64 y1, .int .i64 y2, .int .i64 y3, .int .i64 y4, .int .i64 y5], .agg #[.int .i64 t1, .int .i64 t2, .int .i64 t3, .int .i64 t4, .int .i64 t5, .int .i64 t6]] w fun e w' => e = .returned (.tuple #[.agg #[.int .i64 z0, .int .i64 z1, .int .i64 z2, .int .i64 z3, .int .i64 z4, .int .i64 z5], .bool bb]) ∧ Below w.heap.size w w') := Lib.hid fun w => by
        have := flCommon_any ⟨y0, y1, y2, y3, y4, y5⟩ ⟨t1, t2, t3, t4, t5, t6⟩ w
        have e : Wn.com ⟨y0, y1, y2, y3, y4, y5⟩ ⟨t1, t2, t3, t4, t5, t6⟩ = ⟨z0, z1, z2, z3, z4, z5⟩ := by rw [← hz, folX, hy, hr]; rfl
        rw [e, hbb] at this
        exact this
      have HZ : Hid (bb = true → Wn.err ⟨z0, z1, z2, z3, z4, z5⟩ = 0) := Lib.hid fun hb => by
        have e : Wn.com ⟨y0, y1, y2, y3, y4, y5⟩ ⟨t1, t2, t3, t4, t5, t6⟩ = ⟨z0, z1, z2, z3, z4, z5⟩ := by rw [← hz, folX, hy, hr]; rfl
        have := com_right (x := ⟨y0, y1, y2, y3, y4, y5⟩) hmk (by show (Wn.com ⟨y0, y1, y2, y3, y4, y5⟩ ⟨t1, t2, t3, t4, t5, t6⟩).isB = true; rw [e, hbb]; exact hb)
        exact e ▸ this
      have hw1 : IntKind.i64.wrap ((k : Int) - 1) = (q : Int) := by rw [show (k : Int) - 1 = q by omega]; exact IntWalk.i64_in _ (by omega)
      have hw2 : IntKind.i64.wrap (t0 - pd) = t0 - pd := IntWalk.i64_in _ (by omega)
      have hk0 : (0 : Int) ≤ (k : Int) := by omega
      have hk2 : (k : Int) < (n : Int) := by omega
      have hq0 : (0 : Int) ≤ (q : Int) := by omega
      have hq2 : (q : Int) < (n : Int) := by omega
      have hq3 : q < n := by omega
      clear hr hpd hdk hmk hdd hdq hfs hy hea hz hbb hd hkq hqk
      go_wp2_with fail
      refine nameWorld (fun w' => w'.cell? ⟨w.heap.size, 0, none⟩ = some (.int .i64 r.a0) ∧ w'.cell? ⟨w.heap.size, 1, none⟩ = some (.int .i64 r.a1) ∧ w'.cell? ⟨w.heap.size, 2, none⟩ = some (.int .i64 r.g0) ∧ w'.cell? ⟨w.heap.size, 3, none⟩ = some (.int .i64 r.g1) ∧ w'.cell? ⟨BL, 0, none⟩ = some (.int .i64 e0) ∧ w'.cell? ⟨BL, 1, none⟩ = some (.int .i64 e1) ∧ w'.cell? ⟨BL, 2, none⟩ = some (.int .i64 e2) ∧ w'.cell? ⟨BL, 3, none⟩ = some (.int .i64 e3) ∧ w'.cell? ⟨BL, 4, none⟩ = some (.int .i64 e4) ∧ w'.cell? ⟨BL, 5, none⟩ = some (.int .i64 e5) ∧ w'.frozen? ⟨BL, 0, none⟩ = false ∧ w'.frozen? ⟨BL, 1, none⟩ = false ∧ w'.frozen? ⟨BL, 2, none⟩ = false ∧ w'.frozen? ⟨BL, 3, none⟩ = false ∧ w'.frozen? ⟨BL, 4, none⟩ = false ∧ w'.frozen? ⟨BL, 5, none⟩ = false ∧ w'.ownsRow (BL + 1) 27 6 (.slice (some ⟨gg, 0, none⟩) k cc) k (xs.flatMap Wn.cells) ∧ Below w.heap.size w w' ∧ w'.cell? ⟨b, off + k * 7, none⟩ = some (.int .i64 t0) ∧ w'.cell? ⟨b, off + k * 7 + 1, none⟩ = some (.int .i64 t1) ∧ w'.cell? ⟨b, off + k * 7 + 2, none⟩ = some (.int .i64 t2) ∧ w'.cell? ⟨b, off + k * 7 + 3, none⟩ = some (.int .i64 t3) ∧ w'.cell? ⟨b, off + k * 7 + 4, none⟩ = some (.int .i64 t4) ∧ w'.cell? ⟨b, off + k * 7 + 5, none⟩ = some (.int .i64 t5) ∧ w'.cell? ⟨b, off + k * 7 + 6, none⟩ = some (.int .i64 t6) ∧ w'.cell? ⟨b, off + q * 7, none⟩ = some (.int .i64 pd)) ⟨q0, q1, q2, q3, x0, x1, x2, x3, x4, x5, fz0, fz1, fz2, fz3, fz4, fz5, hrow, hB, d0, d1, d2, d3, d4, d5, d6, p0⟩ (fun wc hc => ?_)
      clear q0 q1 q2 q3 x0 x1 x2 x3 x4 x5 fz0 fz1 fz2 fz3 fz4 fz5 hrow hB d0 d1 d2 d3 d4 d5 d6 p0
      obtain ⟨q0, q1, q2, q3, x0, x1, x2, x3, x4, x5, fz0, fz1, fz2, fz3, fz4, fz5, hrow, hB, d0, d1, d2, d3, d4, d5, d6, p0⟩ := hc
      have hsc : BL < wc.heap.size := World.block_lt_of_cell? wc _ x0
      have hgc : gg < wc.heap.size := (hrow.lt _ rfl).2
      refine regionX 18 1 [17] [] (by kernel_rfl) (by kernel_rfl) (by kernel_rfl) (by kernel_rfl) (by decide) (fun _ _ d _ _ h => by cases d <;> exact h) ?_
      intro R hR
      simp only [List.take_succ_cons, List.take_zero]
      iterate 18 (first | (refine headP_val ?_ (by rfl) (by rfl) (fun w' hw' => ?_) ?_; rotate_left; (focus (have y0 := keepC hw' x0; have y1 := keepC hw' x1; have y2 := keepC hw' x2; have y3 := keepC hw' x3; have y4 := keepC hw' x4; have y5 := keepC hw' x5; have y6 := keepC hw' q0; have y7 := keepC hw' q1; have y8 := keepC hw' q2; have y9 := keepC hw' q3; have y10 := keepC hw' d0; have y11 := keepC hw' p0; first | (refine onlyMakes_val ?_; first | (go_simp; done) | (go_simp; with_reducible rfl)) | (apply onlyMakes_call; (first | (go_simp; done) | (go_simp; exact ⟨rfl, rfl⟩) | (go_simp; with_reducible rfl)); first | (with_reducible exact HA.out _)))); (try dsimp only); (try simp only [Act.put, List.setIfInBounds_toArray, List.set_cons_zero, List.set_cons_succ])) | (refine headP_pure ?_ (by rfl) (by rfl) (fun w' => ?_) ?_; rotate_left; (focus ((first | (go_simp; done) | (go_simp; with_reducible rfl)))); (try dsimp only); (try simp only [Act.put, List.setIfInBounds_toArray, List.set_cons_zero, List.set_cons_succ])) | (refine headP_skip (by rfl) ?_; (try dsimp only); (try simp only [Act.put, List.setIfInBounds_toArray, List.set_cons_zero, List.set_cons_succ])))
      refine headP_nil (hR.out _ ?_)
      refine AnyZ.one_alloc 18 (obj := .cells #[.int .i64 0, .int .i64 0, .int .i64 0, .int .i64 0, .int .i64 0, .int .i64 0] 95) (by kernel_rfl) rfl (by decide) ⟨rfl, fun w' hw' => ?_⟩ (fun w1 hw1 => ?_)
      · first | (go_simp; done) | (go_simp; with_reducible rfl) | (go_simp; exact ⟨rfl, rfl⟩)
      refine AnyZ.last 19 (by kernel_rfl) (by decide) (fun w2 hw2 => ?_)
      refine wpAny_one 19 (by kernel_rfl) rfl rfl ?_
      have n0 := (newHeld hw2 0 _ rfl)
      have n1 := (newHeld hw2 1 _ rfl)
      have n2 := (newHeld hw2 2 _ rfl)
      have n3 := (newHeld hw2 3 _ rfl)
      have n4 := (newHeld hw2 4 _ rfl)
      have n5 := (newHeld hw2 5 _ rfl)
      have hX : Below wc.heap.size wc w2 := belowSeq hw2 (hw1.alloc hw1.size _)
      have hsz : wc.heap.size ≤ w1.heap.size := hw1.size
      clear hR hw1
      (try simp only [List.getElem_toArray, List.getElem_cons_succ, List.getElem_cons_zero])
      (try simp only [Act.put, List.setIfInBounds_toArray, List.set_cons_succ, List.set_cons_zero])
      unfold Oper.wp
      go_simp
      refine wpAny_one 20 (by kernel_rfl) rfl rfl ?_
      (try simp only [List.getElem_toArray, List.getElem_cons_succ, List.getElem_cons_zero])
      (try simp only [Act.put, List.setIfInBounds_toArray, List.set_cons_succ, List.set_cons_zero])
      unfold Oper.wp
      go_simp
      refine wpAny_done (by kernel_rfl) ?_
      go_upto_region 13 with fail
      obtain ⟨s0, s1, s2, s3, s4, s5⟩ := set6 n0.1 n1.1 n2.1 n3.1 n4.1 n5.1 (.int .i64 y0) (.int .i64 y1) (.int .i64 y2) (.int .i64 y3) (.int .i64 y4) (.int .i64 y5)
      have hY := sixBelow hX hsz y0 y1 y2 y3 y4 y5
      obtain ⟨BY, hBY⟩ : ∃ B, w1.heap.size = B := ⟨_, rfl⟩
      rw [hBY] at s0 s1 s2 s3 s4 s5 hY hsz ⊢
      refine nameWorld (fun w' => w'.cell? ⟨w.heap.size, 0, none⟩ = some (.int .i64 r.a0) ∧ w'.cell? ⟨w.heap.size, 1, none⟩ = some (.int .i64 r.a1) ∧ w'.cell? ⟨w.heap.size, 2, none⟩ = some (.int .i64 r.g0) ∧ w'.cell? ⟨w.heap.size, 3, none⟩ = some (.int .i64 r.g1) ∧ w'.cell? ⟨BL, 0, none⟩ = some (.int .i64 e0) ∧ w'.cell? ⟨BL, 1, none⟩ = some (.int .i64 e1) ∧ w'.cell? ⟨BL, 2, none⟩ = some (.int .i64 e2) ∧ w'.cell? ⟨BL, 3, none⟩ = some (.int .i64 e3) ∧ w'.cell? ⟨BL, 4, none⟩ = some (.int .i64 e4) ∧ w'.cell? ⟨BL, 5, none⟩ = some (.int .i64 e5) ∧ w'.frozen? ⟨BL, 0, none⟩ = false ∧ w'.frozen? ⟨BL, 1, none⟩ = false ∧ w'.frozen? ⟨BL, 2, none⟩ = false ∧ w'.frozen? ⟨BL, 3, none⟩ = false ∧ w'.frozen? ⟨BL, 4, none⟩ = false ∧ w'.frozen? ⟨BL, 5, none⟩ = false ∧ w'.ownsRow (BL + 1) 27 6 (.slice (some ⟨gg, 0, none⟩) k cc) k (xs.flatMap Wn.cells) ∧ Below w.heap.size w w' ∧ w'.cell? ⟨b, off + k * 7, none⟩ = some (.int .i64 t0) ∧ w'.cell? ⟨b, off + k * 7 + 1, none⟩ = some (.int .i64 t1) ∧ w'.cell? ⟨b, off + k * 7 + 2, none⟩ = some (.int .i64 t2) ∧ w'.cell? ⟨b, off + k * 7 + 3, none⟩ = some (.int .i64 t3) ∧ w'.cell? ⟨b, off + k * 7 + 4, none⟩ = some (.int .i64 t4) ∧ w'.cell? ⟨b, off + k * 7 + 5, none⟩ = some (.int .i64 t5) ∧ w'.cell? ⟨b, off + k * 7 + 6, none⟩ = some (.int .i64 t6) ∧ w'.cell? ⟨b, off + q * 7, none⟩ = some (.int .i64 pd) ∧ w'.cell? ⟨BY, 0, none⟩ = some (.int .i64 y0) ∧ w'.cell? ⟨BY, 1, none⟩ = some (.int .i64 y1) ∧ w'.cell? ⟨BY, 2, none⟩ = some (.int .i64 y2) ∧ w'.cell? ⟨BY, 3, none⟩ = some (.int .i64 y3) ∧ w'.cell? ⟨BY, 4, none⟩ = some (.int .i64 y4) ∧ w'.cell? ⟨BY, 5, none⟩ = some (.int .i64 y5)) ⟨keepC hY q0, keepC hY q1, keepC hY q2, keepC hY q3, keepC hY x0, keepC hY x1, keepC hY x2, keepC hY x3, keepC hY x4, keepC hY x5, keepF hY x0 fz0, keepF hY x1 fz1, keepF hY x2 fz2, keepF hY x3 fz3, keepF hY x4 fz4, keepF hY x5 fz5, rowBelow hrow hY, belowSeq hY hB, keepC hY d0, keepC hY d1, keepC hY d2, keepC hY d3, keepC hY d4, keepC hY d5, keepC hY d6, keepC hY p0, s0, s1, s2, s3, s4, s5⟩ (fun wc hc => ?_)
      clear q0 q1 q2 q3 x0 x1 x2 x3 x4 x5 fz0 fz1 fz2 fz3 fz4 fz5 hrow hB d0 d1 d2 d3 d4 d5 d6 p0 hY hX hsc hgc hw2 hBY hsz n0 n1 n2 n3 n4 n5 s0 s1 s2 s3 s4 s5
      obtain ⟨q0, q1, q2, q3, x0, x1, x2, x3, x4, x5, fz0, fz1, fz2, fz3, fz4, fz5, hrow, hB, d0, d1, d2, d3, d4, d5, d6, p0, u0, u1, u2, u3, u4, u5⟩ := hc
      have hle : w.heap.size ≤ wc.heap.size := hB.size
      by_cases h1 : ea ≠ 0
      · have hnz : (ea != 0) = true := by simpa using h1
        have H1 := Lib.hid h1
        clear h1
        go_wp2_with ((with_reducible refine bodyPost_ret (v := .tuple #[.slice none 0 0, .int .i64 (k : Int), .int .i64 ea]) ?_ rfl ?_); (simp [results, Try.results25, go_sem]); exact ⟨.inr (by obtain ⟨-, s2, s3⟩ := HS.out; obtain ⟨-, q2, q3⟩ := HE.out; rw [if_pos H1.out, if_neg H1.out] at s2 s3; rw [q2, q3, s2, s3]; exact ⟨H1.out, rfl⟩), hB⟩)
      · have h1 : ea = 0 := by simpa using h1
        subst h1
        have HS : Hid (_ ∧ _ ∧ _) := Lib.hid (by have := HS.out; rw [if_neg (show ¬ ((0 : Int) ≠ 0) by decide)] at this; exact this)
        go_wp2_with fail
        have hsc : BL < wc.heap.size := World.block_lt_of_cell? wc _ x0
        have hgc : gg < wc.heap.size := (hrow.lt _ rfl).2
        refine regionX 11 1 [10] [] (by kernel_rfl) (by kernel_rfl) (by kernel_rfl) (by kernel_rfl) (by decide) (fun _ _ d _ _ h => by cases d <;> exact h) ?_
        intro R hR
        simp only [List.take_succ_cons, List.take_zero]
        iterate 11 (first | (refine headP_val ?_ (by rfl) (by rfl) (fun w' hw' => ?_) ?_; rotate_left; (focus (have y0 := keepC hw' u0; have y1 := keepC hw' u1; have y2 := keepC hw' u2; have y3 := keepC hw' u3; have y4 := keepC hw' u4; have y5 := keepC hw' u5; have y6 := keepC hw' d1; have y7 := keepC hw' d2; have y8 := keepC hw' d3; have y9 := keepC hw' d4; have y10 := keepC hw' d5; have y11 := keepC hw' d6; first | (refine onlyMakes_val ?_; first | (go_simp; done) | (go_simp; with_reducible rfl)) | (apply onlyMakes_call; (first | (go_simp; done) | (go_simp; exact ⟨rfl, rfl⟩) | (go_simp; with_reducible rfl)); first | (with_reducible exact HK.out _)))); (try dsimp only); (try simp only [Act.put, List.setIfInBounds_toArray, List.set_cons_zero, List.set_cons_succ])) | (refine headP_pure ?_ (by rfl) (by rfl) (fun w' => ?_) ?_; rotate_left; (focus ((first | (go_simp; done) | (go_simp; with_reducible rfl)))); (try dsimp only); (try simp only [Act.put, List.setIfInBounds_toArray, List.set_cons_zero, List.set_cons_succ])) | (refine headP_skip (by rfl) ?_; (try dsimp only); (try simp only [Act.put, List.setIfInBounds_toArray, List.set_cons_zero, List.set_cons_succ])))
        refine headP_nil (hR.out _ ?_)
        refine AnyZ.one_alloc 11 (obj := .cells #[.int .i64 0, .int .i64 0, .int .i64 0, .int .i64 0, .int .i64 0, .int .i64 0] 95) (by kernel_rfl) rfl (by decide) ⟨rfl, fun w' hw' => ?_⟩ (fun w1 hw1 => ?_)
        · first | (go_simp; done) | (go_simp; with_reducible rfl) | (go_simp; exact ⟨rfl, rfl⟩)
        refine AnyZ.last 12 (by kernel_rfl) (by decide) (fun w2 hw2 => ?_)
        refine wpAny_one 12 (by kernel_rfl) rfl rfl ?_
        have n0 := (newHeld hw2 0 _ rfl)
        have n1 := (newHeld hw2 1 _ rfl)
        have n2 := (newHeld hw2 2 _ rfl)
        have n3 := (newHeld hw2 3 _ rfl)
        have n4 := (newHeld hw2 4 _ rfl)
        have n5 := (newHeld hw2 5 _ rfl)
        have hX : Below wc.heap.size wc w2 := belowSeq hw2 (hw1.alloc hw1.size _)
        have hsz : wc.heap.size ≤ w1.heap.size := hw1.size
        clear hR hw1
        (try simp only [List.getElem_toArray, List.getElem_cons_succ, List.getElem_cons_zero])
        (try simp only [Act.put, List.setIfInBounds_toArray, List.set_cons_succ, List.set_cons_zero])
        unfold Oper.wp
        go_simp
        refine wpAny_one 13 (by kernel_rfl) rfl rfl ?_
        (try simp only [List.getElem_toArray, List.getElem_cons_succ, List.getElem_cons_zero])
        (try simp only [Act.put, List.setIfInBounds_toArray, List.set_cons_succ, List.set_cons_zero])
        unfold Oper.wp
        go_simp
        refine wpAny_done (by kernel_rfl) ?_
        go_upto_region 16 with fail
        obtain ⟨s0, s1, s2, s3, s4, s5⟩ := set6 n0.1 n1.1 n2.1 n3.1 n4.1 n5.1 (.int .i64 z0) (.int .i64 z1) (.int .i64 z2) (.int .i64 z3) (.int .i64 z4) (.int .i64 z5)
        have hY := sixBelow hX hsz z0 z1 z2 z3 z4 z5
        obtain ⟨BZ, hBZ⟩ : ∃ B, w1.heap.size = B := ⟨_, rfl⟩
        rw [hBZ] at s0 s1 s2 s3 s4 s5 hY hsz ⊢
        refine nameWorld (fun w' => w'.cell? ⟨w.heap.size, 0, none⟩ = some (.int .i64 r.a0) ∧ w'.cell? ⟨w.heap.size, 1, none⟩ = some (.int .i64 r.a1) ∧ w'.cell? ⟨w.heap.size, 2, none⟩ = some (.int .i64 r.g0) ∧ w'.cell? ⟨w.heap.size, 3, none⟩ = some (.int .i64 r.g1) ∧ w'.cell? ⟨BL, 0, none⟩ = some (.int .i64 e0) ∧ w'.cell? ⟨BL, 1, none⟩ = some (.int .i64 e1) ∧ w'.cell? ⟨BL, 2, none⟩ = some (.int .i64 e2) ∧ w'.cell? ⟨BL, 3, none⟩ = some (.int .i64 e3) ∧ w'.cell? ⟨BL, 4, none⟩ = some (.int .i64 e4) ∧ w'.cell? ⟨BL, 5, none⟩ = some (.int .i64 e5) ∧ w'.frozen? ⟨BL, 0, none⟩ = false ∧ w'.frozen? ⟨BL, 1, none⟩ = false ∧ w'.frozen? ⟨BL, 2, none⟩ = false ∧ w'.frozen? ⟨BL, 3, none⟩ = false ∧ w'.frozen? ⟨BL, 4, none⟩ = false ∧ w'.frozen? ⟨BL, 5, none⟩ = false ∧ w'.ownsRow (BL + 1) 27 6 (.slice (some ⟨gg, 0, none⟩) k cc) k (xs.flatMap Wn.cells) ∧ Below w.heap.size w w' ∧ w'.cell? ⟨b, off + k * 7, none⟩ = some (.int .i64 t0) ∧ w'.cell? ⟨b, off + k * 7 + 1, none⟩ = some (.int .i64 t1) ∧ w'.cell? ⟨b, off + k * 7 + 2, none⟩ = some (.int .i64 t2) ∧ w'.cell? ⟨b, off + k * 7 + 3, none⟩ = some (.int .i64 t3) ∧ w'.cell? ⟨b, off + k * 7 + 4, none⟩ = some (.int .i64 t4) ∧ w'.cell? ⟨b, off + k * 7 + 5, none⟩ = some (.int .i64 t5) ∧ w'.cell? ⟨b, off + k * 7 + 6, none⟩ = some (.int .i64 t6) ∧ w'.cell? ⟨b, off + q * 7, none⟩ = some (.int .i64 pd) ∧ w'.cell? ⟨BZ, 0, none⟩ = some (.int .i64 z0) ∧ w'.cell? ⟨BZ, 1, none⟩ = some (.int .i64 z1) ∧ w'.cell? ⟨BZ, 2, none⟩ = some (.int .i64 z2) ∧ w'.cell? ⟨BZ, 3, none⟩ = some (.int .i64 z3) ∧ w'.cell? ⟨BZ, 4, none⟩ = some (.int .i64 z4) ∧ w'.cell? ⟨BZ, 5, none⟩ = some (.int .i64 z5)) ⟨keepC hY q0, keepC hY q1, keepC hY q2, keepC hY q3, keepC hY x0, keepC hY x1, keepC hY x2, keepC hY x3, keepC hY x4, keepC hY x5, keepF hY x0 fz0, keepF hY x1 fz1, keepF hY x2 fz2, keepF hY x3 fz3, keepF hY x4 fz4, keepF hY x5 fz5, rowBelow hrow hY, belowSeq hY hB, keepC hY d0, keepC hY d1, keepC hY d2, keepC hY d3, keepC hY d4, keepC hY d5, keepC hY d6, keepC hY p0, s0, s1, s2, s3, s4, s5⟩ (fun wc hc => ?_)
        clear q0 q1 q2 q3 x0 x1 x2 x3 x4 x5 fz0 fz1 fz2 fz3 fz4 fz5 hrow hB d0 d1 d2 d3 d4 d5 d6 p0 hY hX hsc hgc hw2 hBZ hsz n0 n1 n2 n3 n4 n5 s0 s1 s2 s3 s4 s5 u0 u1 u2 u3 u4 u5
        obtain ⟨q0, q1, q2, q3, x0, x1, x2, x3, x4, x5, fz0, fz1, fz2, fz3, fz4, fz5, hrow, hB, d0, d1, d2, d3, d4, d5, d6, p0, v0, v1, v2, v3, v4, v5⟩ := hc
        clear d0 d1 d2 d3 d4 d5 d6 p0
        have hle : w.heap.size ≤ wc.heap.size := hB.size
        cases bb with
        | false =>
          go_wp2_with ((with_reducible refine bodyPost_ret (v := .tuple #[.slice none 0 0, .int .i64 (k : Int), .int .i64 13]) ?_ rfl ?_); (simp [results, Try.results25, go_sem]); exact ⟨.inr (by obtain ⟨-, s2, s3⟩ := HS.out; obtain ⟨-, q2, q3⟩ := HE.out; rw [if_neg (by decide)] at s2 s3; rw [q2, q3, s2, s3]; exact ⟨by decide, rfl⟩), hB⟩)
        | true =>
          have hsc : BL < wc.heap.size := World.block_lt_of_cell? wc _ x0
          have hgc : gg < wc.heap.size := (hrow.lt _ rfl).2
          go_upto_region 19 with fail
          obtain ⟨s0, s1, s2, s3, s4, s5⟩ := set6 x0 x1 x2 x3 x4 x5 (.int .i64 z0) (.int .i64 z1) (.int .i64 z2) (.int .i64 z3) (.int .i64 z4) (.int .i64 z5)
          refine nameWorld (fun w' => w'.cell? ⟨w.heap.size, 0, none⟩ = some (.int .i64 r.a0) ∧ w'.cell? ⟨w.heap.size, 1, none⟩ = some (.int .i64 r.a1) ∧ w'.cell? ⟨w.heap.size, 2, none⟩ = some (.int .i64 r.g0) ∧ w'.cell? ⟨w.heap.size, 3, none⟩ = some (.int .i64 r.g1) ∧ w'.cell? ⟨BL, 0, none⟩ = some (.int .i64 z0) ∧ w'.cell? ⟨BL, 1, none⟩ = some (.int .i64 z1) ∧ w'.cell? ⟨BL, 2, none⟩ = some (.int .i64 z2) ∧ w'.cell? ⟨BL, 3, none⟩ = some (.int .i64 z3) ∧ w'.cell? ⟨BL, 4, none⟩ = some (.int .i64 z4) ∧ w'.cell? ⟨BL, 5, none⟩ = some (.int .i64 z5) ∧ w'.frozen? ⟨BL, 0, none⟩ = false ∧ w'.frozen? ⟨BL, 1, none⟩ = false ∧ w'.frozen? ⟨BL, 2, none⟩ = false ∧ w'.frozen? ⟨BL, 3, none⟩ = false ∧ w'.frozen? ⟨BL, 4, none⟩ = false ∧ w'.frozen? ⟨BL, 5, none⟩ = false ∧ w'.ownsRow (BL + 1) 27 6 (.slice (some ⟨gg, 0, none⟩) k cc) k (xs.flatMap Wn.cells) ∧ Below w.heap.size w w' ∧ BL < w'.heap.size ∧ gg < w'.heap.size) ⟨(sixApart (by omega) z0 z1 z2 z3 z4 z5).trans q0, (sixApart (by omega) z0 z1 z2 z3 z4 z5).trans q1, (sixApart (by omega) z0 z1 z2 z3 z4 z5).trans q2, (sixApart (by omega) z0 z1 z2 z3 z4 z5).trans q3, s0, s1, s2, s3, s4, s5, (sixFroz _ z0 z1 z2 z3 z4 z5).trans fz0, (sixFroz _ z0 z1 z2 z3 z4 z5).trans fz1, (sixFroz _ z0 z1 z2 z3 z4 z5).trans fz2, (sixFroz _ z0 z1 z2 z3 z4 z5).trans fz3, (sixFroz _ z0 z1 z2 z3 z4 z5).trans fz4, (sixFroz _ z0 z1 z2 z3 z4 z5).trans fz5, sixRow hrow (by omega) z0 z1 z2 z3 z4 z5, sixBelow hB (by omega) z0 z1 z2 z3 z4 z5, by simp only [World.size_setCell]; exact hsc, by simp only [World.size_setCell]; exact hgc⟩ (fun wc hc => ?_)
          clear q0 q1 q2 q3 x0 x1 x2 x3 x4 x5 fz0 fz1 fz2 fz3 fz4 fz5 hrow hB v0 v1 v2 v3 v4 v5 s0 s1 s2 s3 s4 s5 hsc hgc hle
          obtain ⟨q0, q1, q2, q3, x0, x1, x2, x3, x4, x5, fz0, fz1, fz2, fz3, fz4, fz5, hrow, hB, hsc, hgc⟩ := hc
          have hle : w.heap.size ≤ wc.heap.size := hB.size
          go_wp2_with (at_builtin; refine wpList_append_lies _ rfl (.tmp 82) (.tmp 85) 22 rfl (BL + 1) 27 i0 (.agg #[.int .i64 0, .int .i64 0, .int .i64 0, .int .i64 0, .int .i64 0, .int .i64 0]) 6 48 Try.underlying22 hi hz0 hz1 hz2 rfl (by decide) _ k (xs.flatMap Wn.cells) rfl (hrow.alloc _) ⟨wc.heap.size, 0, none⟩ 1 1 [.int .i64 z0, .int .i64 z1, .int .i64 z2, .int .i64 z3, .int .i64 z4, .int .i64 z5] rfl rfl ?n1 ?n2 (by decide) (by unfold maxLen; omega) (by omega) (by rw [World.size_alloc]; omega) _ rfl ?grow)
          first
          | (case n1 => exact fun j u h => World.news_of_block (heap_alloc_new wc _) j u h)
          | skip
          case n2 => exact ⟨rfl, rfl, rfl, rfl, rfl, rfl⟩
          case grow =>
            intro g cap w9 hown9 hgrow hat hlt9
            have far : ∀ s i, s < wc.heap.size → s ≠ gg → w9.cell? ⟨s, i, none⟩ = (wc.alloc _).cell? ⟨s, i, none⟩ := fun s i h1 h2 => hgrow.cell_far _ (by rw [World.size_alloc]; exact Nat.lt_succ_of_lt h1) (fun e => h2 (Option.some.inj e))
            have farF : ∀ s i, s < wc.heap.size → s ≠ gg → w9.frozen? ⟨s, i, none⟩ = (wc.alloc _).frozen? ⟨s, i, none⟩ := fun s i h1 h2 => hgrow.frozen_far _ (by rw [World.size_alloc]; exact Nat.lt_succ_of_lt h1) (fun e => h2 (Option.some.inj e))
            have hal := (Below.refl wc.heap.size wc).alloc (Nat.le_refl _) (.cells #[.int .i64 z0, .int .i64 z1, .int .i64 z2, .int .i64 z3, .int .i64 z4, .int .i64 z5] 27)
            have hB9 : Below w.heap.size w w9 := (hB.alloc hle _).grown hgrow (by rw [World.size_alloc]; omega) (fun j e => by cases e; exact (by omega : w.heap.size ≤ gg))
            have Q0 := (far w.heap.size 0 (by omega) (by omega)).trans (keepC hal q0)
            have Q1 := (far w.heap.size 1 (by omega) (by omega)).trans (keepC hal q1)
            have Q2 := (far w.heap.size 2 (by omega) (by omega)).trans (keepC hal q2)
            have Q3 := (far w.heap.size 3 (by omega) (by omega)).trans (keepC hal q3)
            have X0 := (far BL 0 (by omega) (by omega)).trans (keepC hal x0)
            have F0 := (farF BL 0 (by omega) (by omega)).trans (keepF hal x0 fz0)
            have X1 := (far BL 1 (by omega) (by omega)).trans (keepC hal x1)
            have F1 := (farF BL 1 (by omega) (by omega)).trans (keepF hal x1 fz1)
            have X2 := (far BL 2 (by omega) (by omega)).trans (keepC hal x2)
            have F2 := (farF BL 2 (by omega) (by omega)).trans (keepF hal x2 fz2)
            have X3 := (far BL 3 (by omega) (by omega)).trans (keepC hal x3)
            have F3 := (farF BL 3 (by omega) (by omega)).trans (keepF hal x3 fz3)
            have X4 := (far BL 4 (by omega) (by omega)).trans (keepC hal x4)
            have F4 := (farF BL 4 (by omega) (by omega)).trans (keepF hal x4 fz4)
            have X5 := (far BL 5 (by omega) (by omega)).trans (keepC hal x5)
            have F5 := (farF BL 5 (by omega) (by omega)).trans (keepF hal x5 fz5)
            clear q0 q1 q2 q3 x0 x1 x2 x3 x4 x5 fz0 fz1 fz2 fz3 fz4 fz5 hrow hB far farF hal hgrow
            go_wp2_with fail
            go_roundw
            case rel =>
              obtain ⟨s1, s2, s3⟩ := HS.out
              obtain ⟨q1, q2, q3⟩ := HE.out
              simp only [if_true, eq_self] at s1 s2 s3
              exact ⟨k + 1, g, cap, xs ++ [⟨z0, z1, z2, z3, z4, z5⟩], z0, z1, z2, z3, z4, z5, ⟨by omega, by omega, by simp [hxl], by go_num, rfl⟩, Lib.hid ⟨by rw [q1, s1]; simp, q2.trans s2, q3.trans s3⟩, Lib.hid (HZ.out (by trivial)), Q0, Q1, Q2, Q3, X0, X1, X2, X3, X4, X5, F0, F1, F2, F3, F4, F5, by rw [List.flatMap_append]; exact hown9, hB9⟩
            case measure => simp [intOf]; omega
    · have e : k = n := by omega
      obtain ⟨q1, q2, q3⟩ := HE.out
      rw [e, Nat.sub_self] at q1 q2 q3
      rw [show folL r f 0 n ⟨e0, e1, e2, e3, e4, e5⟩ = [] from rfl, List.append_nil] at q1
      have QL := Lib.hid q1
      have QE := Lib.hid q3
      clear q1 q2 q3
      obtain rfl := e
      go_wp2_with ((with_reducible refine bodyPost_ret (v := .tuple #[.slice (some ⟨gg, 0, none⟩) k cc, .int .i64 0, .int .i64 0]) ?_ rfl ?_); (simp [results, Try.results25, go_sem]); exact ⟨.inl ⟨QE.out, cc, gg, by rw [QL.out, hxl], fun i j hi hj => by rw [QL.out] at hi ⊢; rw [hrow.cellAt _ (by rw [hxl] at hi; omega)]; exact flat_at xs i j hi hj⟩, hB⟩)
end Go.Proofs.Ytpccfjdgnmmfoaa
