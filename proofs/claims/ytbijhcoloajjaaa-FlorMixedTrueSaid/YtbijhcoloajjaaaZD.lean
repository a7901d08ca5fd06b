import Derived.Test.YtbijhcoloajjaaaZC
import Derived.Test.YtbijhcoloajjaaaZB
import Derived.OwnWalk
import Derived.Laws.OwnMore
import Derived.Deep.AppendLies
/- flor's Mixed. -/
namespace Go.Proofs.Ytbijhcoloajjaaa
open Go.RowKit

theorem rowBelowZ {B : Nat} {e : TypeId} {k : Nat} {v : Value} {n : Nat} {xs : List Value} {w w' : World} (h : w.ownsRow B e k v n xs) (hb : Below w.heap.size w w') : w'.ownsRow B e k v n xs :=
  h.kept (row := none) ⟨hb.os, hb.tape, hb.output, hb.size, fun j hj _ => hb.block j hj⟩ (by cases hv : v.ownBlock <;> simp)
theorem flat_atZ : ∀ (xs : List Wn) (i j : Nat), i < xs.length → j < 6 → (xs.flatMap Wn.cells)[i * 6 + j]? = some (.int .i64 ((xs.getD i .zero).at j))
  | [], i, j, h, _ => by simp at h
  | x :: xs, 0, j, _, hj => by
    rw [List.flatMap_cons, List.getElem?_append_left (by simp [Wn.cells]; omega)]
    match j, hj with
    | 0, _ => rfl
    | 1, _ => rfl
    | 2, _ => rfl
    | 3, _ => rfl
    | 4, _ => rfl
    | 5, _ => rfl
  | x :: xs, i + 1, j, h, hj => by
    have hl : x.cells.length = 6 := rfl
    rw [List.flatMap_cons, List.getElem?_append_right (by rw [hl]; omega), hl, show (i + 1) * 6 + j - 6 = i * 6 + j by omega]
    have := flat_atZ xs i j (by simpa using h) hj
    simpa using this
theorem wnList_at (f : Nat → Wn) (n i : Nat) (hi : i < n) : (((List.range n).map f).getD i .zero) = f i := by simp [hi]
theorem chkInfo : (Try.prog.info? 76).map (fun i => (i.zero, i.size, i.bytes)) = some (some (.agg #[.int .i64 0, .int .i64 0, .int .i64 0, .int .i64 0, .int .i64 0, .int .i64 0]), 6, 48) := by kernel_rfl
def mix0 (n : Nat) : Int := firstE (unlE (decide (0 < n)) 10) (unlE (decide ((n : Int) ≤ 8)) 8) 0
/-- the first wrong wine's error -/
def mixB (f : Nat → Wn) : Nat → Nat → Int
  | 0, _ => 0
  | m + 1, k => if (f k).err = 0 then mixB f m (k + 1) else (f k).err
def mixV (f : Nat → Wn) (n : Nat) : Int := firstE (unlE (decide (0 < vHi f n)) 25) (unlE (decide (vHi f n ≤ 100000)) 8) 0
def mixE (f : Nat → Wn) (n : Nat) : Int := if mix0 n ≠ 0 then mix0 n else if mixB f n 0 ≠ 0 then mixB f n 0 else mixV f n
def mixW (f : Nat → Wn) (n : Nat) : Wn := ⟨vLo f n, vHi f n, loF f Wn.s0 n (choices f n (2 ^ n)), hiF f Wn.s1 n (choices f n (2 ^ n)), loF f Wn.c0 n (choices f n (2 ^ n)), hiF f Wn.c1 n (choices f n (2 ^ n))⟩
theorem mixB_step (f : Nat → Wn) (n k : Nat) (hk : k < n) : mixB f (n - k) k = (if (f k).err = 0 then mixB f (n - (k + 1)) (k + 1) else (f k).err) := by
  obtain ⟨m, hm⟩ : ∃ m, n - k = m + 1 := ⟨n - k - 1, by omega⟩
  have hm2 : n - (k + 1) = m := by omega
  rw [hm, hm2]; rfl
theorem zeroRes {w W2 : World} {t : TypeId} (h : Below (w.alloc (.cells #[.int .i64 0, .int .i64 0, .int .i64 0, .int .i64 0, .int .i64 0, .int .i64 0] t)).heap.size (w.alloc (.cells #[.int .i64 0, .int .i64 0, .int .i64 0, .int .i64 0, .int .i64 0, .int .i64 0] t)) W2) : W2.cell? ⟨w.heap.size, 0, none⟩ = some (.int .i64 0) ∧ W2.cell? ⟨w.heap.size, 1, none⟩ = some (.int .i64 0) ∧ W2.cell? ⟨w.heap.size, 2, none⟩ = some (.int .i64 0) ∧ W2.cell? ⟨w.heap.size, 3, none⟩ = some (.int .i64 0) ∧ W2.cell? ⟨w.heap.size, 4, none⟩ = some (.int .i64 0) ∧ W2.cell? ⟨w.heap.size, 5, none⟩ = some (.int .i64 0) ∧ W2.frozen? ⟨w.heap.size, 0, none⟩ = false ∧ W2.frozen? ⟨w.heap.size, 1, none⟩ = false ∧ W2.frozen? ⟨w.heap.size, 2, none⟩ = false ∧ W2.frozen? ⟨w.heap.size, 3, none⟩ = false ∧ W2.frozen? ⟨w.heap.size, 4, none⟩ = false ∧ W2.frozen? ⟨w.heap.size, 5, none⟩ = false ∧ Below w.heap.size w W2 :=
  ⟨(newBoth rfl h 0 _ rfl).1, (newBoth rfl h 1 _ rfl).1, (newBoth rfl h 2 _ rfl).1, (newBoth rfl h 3 _ rfl).1, (newBoth rfl h 4 _ rfl).1, (newBoth rfl h 5 _ rfl).1, (newBoth rfl h 0 _ rfl).2, (newBoth rfl h 1 _ rfl).2, (newBoth rfl h 2 _ rfl).2, (newBoth rfl h 3 _ rfl).2, (newBoth rfl h 4 _ rfl).2, (newBoth rfl h 5 _ rfl).2, belowSeq h ((Below.refl _ _).alloc (Nat.le_refl _) _)⟩
set_option linter.unusedVariables false in
set_option maxRecDepth 100000 in
set_option maxHeartbeats 8000000 in
theorem mixed_none (sa : Option Addr) (n cp : Nat) (w : World) (hd : (mix0 n != 0) = true) :
    Calls Try.prog 9 #[.slice sa n cp] w fun e w' => e = .returned (.tuple #[.agg #[.int .i64 0, .int .i64 0, .int .i64 0, .int .i64 0, .int .i64 0, .int .i64 0], .int .i64 (mix0 n)]) ∧ Below w.heap.size w w' := by
  unfold mix0 at hd ⊢
  go_enter Try.func9, Try.ntmps9
  go_upto_region 3 with (first | (go_at_call 30; refine (unless_any _ _ _).mono ?_; rintro e w1 ⟨rfl, rfl⟩) | (go_at_call 29; with_reducible first | (refine Calls.mono (first2_any _ _ _ _ (newCell1 0 _ rfl) (newCell1 1 _ rfl)) ?_; rintro e w1 ⟨rfl, rfl⟩) | (refine Calls.mono (first2_any _ _ _ _ (newCellD 0 _ rfl) (newCellD 1 _ rfl)) ?_; rintro e w1 ⟨rfl, rfl⟩) | (refine Calls.mono (first2_any _ _ _ _ (newCell 0 _ rfl) (newCell 1 _ rfl)) ?_; rintro e w1 ⟨rfl, rfl⟩)))
  obtain ⟨B0, hB0⟩ : ∃ B, w.heap.size = B := ⟨_, rfl⟩
  rw [hB0]
  refine nameWorld (fun w' => w'.cell? ⟨B0, 0, none⟩ = some (.int .i64 0) ∧ w'.cell? ⟨B0, 1, none⟩ = some (.int .i64 0) ∧ w'.cell? ⟨B0, 2, none⟩ = some (.int .i64 0) ∧ w'.cell? ⟨B0, 3, none⟩ = some (.int .i64 0) ∧ w'.cell? ⟨B0, 4, none⟩ = some (.int .i64 0) ∧ w'.cell? ⟨B0, 5, none⟩ = some (.int .i64 0) ∧ w'.frozen? ⟨B0, 0, none⟩ = false ∧ w'.frozen? ⟨B0, 1, none⟩ = false ∧ w'.frozen? ⟨B0, 2, none⟩ = false ∧ w'.frozen? ⟨B0, 3, none⟩ = false ∧ w'.frozen? ⟨B0, 4, none⟩ = false ∧ w'.frozen? ⟨B0, 5, none⟩ = false ∧ Below B0 w w') ?_ (fun wc hc => ?_)
  · rw [← hB0]; exact zeroRes (t := 27) (by first | exact Below.refl _ _ | go_grown)
  obtain ⟨r0, r1, r2, r3, r4, r5, rz0, rz1, rz2, rz3, rz4, rz5, hB⟩ := hc
  obtain ⟨c0, c1, c2, c3, c4, c5⟩ := set6 (W := wc) r0 r1 r2 r3 r4 r5 (.int .i64 0) (.int .i64 0) (.int .i64 0) (.int .i64 0) (.int .i64 0) (.int .i64 0)
  go_wp2_with ((with_reducible refine bodyPost_ret (v := .tuple #[.agg #[.int .i64 0, .int .i64 0, .int .i64 0, .int .i64 0, .int .i64 0, .int .i64 0], .int .i64 (firstE (unlE (decide (0 < n)) 10) (unlE (decide ((n : Int) ≤ 8)) 8) 0)]) ?_ rfl ?_); (simp [results, Try.results9, go_sem, c0, c1, c2, c3, c4, c5]); exact ⟨rfl, by rw [hB0]; exact (((((hB.setCell (Nat.le_refl _) _).setCell (Nat.le_refl _) _).setCell (Nat.le_refl _) _).setCell (Nat.le_refl _) _).setCell (Nat.le_refl _) _).setCell (Nat.le_refl _) _⟩)
def mixR (f : Nat → Wn) (n : Nat) : Value := if mixB f n 0 ≠ 0 then .tuple #[.agg #[.int .i64 0, .int .i64 0, .int .i64 0, .int .i64 0, .int .i64 0, .int .i64 0], .int .i64 (mixB f n 0)] else if mixV f n ≠ 0 then .tuple #[.agg #[.int .i64 0, .int .i64 0, .int .i64 0, .int .i64 0, .int .i64 0, .int .i64 0], .int .i64 (mixV f n)] else .tuple #[.agg #[.int .i64 (vLo f n), .int .i64 (vHi f n), .int .i64 (loF f Wn.s0 n (choices f n (2 ^ n))), .int .i64 (hiF f Wn.s1 n (choices f n (2 ^ n))), .int .i64 (loF f Wn.c0 n (choices f n (2 ^ n))), .int .i64 (hiF f Wn.c1 n (choices f n (2 ^ n)))], .int .i64 0]
set_option linter.unusedVariables false in
set_option linter.unusedSimpArgs false in
set_option maxRecDepth 100000 in
set_option maxHeartbeats 8000000 in
theorem mixed_some (f : Nat → Wn) (b off n cp : Nat) (w : World) (h0 : 0 < n) (hn : n ≤ 8) (hc : ∀ i j, i < n → j < 6 → w.cell? ⟨b, off + i * 6 + j, none⟩ = some (.int .i64 ((f i).at j))) :
    Calls Try.prog 9 #[.slice (some ⟨b, off, none⟩) n cp] w fun e w' => e = .returned (mixR f n) ∧ Below w.heap.size w w' := by
  have HC := Lib.hid hc
  clear hc
  have hd : (mix0 n != 0) = false := by
    have : mix0 n = 0 := by unfold mix0; rw [show decide (0 < n) = true by simpa using h0, show decide ((n : Int) ≤ 8) = true by simp; omega]; rfl
    rw [this]; rfl
  unfold mix0 at hd
  have H0 := Lib.hid h0
  clear h0
  obtain ⟨i0, hi, hz0, hz1, hz2⟩ := info_parts chkInfo
  go_enter Try.func9, Try.ntmps9
  go_upto_region 4 with (first | (go_at_call 30; refine (unless_any _ _ _).mono ?_; rintro e w1 ⟨rfl, rfl⟩) | (go_at_call 29; with_reducible first | (refine Calls.mono (first2_any _ _ _ _ (newCell1 0 _ rfl) (newCell1 1 _ rfl)) ?_; rintro e w1 ⟨rfl, rfl⟩) | (refine Calls.mono (first2_any _ _ _ _ (newCellD 0 _ rfl) (newCellD 1 _ rfl)) ?_; rintro e w1 ⟨rfl, rfl⟩) | (refine Calls.mono (first2_any _ _ _ _ (newCell 0 _ rfl) (newCell 1 _ rfl)) ?_; rintro e w1 ⟨rfl, rfl⟩)))
  obtain ⟨B0, hB0⟩ : ∃ B, w.heap.size = B := ⟨_, rfl⟩
  rw [hB0]
  refine nameWorld (fun w' => w'.cell? ⟨B0, 0, none⟩ = some (.int .i64 0) ∧ w'.cell? ⟨B0, 1, none⟩ = some (.int .i64 0) ∧ w'.cell? ⟨B0, 2, none⟩ = some (.int .i64 0) ∧ w'.cell? ⟨B0, 3, none⟩ = some (.int .i64 0) ∧ w'.cell? ⟨B0, 4, none⟩ = some (.int .i64 0) ∧ w'.cell? ⟨B0, 5, none⟩ = some (.int .i64 0) ∧ w'.frozen? ⟨B0, 0, none⟩ = false ∧ w'.frozen? ⟨B0, 1, none⟩ = false ∧ w'.frozen? ⟨B0, 2, none⟩ = false ∧ w'.frozen? ⟨B0, 3, none⟩ = false ∧ w'.frozen? ⟨B0, 4, none⟩ = false ∧ w'.frozen? ⟨B0, 5, none⟩ = false ∧ Below B0 w w') ?_ (fun wc hc => ?_)
  · rw [← hB0]; exact zeroRes (t := 27) (by first | exact Below.refl _ _ | go_grown)
  obtain ⟨r0, r1, r2, r3, r4, r5, rz0, rz1, rz2, rz3, rz4, rz5, hB⟩ := hc
  have h0 := H0.out
  have hn1 : (0 : Int) < (n : Int) := by omega
  have hn2 : (n : Int) ≤ 8 := by omega
  have hsc : B0 < wc.heap.size := World.block_lt_of_cell? wc _ r0
  clear hd
  go_upto_region 5 with (at_make; refine wpList_make_own _ rfl _ _ 73 rfl (B0 + 1) 76 i0 (.agg #[.int .i64 0, .int .i64 0, .int .i64 0, .int .i64 0, .int .i64 0, .int .i64 0]) 6 Try.underlying73 hi hz0 hz1 .i64 .i64 (n : Int) n rfl rfl rfl (by rw [hz2]; omega) (by unfold maxLen; omega) (by omega) ?_; intro w1 hrow hgrow)
  have hbg : Below wc.heap.size wc w1 := (Below.refl _ _).grown hgrow (Nat.le_refl _) (fun k e => by cases e)
  go_wp2_with fail
  go_loopw [30, 5] (fun i v wr => ∃ (k g cc : Nat), (k ≤ n ∧ i = .int .i64 k ∧ v = .slice (some ⟨g, 0, none⟩) k cc) ∧ Hid (mixB f n 0 = mixB f (n - k) k ∧ ∀ j, j < k → (f j).err = 0) ∧ wr.cell? ⟨B0, 0, none⟩ = some (.int .i64 0) ∧ wr.cell? ⟨B0, 1, none⟩ = some (.int .i64 0) ∧ wr.cell? ⟨B0, 2, none⟩ = some (.int .i64 0) ∧ wr.cell? ⟨B0, 3, none⟩ = some (.int .i64 0) ∧ wr.cell? ⟨B0, 4, none⟩ = some (.int .i64 0) ∧ wr.cell? ⟨B0, 5, none⟩ = some (.int .i64 0) ∧ wr.frozen? ⟨B0, 0, none⟩ = false ∧ wr.frozen? ⟨B0, 1, none⟩ = false ∧ wr.frozen? ⟨B0, 2, none⟩ = false ∧ wr.frozen? ⟨B0, 3, none⟩ = false ∧ wr.frozen? ⟨B0, 4, none⟩ = false ∧ wr.frozen? ⟨B0, 5, none⟩ = false ∧ wr.ownsRow (B0 + 1) 76 6 (.slice (some ⟨g, 0, none⟩) k cc) k (((List.range k).map f).flatMap Wn.cells) ∧ Below B0 w wr)
    (fun i _ _ => n - (intOf i).toNat)
  case atStart =>
    exact ⟨0, wc.heap.size, n, ⟨Nat.zero_le _, rfl, rfl⟩, Lib.hid ⟨rfl, fun j h => absurd h (Nat.not_lt_zero _)⟩, keepC hbg r0, keepC hbg r1, keepC hbg r2, keepC hbg r3, keepC hbg r4, keepC hbg r5, keepF hbg r0 rz0, keepF hbg r1 rz1, keepF hbg r2 rz2, keepF hbg r3 rz3, keepF hbg r4 rz4, keepF hbg r5 rz5, hrow, hB.trans (hbg.mono (by omega))⟩
  case round =>
    clear r0 r1 r2 r3 r4 r5 rz0 rz1 rz2 rz3 rz4 rz5 hrow hB hgrow hbg hsc
    obtain ⟨k, g, cc, ⟨hk, rfl, rfl⟩, HE, r0, r1, r2, r3, r4, r5, rz0, rz1, rz2, rz3, rz4, rz5, hrow, hB⟩ := hrel
    have hgg : B0 + 1 ≤ g ∧ g < wr.heap.size := hrow.lt _ rfl
    by_cases hlt : k < n
    · obtain ⟨⟨x0, x1, x2, x3, x4, x5⟩, hx⟩ : ∃ x, f k = x := ⟨_, rfl⟩
      have d0 := keepC (show Below w.heap.size w wr by rw [hB0]; exact hB) (HC.out k 0 hlt (by decide))
      rw [hx] at d0
      rw [Nat.add_zero] at d0
      dsimp only [Wn.at] at d0
      have d1 := keepC (show Below w.heap.size w wr by rw [hB0]; exact hB) (HC.out k 1 hlt (by decide))
      rw [hx] at d1
      dsimp only [Wn.at] at d1
      have d2 := keepC (show Below w.heap.size w wr by rw [hB0]; exact hB) (HC.out k 2 hlt (by decide))
      rw [hx] at d2
      dsimp only [Wn.at] at d2
      have d3 := keepC (show Below w.heap.size w wr by rw [hB0]; exact hB) (HC.out k 3 hlt (by decide))
      rw [hx] at d3
      dsimp only [Wn.at] at d3
      have d4 := keepC (show Below w.heap.size w wr by rw [hB0]; exact hB) (HC.out k 4 hlt (by decide))
      rw [hx] at d4
      dsimp only [Wn.at] at d4
      have d5 := keepC (show Below w.heap.size w wr by rw [hB0]; exact hB) (HC.out k 5 hlt (by decide))
      rw [hx] at d5
      dsimp only [Wn.at] at d5
      obtain ⟨ee, hee⟩ : ∃ e, wineE x0 x1 x2 x3 x4 x5 = e := ⟨_, rfl⟩
      have HS : Hid (mixB f (n - k) k = if ee = 0 then mixB f (n - (k + 1)) (k + 1) else ee) := Lib.hid (by have := mixB_step f n k hlt; rw [hx] at this; rw [← hee]; exact this)
      have HE0 := Lib.hid hee
      have HX := Lib.hid hx
      clear hx hee
      have hk0 : (0 : Int) ≤ (k : Int) := by omega
      have hk1 : (k : Int) < (n : Int) := by omega
      go_upto_region 9 with (go_at_call 31; refine (florCheckWine_any _ _ _ _ _ _ _).mono ?_; rintro e w1 ⟨rfl, hb1⟩; rw [HE0.out])
      have hbw := belowSeq hb1 ((Below.refl _ wr).alloc (Nat.le_refl _) _)
      obtain ⟨BW, hBW⟩ : ∃ B, wr.heap.size = B := ⟨_, rfl⟩
      rw [hBW]
      refine nameWorld (fun w' => w'.cell? ⟨BW, 0, none⟩ = some (.int .i64 x0) ∧ w'.cell? ⟨BW, 1, none⟩ = some (.int .i64 x1) ∧ w'.cell? ⟨BW, 2, none⟩ = some (.int .i64 x2) ∧ w'.cell? ⟨BW, 3, none⟩ = some (.int .i64 x3) ∧ w'.cell? ⟨BW, 4, none⟩ = some (.int .i64 x4) ∧ w'.cell? ⟨BW, 5, none⟩ = some (.int .i64 x5) ∧ w'.cell? ⟨B0, 0, none⟩ = some (.int .i64 0) ∧ w'.cell? ⟨B0, 1, none⟩ = some (.int .i64 0) ∧ w'.cell? ⟨B0, 2, none⟩ = some (.int .i64 0) ∧ w'.cell? ⟨B0, 3, none⟩ = some (.int .i64 0) ∧ w'.cell? ⟨B0, 4, none⟩ = some (.int .i64 0) ∧ w'.cell? ⟨B0, 5, none⟩ = some (.int .i64 0) ∧ w'.frozen? ⟨B0, 0, none⟩ = false ∧ w'.frozen? ⟨B0, 1, none⟩ = false ∧ w'.frozen? ⟨B0, 2, none⟩ = false ∧ w'.frozen? ⟨B0, 3, none⟩ = false ∧ w'.frozen? ⟨B0, 4, none⟩ = false ∧ w'.frozen? ⟨B0, 5, none⟩ = false ∧ w'.ownsRow (B0 + 1) 76 6 (.slice (some ⟨g, 0, none⟩) k cc) k (((List.range k).map f).flatMap Wn.cells) ∧ Below B0 w w') ?_ (fun wc hc => ?_)
      · exact ⟨(newBoth hBW hb1 0 _ rfl).1, (newBoth hBW hb1 1 _ rfl).1, (newBoth hBW hb1 2 _ rfl).1, (newBoth hBW hb1 3 _ rfl).1, (newBoth hBW hb1 4 _ rfl).1, (newBoth hBW hb1 5 _ rfl).1, keepC hbw r0, keepC hbw r1, keepC hbw r2, keepC hbw r3, keepC hbw r4, keepC hbw r5, keepF hbw r0 rz0, keepF hbw r1 rz1, keepF hbw r2 rz2, keepF hbw r3 rz3, keepF hbw r4 rz4, keepF hbw r5 rz5, rowBelowZ hrow hbw, hB.trans (hbw.mono (by omega))⟩
      clear hb1 hbw d0 d1 d2 d3 d4 d5 hgg r0 r1 r2 r3 r4 r5 rz0 rz1 rz2 rz3 rz4 rz5 hrow hB
      obtain ⟨y0, y1, y2, y3, y4, y5, r0, r1, r2, r3, r4, r5, rz0, rz1, rz2, rz3, rz4, rz5, hrow, hB⟩ := hc
      have hsc : B0 < wc.heap.size := World.block_lt_of_cell? wc _ r0
      by_cases hz : ee = 0
      · have hnz : (ee != 0) = false := by rw [hz]; rfl
        have HD := Lib.hid hz
        clear hz
        have hgc : B0 + 1 ≤ g ∧ g < wc.heap.size := hrow.lt _ rfl
        go_wp2_with (at_builtin; refine wpList_append_lies _ rfl (.tmp 40) (.tmp 43) 73 rfl (B0 + 1) 76 i0 (.agg #[.int .i64 0, .int .i64 0, .int .i64 0, .int .i64 0, .int .i64 0, .int .i64 0]) 6 48 Try.underlying73 hi hz0 hz1 hz2 rfl (by decide) _ k (((List.range k).map f).flatMap Wn.cells) rfl (hrow.alloc _) ⟨wc.heap.size, 0, none⟩ 1 1 [.int .i64 x0, .int .i64 x1, .int .i64 x2, .int .i64 x3, .int .i64 x4, .int .i64 x5] rfl rfl ?n1 ?n2 (by decide) (by unfold maxLen; omega) (by omega) (by rw [World.size_alloc]; omega) _ rfl ?grow)
        first
        | (case n1 => exact fun j u h => World.news_of_block (heap_alloc_new wc _) j u h)
        | skip
        case n2 => first | exact ⟨rfl, rfl, rfl, rfl, rfl, rfl⟩ | simp [Value.oneCell']
        case grow =>
          intro g2 cap w9 hown9 hgrow hat hlt9
          have far : ∀ s i, s < wc.heap.size → s ≠ g → w9.cell? ⟨s, i, none⟩ = (wc.alloc _).cell? ⟨s, i, none⟩ := fun s i h1 h2 => hgrow.cell_far _ (by rw [World.size_alloc]; exact Nat.lt_succ_of_lt h1) (fun e => h2 (Option.some.inj e))
          have farF : ∀ s i, s < wc.heap.size → s ≠ g → w9.frozen? ⟨s, i, none⟩ = (wc.alloc _).frozen? ⟨s, i, none⟩ := fun s i h1 h2 => hgrow.frozen_far _ (by rw [World.size_alloc]; exact Nat.lt_succ_of_lt h1) (fun e => h2 (Option.some.inj e))
          have hal := (Below.refl wc.heap.size wc).alloc (Nat.le_refl _) (.cells #[.int .i64 x0, .int .i64 x1, .int .i64 x2, .int .i64 x3, .int .i64 x4, .int .i64 x5] 76)
          have hB9 : Below B0 w w9 := (hB.alloc (by omega) _).grown hgrow (by rw [World.size_alloc]; omega) (fun j e => by cases e; exact (by omega : B0 ≤ g))
          have Q0 := (far B0 0 (by omega) (by omega)).trans (keepC hal r0)
          have F0 := (farF B0 0 (by omega) (by omega)).trans (keepF hal r0 rz0)
          have Q1 := (far B0 1 (by omega) (by omega)).trans (keepC hal r1)
          have F1 := (farF B0 1 (by omega) (by omega)).trans (keepF hal r1 rz1)
          have Q2 := (far B0 2 (by omega) (by omega)).trans (keepC hal r2)
          have F2 := (farF B0 2 (by omega) (by omega)).trans (keepF hal r2 rz2)
          have Q3 := (far B0 3 (by omega) (by omega)).trans (keepC hal r3)
          have F3 := (farF B0 3 (by omega) (by omega)).trans (keepF hal r3 rz3)
          have Q4 := (far B0 4 (by omega) (by omega)).trans (keepC hal r4)
          have F4 := (farF B0 4 (by omega) (by omega)).trans (keepF hal r4 rz4)
          have Q5 := (far B0 5 (by omega) (by omega)).trans (keepC hal r5)
          have F5 := (farF B0 5 (by omega) (by omega)).trans (keepF hal r5 rz5)
          clear r0 r1 r2 r3 r4 r5 rz0 rz1 rz2 rz3 rz4 rz5 hrow hB far farF hal hgrow
          go_wp2_with fail
          go_roundw
          case rel =>
            have e1 := HE.out.1
            have e2 := HS.out
            rw [if_pos HD.out] at e2
            exact ⟨k + 1, g2, cap, ⟨by omega, by first | rfl | go_num, rfl⟩, Lib.hid ⟨e1.trans e2, fun j hj => by by_cases e : j = k; (rw [e, HX.out]; show wineE _ _ _ _ _ _ = 0; rw [HE0.out, HD.out]); exact HE.out.2 j (by omega)⟩, Q0, Q1, Q2, Q3, Q4, Q5, F0, F1, F2, F3, F4, F5, by rw [List.range_succ, List.map_append, List.flatMap_append, List.map_singleton, HX.out]; exact hown9, hB9⟩
          case measure => simp [intOf]; omega
      · have hnz : (ee != 0) = true := by simp [hz]
        have HD := Lib.hid hz
        clear hz
        obtain ⟨c0, c1, c2, c3, c4, c5⟩ := set6 (W := wc) r0 r1 r2 r3 r4 r5 (.int .i64 0) (.int .i64 0) (.int .i64 0) (.int .i64 0) (.int .i64 0) (.int .i64 0)
        go_wp2_with ((with_reducible refine bodyPost_ret (v := .tuple #[.agg #[.int .i64 0, .int .i64 0, .int .i64 0, .int .i64 0, .int .i64 0, .int .i64 0], .int .i64 ee]) ?_ rfl ?_); (simp [results, Try.results9, go_sem, c0, c1, c2, c3, c4, c5]); exact ⟨by have e1 := HE.out.1.trans HS.out; rw [if_neg HD.out] at e1; rw [mixR, e1, if_pos HD.out], by rw [hB0]; exact (((((hB.setCell (Nat.le_refl _) _).setCell (Nat.le_refl _) _).setCell (Nat.le_refl _) _).setCell (Nat.le_refl _) _).setCell (Nat.le_refl _) _).setCell (Nat.le_refl _) _⟩)
    · have e : k = n := by omega
      have hb0 : mixB f n 0 = 0 := by rw [HE.out.1, e, Nat.sub_self]; rfl
      have hv : ∀ j, j < n → (f j).err = 0 := fun j hj => HE.out.2 j (by omega)
      subst e
      have hcell : ∀ i j, i < k → j < 6 → wr.cell? ⟨g, 0 + i * 6 + j, none⟩ = some (.int .i64 ((f i).at j)) := fun i j hi hj => by
        rw [Nat.zero_add, hrow.cellAt _ (by omega), flat_atZ _ i j (by simp; exact hi) hj, wnList_at f k i hi]
      obtain ⟨VL, hVL⟩ : ∃ x, vLo f k = x := ⟨_, rfl⟩
      obtain ⟨VH, hVH⟩ : ∃ x, vHi f k = x := ⟨_, rfl⟩
      have hvb := vLo_bd hv k (Nat.le_refl _)
      rw [hVL, hVH] at hvb
      have HVL := Lib.hid hVL
      have HVH := Lib.hid hVH
      have HB0 := Lib.hid hb0
      have HV := Lib.hid hv
      have HCE := Lib.hid hcell
      have HVOL : Hid (Calls Try.prog 32 #[.slice (some ⟨g, 0, none⟩) k cc] wr fun e w' => e = .returned (.agg #[.int .i64 VL, .int .i64 VH]) ∧ Below wr.heap.size wr w') := Lib.hid (by have := volume_any f g 0 k cc wr h0 hn hv hcell; rw [hVL, hVH] at this; exact this)
      clear hVL hVH hb0 hv hcell HE
      have hk1 : (0 : Int) < (k : Int) := by omega
      go_upto_region 14 with (go_at_call 32; (with_reducible refine Calls.mono HVOL.out ?_); rintro e w1 ⟨rfl, hb1⟩)
      have hcell := HCE.out
      have hsr : B0 < wr.heap.size := World.block_lt_of_cell? wr _ r0
      have hbw := belowSq hb1 ((Below.refl _ w1).alloc (Nat.le_refl _) (.cells #[.int .i64 VL, .int .i64 VH] 25))
      obtain ⟨BV, hBV⟩ : ∃ B, w1.heap.size = B := ⟨_, rfl⟩
      rw [hBV]
      refine nameWorld (fun w' => w'.cell? ⟨BV, 0, none⟩ = some (.int .i64 VL) ∧ w'.cell? ⟨BV, 1, none⟩ = some (.int .i64 VH) ∧ w'.cell? ⟨B0, 0, none⟩ = some (.int .i64 0) ∧ w'.cell? ⟨B0, 1, none⟩ = some (.int .i64 0) ∧ w'.cell? ⟨B0, 2, none⟩ = some (.int .i64 0) ∧ w'.cell? ⟨B0, 3, none⟩ = some (.int .i64 0) ∧ w'.cell? ⟨B0, 4, none⟩ = some (.int .i64 0) ∧ w'.cell? ⟨B0, 5, none⟩ = some (.int .i64 0) ∧ w'.frozen? ⟨B0, 0, none⟩ = false ∧ w'.frozen? ⟨B0, 1, none⟩ = false ∧ w'.frozen? ⟨B0, 2, none⟩ = false ∧ w'.frozen? ⟨B0, 3, none⟩ = false ∧ w'.frozen? ⟨B0, 4, none⟩ = false ∧ w'.frozen? ⟨B0, 5, none⟩ = false ∧ w'.ownsRow (B0 + 1) 76 6 (.slice (some ⟨g, 0, none⟩) k cc) k (((List.range k).map f).flatMap Wn.cells) ∧ Below B0 w w' ∧ Hid (∀ i j, i < k → j < 6 → w'.cell? ⟨g, 0 + i * 6 + j, none⟩ = some (.int .i64 ((f i).at j)))) ?_ (fun wc hc => ?_)
      · exact ⟨(newBoth hBV (Below.refl _ _) 0 _ rfl).1, (newBoth hBV (Below.refl _ _) 1 _ rfl).1, keepC hbw r0, keepC hbw r1, keepC hbw r2, keepC hbw r3, keepC hbw r4, keepC hbw r5, keepF hbw r0 rz0, keepF hbw r1 rz1, keepF hbw r2 rz2, keepF hbw r3 rz3, keepF hbw r4 rz4, keepF hbw r5 rz5, rowBelowZ hrow hbw, hB.trans (hbw.mono (by omega)), Lib.hid (fun i j hi hj => keepC hbw (hcell i j hi hj))⟩
      clear hb1 hbw hgg hcell HCE HVOL r0 r1 r2 r3 r4 r5 rz0 rz1 rz2 rz3 rz4 rz5 hrow hB
      obtain ⟨p0, p1, r0, r1, r2, r3, r4, r5, rz0, rz1, rz2, rz3, rz4, rz5, hrow, hB, HCE⟩ := hc
      have hsc : B0 < wc.heap.size := World.block_lt_of_cell? wc _ r0
      go_region_held3 (fun w' => w'.cell? ⟨BV, 1, none⟩ = some (.int .i64 VH) ∧ Below wc.heap.size wc w')
          (first | (with_reducible assumption) | (have hk2 := hk1.out; have hk3 := hk2.size; (try go_split_ands); refine pack1 ?_ p1; (first | (with_reducible assumption) | (with_reducible exact Below.refl _ _) | ((with_reducible apply belowSeq hb1); (with_reducible assumption)) | ((with_reducible refine Below.alloc ?_ ?_ _) <;> first | (with_reducible assumption) | (exact Below.size (by with_reducible assumption))) | (go_grown; done))) | ((try go_split_ands); refine pack1 ?_ p1; (first | (with_reducible assumption) | (with_reducible exact Below.refl _ _) | ((with_reducible apply belowSeq hb1); (with_reducible assumption)) | ((with_reducible refine Below.alloc ?_ ?_ _) <;> first | (with_reducible assumption) | (exact Below.size (by with_reducible assumption))) | (go_grown; done))))
          (first
            | (go_at_call 30; refine (unless_any _ _ _).mono ?_; rintro e w1 ⟨rfl, rfl⟩)
            | (go_at_call 29; with_reducible first | (refine Calls.mono (first2_any _ _ _ _ (newCellD 0 _ rfl) (newCellD 1 _ rfl)) ?_; rintro e w4 ⟨rfl, rfl⟩) | (refine Calls.mono (first2_any _ _ _ _ (newCell 0 _ rfl) (newCell 1 _ rfl)) ?_; rintro e w4 ⟨rfl, rfl⟩)))
      rename_i hS
      have hW := hS.2
      obtain ⟨ev, hev⟩ : ∃ x, firstE (unlE (decide (0 < VH)) 25) (unlE (decide (VH ≤ 100000)) 8) 0 = x := ⟨_, rfl⟩
      have HEV : Hid (mixV f k = ev) := Lib.hid (by rw [← hev, mixV, HVH.out])
      rw [hev]
      clear hev
      go_upto_region 15 with fail
      have hcell := HCE.out
      refine nameWorld (fun w' => w'.cell? ⟨BV, 0, none⟩ = some (.int .i64 VL) ∧ w'.cell? ⟨BV, 1, none⟩ = some (.int .i64 VH) ∧ w'.cell? ⟨B0, 0, none⟩ = some (.int .i64 0) ∧ w'.cell? ⟨B0, 1, none⟩ = some (.int .i64 0) ∧ w'.cell? ⟨B0, 2, none⟩ = some (.int .i64 0) ∧ w'.cell? ⟨B0, 3, none⟩ = some (.int .i64 0) ∧ w'.cell? ⟨B0, 4, none⟩ = some (.int .i64 0) ∧ w'.cell? ⟨B0, 5, none⟩ = some (.int .i64 0) ∧ w'.frozen? ⟨B0, 0, none⟩ = false ∧ w'.frozen? ⟨B0, 1, none⟩ = false ∧ w'.frozen? ⟨B0, 2, none⟩ = false ∧ w'.frozen? ⟨B0, 3, none⟩ = false ∧ w'.frozen? ⟨B0, 4, none⟩ = false ∧ w'.frozen? ⟨B0, 5, none⟩ = false ∧ w'.ownsRow (B0 + 1) 76 6 (.slice (some ⟨g, 0, none⟩) k cc) k (((List.range k).map f).flatMap Wn.cells) ∧ Below B0 w w' ∧ Hid (∀ i j, i < k → j < 6 → w'.cell? ⟨g, 0 + i * 6 + j, none⟩ = some (.int .i64 ((f i).at j)))) ⟨keepC hW p0, keepC hW p1, keepC hW r0, keepC hW r1, keepC hW r2, keepC hW r3, keepC hW r4, keepC hW r5, keepF hW r0 rz0, keepF hW r1 rz1, keepF hW r2 rz2, keepF hW r3 rz3, keepF hW r4 rz4, keepF hW r5 rz5, rowBelowZ hrow hW, hB.trans (hW.mono (by omega)), Lib.hid (fun i j hi hj => keepC hW (hcell i j hi hj))⟩ (fun wc hc => ?_)
      clear hW hS hcell HCE p0 p1 hsc r0 r1 r2 r3 r4 r5 rz0 rz1 rz2 rz3 rz4 rz5 hrow hB
      obtain ⟨p0, p1, r0, r1, r2, r3, r4, r5, rz0, rz1, rz2, rz3, rz4, rz5, hrow, hB, HCE⟩ := hc
      have hsc : B0 < wc.heap.size := World.block_lt_of_cell? wc _ r0
      by_cases hz : ev = 0
      · have hnz : (ev != 0) = false := by rw [hz]; rfl
        have HD := Lib.hid hz
        clear hz
        go_upto_region 17 with fail
        obtain ⟨s0, hs0⟩ : ∃ x, loF f Wn.s0 k (choices f k (2 ^ k)) = x := ⟨_, rfl⟩
        obtain ⟨s1, hs1⟩ : ∃ x, hiF f Wn.s1 k (choices f k (2 ^ k)) = x := ⟨_, rfl⟩
        obtain ⟨c0, hc0⟩ : ∃ x, loF f Wn.c0 k (choices f k (2 ^ k)) = x := ⟨_, rfl⟩
        obtain ⟨c1, hc1⟩ : ∃ x, hiF f Wn.c1 k (choices f k (2 ^ k)) = x := ⟨_, rfl⟩
        have HMS : Hid (∀ w', Below wc.heap.size wc w' → Calls Try.prog 33 #[.slice (some ⟨g, 0, none⟩) k cc, .func (.func 34) #[] #[], .func (.func 35) #[] #[]] w' fun e w'' => e = .returned (.agg #[.int .i64 s0, .int .i64 s1]) ∧ Below w'.heap.size w' w'') := Lib.hid fun w' hw' => by
          have := means_strength f g 0 k cc w' h0 hn HV.out (fun i j hi hj => keepC hw' (HCE.out i j hi hj))
          rw [hs0, hs1] at this
          exact this
        have HMC : Hid (∀ w', Below wc.heap.size wc w' → Calls Try.prog 33 #[.slice (some ⟨g, 0, none⟩) k cc, .func (.func 36) #[] #[], .func (.func 37) #[] #[]] w' fun e w'' => e = .returned (.agg #[.int .i64 c0, .int .i64 c1]) ∧ Below w'.heap.size w' w'') := Lib.hid fun w' hw' => by
          have := means_sugar f g 0 k cc w' h0 hn HV.out (fun i j hi hj => keepC hw' (HCE.out i j hi hj))
          rw [hc0, hc1] at this
          exact this
        have HSS := Lib.hid (And.intro (And.intro hs0 hs1) (And.intro hc0 hc1))
        clear hs0 hs1 hc0 hc1
        refine regionX 6 0 [] [] (by kernel_rfl) (by kernel_rfl) (by kernel_rfl) (by kernel_rfl) (by decide) (fun _ _ d _ _ h => by cases d <;> exact h) ?_
        intro R hR
        simp only [List.take_succ_cons, List.take_zero]
        iterate 6 (first | (refine headP_val ?_ (by rfl) (by rfl) (fun w' hw' => ?_) ?_; rotate_left; (focus (have y0 := keepC hw' p0; have y1 := keepC hw' p1; first | (refine onlyMakes_val ?_; first | (go_simp; done) | (go_simp; with_reducible rfl)) | (apply onlyMakes_call; (first | (go_simp; done) | (go_simp; exact ⟨rfl, rfl⟩) | (go_simp; with_reducible rfl)); first | (with_reducible exact HMS.out _ hw') | (with_reducible exact HMC.out _ hw')))); (try dsimp only); (try simp only [Act.put, List.setIfInBounds_toArray, List.set_cons_zero, List.set_cons_succ])) | (refine headP_pure ?_ (by rfl) (by rfl) (fun w' => ?_) ?_; rotate_left; (focus ((first | (go_simp; done) | (go_simp; with_reducible rfl)))); (try dsimp only); (try simp only [Act.put, List.setIfInBounds_toArray, List.set_cons_zero, List.set_cons_succ])) | (refine headP_skip (by rfl) ?_; (try dsimp only); (try simp only [Act.put, List.setIfInBounds_toArray, List.set_cons_zero, List.set_cons_succ])))
        refine headP_nil (hR.out _ ?_)
        refine AnyZ.last 6 (by kernel_rfl) (by decide) (fun w2 hw2 => ?_)
        refine wpAny_one 6 (by kernel_rfl) rfl rfl ?_
        have hr0 := keepC hw2 r0
        have hr1 := keepC hw2 r1
        have hr2 := keepC hw2 r2
        have hr3 := keepC hw2 r3
        have hr4 := keepC hw2 r4
        have hr5 := keepC hw2 r5
        have grz0 := keepF hw2 r0 rz0
        have grz1 := keepF hw2 r1 rz1
        have grz2 := keepF hw2 r2 rz2
        have grz3 := keepF hw2 r3 rz3
        have grz4 := keepF hw2 r4 rz4
        have grz5 := keepF hw2 r5 rz5
        have hB2 := hB.trans (hw2.mono (by omega))
        clear hR hw2 hB p0 p1 hrow hsc HCE r0 r1 r2 r3 r4 r5 rz0 rz1 rz2 rz3 rz4 rz5
        (try simp only [List.getElem_toArray, List.getElem_cons_succ, List.getElem_cons_zero])
        (try simp only [Act.put, List.setIfInBounds_toArray, List.set_cons_succ, List.set_cons_zero])
        unfold Oper.wp
        go_simp
        refine wpAny_one 7 (by kernel_rfl) rfl rfl ?_
        (try simp only [List.getElem_toArray, List.getElem_cons_succ, List.getElem_cons_zero])
        (try simp only [Act.put, List.setIfInBounds_toArray, List.set_cons_succ, List.set_cons_zero])
        unfold Oper.wp
        go_simp
        refine wpAny_done (by kernel_rfl) ?_
        obtain ⟨e0, e1, e2, e3, e4, e5⟩ := set6 (W := w2) hr0 hr1 hr2 hr3 hr4 hr5 (.int .i64 VL) (.int .i64 VH) (.int .i64 s0) (.int .i64 s1) (.int .i64 c0) (.int .i64 c1)
        go_wp2_with ((with_reducible refine bodyPost_ret (v := .tuple #[.agg #[.int .i64 VL, .int .i64 VH, .int .i64 s0, .int .i64 s1, .int .i64 c0, .int .i64 c1], .int .i64 0]) ?_ rfl ?_); (simp [results, Try.results9, go_sem, e0, e1, e2, e3, e4, e5]); exact ⟨by obtain ⟨⟨a0, a1⟩, a2, a3⟩ := HSS.out; rw [mixR, if_neg (by rw [HB0.out]; decide), if_neg (by rw [HEV.out, HD.out]; decide), HVL.out, HVH.out, a0, a1, a2, a3], by rw [hB0]; exact (((((hB2.setCell (Nat.le_refl _) _).setCell (Nat.le_refl _) _).setCell (Nat.le_refl _) _).setCell (Nat.le_refl _) _).setCell (Nat.le_refl _) _).setCell (Nat.le_refl _) _⟩)
      · have hnz : (ev != 0) = true := by simp [hz]
        have HD := Lib.hid hz
        clear hz
        obtain ⟨c0, c1, c2, c3, c4, c5⟩ := set6 (W := wc) r0 r1 r2 r3 r4 r5 (.int .i64 0) (.int .i64 0) (.int .i64 0) (.int .i64 0) (.int .i64 0) (.int .i64 0)
        go_wp2_with ((with_reducible refine bodyPost_ret (v := .tuple #[.agg #[.int .i64 0, .int .i64 0, .int .i64 0, .int .i64 0, .int .i64 0, .int .i64 0], .int .i64 ev]) ?_ rfl ?_); (simp [results, Try.results9, go_sem, c0, c1, c2, c3, c4, c5]); exact ⟨by rw [mixR, if_neg (by rw [HB0.out]; decide), HEV.out, if_pos HD.out], by rw [hB0]; exact (((((hB.setCell (Nat.le_refl _) _).setCell (Nat.le_refl _) _).setCell (Nat.le_refl _) _).setCell (Nat.le_refl _) _).setCell (Nat.le_refl _) _).setCell (Nat.le_refl _) _⟩)
end Go.Proofs.Ytbijhcoloajjaaa

/- flor's Fortified: the wine and the spirit, mixed. -/
namespace Go.Proofs.Ytbijhcoloajjaaa
open Go.RowKit

def twoW (x y : Wn) : Nat → Wn
  | 0 => x | _ => y
def spW (vo st : Int) : Wn := ⟨vo, vo, st, st, 0, 0⟩
theorem mixR_form (f : Nat → Wn) (n : Nat) : ∃ m0 m1 m2 m3 m4 m5 ee, mixR f n = .tuple #[.agg #[.int .i64 m0, .int .i64 m1, .int .i64 m2, .int .i64 m3, .int .i64 m4, .int .i64 m5], .int .i64 ee] := by
  unfold mixR
  split
  · exact ⟨_, _, _, _, _, _, _, rfl⟩
  · split <;> exact ⟨_, _, _, _, _, _, _, rfl⟩
set_option linter.unusedVariables false in
set_option linter.unusedSimpArgs false in
set_option maxRecDepth 100000 in
set_option maxHeartbeats 8000000 in
theorem fortified_any (x : Wn) (vo st : Int) (w : World) :
    Calls Try.prog 17 #[.agg #[.int .i64 x.v0, .int .i64 x.v1, .int .i64 x.s0, .int .i64 x.s1, .int .i64 x.c0, .int .i64 x.c1], .agg #[.int .i64 vo, .int .i64 st]] w fun e w' => e = .returned (mixR (twoW x (spW vo st)) 2) ∧ Below w.heap.size w w' := by
  obtain ⟨x0, x1, x2, x3, x4, x5⟩ := x
  dsimp only
  obtain ⟨m0, m1, m2, m3, m4, m5, ee, hm⟩ := mixR_form (twoW ⟨x0, x1, x2, x3, x4, x5⟩ (spW vo st)) 2
  have HM := Lib.hid hm
  clear hm
  go_enter Try.func17, Try.ntmps17
  go_upto_region 1 with fail
  obtain ⟨B0, hB0⟩ : ∃ B, w.heap.size = B := ⟨_, rfl⟩
  rw [hB0]
  refine nameWorld (fun w' => w'.cell? ⟨B0, 0, none⟩ = some (.int .i64 x0) ∧ w'.cell? ⟨B0, 1, none⟩ = some (.int .i64 x1) ∧ w'.cell? ⟨B0, 2, none⟩ = some (.int .i64 x2) ∧ w'.cell? ⟨B0, 3, none⟩ = some (.int .i64 x3) ∧ w'.cell? ⟨B0, 4, none⟩ = some (.int .i64 x4) ∧ w'.cell? ⟨B0, 5, none⟩ = some (.int .i64 x5) ∧ w'.cell? ⟨B0 + 1 + 1, 0, none⟩ = some (.int .i64 0) ∧ w'.cell? ⟨B0 + 1 + 1, 1, none⟩ = some (.int .i64 0) ∧ w'.cell? ⟨B0 + 1 + 1, 2, none⟩ = some (.int .i64 0) ∧ w'.cell? ⟨B0 + 1 + 1, 3, none⟩ = some (.int .i64 0) ∧ w'.cell? ⟨B0 + 1 + 1, 4, none⟩ = some (.int .i64 0) ∧ w'.cell? ⟨B0 + 1 + 1, 5, none⟩ = some (.int .i64 0) ∧ w'.frozen? ⟨B0 + 1 + 1, 0, none⟩ = false ∧ w'.frozen? ⟨B0 + 1 + 1, 1, none⟩ = false ∧ w'.frozen? ⟨B0 + 1 + 1, 2, none⟩ = false ∧ w'.frozen? ⟨B0 + 1 + 1, 3, none⟩ = false ∧ w'.frozen? ⟨B0 + 1 + 1, 4, none⟩ = false ∧ w'.frozen? ⟨B0 + 1 + 1, 5, none⟩ = false ∧ w'.cell? ⟨B0 + 1, 0, none⟩ = some (.int .i64 vo) ∧ w'.cell? ⟨B0 + 1, 1, none⟩ = some (.int .i64 st) ∧ Below B0 w w') ?_ (fun wc hc => ?_)
  · rw [← hB0]
    exact ⟨by go_cell, by go_cell, by go_cell, by go_cell, by go_cell, by go_cell, (newBoth (by simp) (Below.refl _ _) 0 _ rfl).1, (newBoth (by simp) (Below.refl _ _) 1 _ rfl).1, (newBoth (by simp) (Below.refl _ _) 2 _ rfl).1, (newBoth (by simp) (Below.refl _ _) 3 _ rfl).1, (newBoth (by simp) (Below.refl _ _) 4 _ rfl).1, (newBoth (by simp) (Below.refl _ _) 5 _ rfl).1, (newBoth (by simp) (Below.refl _ _) 0 _ rfl).2, (newBoth (by simp) (Below.refl _ _) 1 _ rfl).2, (newBoth (by simp) (Below.refl _ _) 2 _ rfl).2, (newBoth (by simp) (Below.refl _ _) 3 _ rfl).2, (newBoth (by simp) (Below.refl _ _) 4 _ rfl).2, (newBoth (by simp) (Below.refl _ _) 5 _ rfl).2, by go_cell, by go_cell, by go_grown⟩
  obtain ⟨y0, y1, y2, y3, y4, y5, r0, r1, r2, r3, r4, r5, rz0, rz1, rz2, rz3, rz4, rz5, p0, p1, hB⟩ := hc
  have hsc : B0 + 1 + 1 < wc.heap.size := World.block_lt_of_cell? wc _ r0
  refine regionX 7 1 [6] [] (by kernel_rfl) (by kernel_rfl) (by kernel_rfl) (by kernel_rfl) (by decide) (fun _ _ d _ _ h => by cases d <;> exact h) ?_
  intro R hR
  simp only [List.take_succ_cons, List.take_zero]
  iterate 7 (first | (refine headP_val ?_ (by rfl) (by rfl) (fun w' hw' => ?_) ?_; rotate_left; (focus (have y0 := keepC hw' p0; have y1 := keepC hw' p1; first | (refine onlyMakes_val ?_; first | (go_simp; done) | (go_simp; with_reducible rfl)) | (apply onlyMakes_call; (first | (go_simp; done) | (go_simp; exact ⟨rfl, rfl⟩) | (go_simp; with_reducible rfl)); first | (with_reducible exact exactly_any _ _)))); (try dsimp only); (try simp only [Act.put, List.setIfInBounds_toArray, List.set_cons_zero, List.set_cons_succ])) | (refine headP_pure ?_ (by rfl) (by rfl) (fun w' => ?_) ?_; rotate_left; (focus ((first | (go_simp; done) | (go_simp; with_reducible rfl)))); (try dsimp only); (try simp only [Act.put, List.setIfInBounds_toArray, List.set_cons_zero, List.set_cons_succ])) | (refine headP_skip (by rfl) ?_; (try dsimp only); (try simp only [Act.put, List.setIfInBounds_toArray, List.set_cons_zero, List.set_cons_succ])))
  refine headP_nil (hR.out _ ?_)
  refine AnyZ.one_alloc 7 (obj := .cells #[.int .i64 0, .int .i64 0, .int .i64 0, .int .i64 0, .int .i64 0, .int .i64 0] 27) (by kernel_rfl) rfl (by decide) ⟨rfl, fun w' hw' => ?_⟩ (fun w1 hw1 => ?_)
  · first | (go_simp; done) | (go_simp; with_reducible rfl) | (go_simp; exact ⟨rfl, rfl⟩)
  refine AnyZ.last 8 (by kernel_rfl) (by decide) (fun w2 hw2 => ?_)
  refine wpAny_one 8 (by kernel_rfl) rfl rfl ?_
  have hX : Below wc.heap.size wc w2 := belowSeq hw2 (hw1.alloc hw1.size _)
  have hsz : wc.heap.size ≤ w1.heap.size := hw1.size
  have n0 := newHeld hw2 0 _ rfl
  have n1 := newHeld hw2 1 _ rfl
  have n2 := newHeld hw2 2 _ rfl
  have n3 := newHeld hw2 3 _ rfl
  have n4 := newHeld hw2 4 _ rfl
  have n5 := newHeld hw2 5 _ rfl
  clear hR hw1
  (try simp only [List.getElem_toArray, List.getElem_cons_succ, List.getElem_cons_zero])
  (try simp only [Act.put, List.setIfInBounds_toArray, List.set_cons_succ, List.set_cons_zero])
  unfold Oper.wp
  go_simp
  refine wpAny_done (by kernel_rfl) ?_
  go_upto_region 2 with fail
  obtain ⟨s0, s1, s2, s3, s4, s5⟩ := set6 n0.1 n1.1 n2.1 n3.1 n4.1 n5.1 (.int .i64 vo) (.int .i64 vo) (.int .i64 st) (.int .i64 st) (.int .i64 0) (.int .i64 0)
  have hY : Below wc.heap.size wc ((((((w2.setCell ⟨w1.heap.size, 0, none⟩ (.int .i64 vo)).setCell ⟨w1.heap.size, 1, none⟩ (.int .i64 vo)).setCell ⟨w1.heap.size, 2, none⟩ (.int .i64 st)).setCell ⟨w1.heap.size, 3, none⟩ (.int .i64 st)).setCell ⟨w1.heap.size, 4, none⟩ (.int .i64 0)).setCell ⟨w1.heap.size, 5, none⟩ (.int .i64 0)) := (((((hX.setCell hsz _).setCell hsz _).setCell hsz _).setCell hsz _).setCell hsz _).setCell hsz _
  obtain ⟨BY, hBY⟩ : ∃ B, w1.heap.size = B := ⟨_, rfl⟩
  rw [hBY] at s0 s1 s2 s3 s4 s5 hY hsz ⊢
  refine nameWorld (fun w' => w'.cell? ⟨B0, 0, none⟩ = some (.int .i64 x0) ∧ w'.cell? ⟨B0, 1, none⟩ = some (.int .i64 x1) ∧ w'.cell? ⟨B0, 2, none⟩ = some (.int .i64 x2) ∧ w'.cell? ⟨B0, 3, none⟩ = some (.int .i64 x3) ∧ w'.cell? ⟨B0, 4, none⟩ = some (.int .i64 x4) ∧ w'.cell? ⟨B0, 5, none⟩ = some (.int .i64 x5) ∧ w'.cell? ⟨B0 + 1 + 1, 0, none⟩ = some (.int .i64 0) ∧ w'.cell? ⟨B0 + 1 + 1, 1, none⟩ = some (.int .i64 0) ∧ w'.cell? ⟨B0 + 1 + 1, 2, none⟩ = some (.int .i64 0) ∧ w'.cell? ⟨B0 + 1 + 1, 3, none⟩ = some (.int .i64 0) ∧ w'.cell? ⟨B0 + 1 + 1, 4, none⟩ = some (.int .i64 0) ∧ w'.cell? ⟨B0 + 1 + 1, 5, none⟩ = some (.int .i64 0) ∧ w'.frozen? ⟨B0 + 1 + 1, 0, none⟩ = false ∧ w'.frozen? ⟨B0 + 1 + 1, 1, none⟩ = false ∧ w'.frozen? ⟨B0 + 1 + 1, 2, none⟩ = false ∧ w'.frozen? ⟨B0 + 1 + 1, 3, none⟩ = false ∧ w'.frozen? ⟨B0 + 1 + 1, 4, none⟩ = false ∧ w'.frozen? ⟨B0 + 1 + 1, 5, none⟩ = false ∧ w'.cell? ⟨BY, 0, none⟩ = some (.int .i64 vo) ∧ w'.cell? ⟨BY, 1, none⟩ = some (.int .i64 vo) ∧ w'.cell? ⟨BY, 2, none⟩ = some (.int .i64 st) ∧ w'.cell? ⟨BY, 3, none⟩ = some (.int .i64 st) ∧ w'.cell? ⟨BY, 4, none⟩ = some (.int .i64 0) ∧ w'.cell? ⟨BY, 5, none⟩ = some (.int .i64 0) ∧ Below B0 w w') ?_ (fun wd hd => ?_)
  · exact ⟨keepC hY y0, keepC hY y1, keepC hY y2, keepC hY y3, keepC hY y4, keepC hY y5, keepC hY r0, keepC hY r1, keepC hY r2, keepC hY r3, keepC hY r4, keepC hY r5, keepF hY r0 rz0, keepF hY r1 rz1, keepF hY r2 rz2, keepF hY r3 rz3, keepF hY r4 rz4, keepF hY r5 rz5, s0, s1, s2, s3, s4, s5, hB.trans (hY.mono (by omega))⟩
  clear hY hX hw2 n0 n1 n2 n3 n4 n5 s0 s1 s2 s3 s4 s5 p0 p1 hB hsz hsc hBY y0 y1 y2 y3 y4 y5 r0 r1 r2 r3 r4 r5 rz0 rz1 rz2 rz3 rz4 rz5
  obtain ⟨y0, y1, y2, y3, y4, y5, r0, r1, r2, r3, r4, r5, rz0, rz1, rz2, rz3, rz4, rz5, s0, s1, s2, s3, s4, s5, hB⟩ := hd
  have hsd : B0 + 1 + 1 < wd.heap.size := World.block_lt_of_cell? wd _ r0
  go_wp2_with fail
  refine (mixed_some (twoW ⟨x0, x1, x2, x3, x4, x5⟩ (spW vo st)) wd.heap.size 0 2 2 _ (by decide) (by decide) ?_).mono ?_
  · intro i j hi hj
    match i, j, hi, hj with
    | 0, 0, _, _ => exact newCell 0 _ rfl
    | 0, 1, _, _ => exact newCell 1 _ rfl
    | 0, 2, _, _ => exact newCell 2 _ rfl
    | 0, 3, _, _ => exact newCell 3 _ rfl
    | 0, 4, _, _ => exact newCell 4 _ rfl
    | 0, 5, _, _ => exact newCell 5 _ rfl
    | 1, 0, _, _ => exact newCell 6 _ rfl
    | 1, 1, _, _ => exact newCell 7 _ rfl
    | 1, 2, _, _ => exact newCell 8 _ rfl
    | 1, 3, _, _ => exact newCell 9 _ rfl
    | 1, 4, _, _ => exact newCell 10 _ rfl
    | 1, 5, _, _ => exact newCell 11 _ rfl
  · rintro e w3 ⟨rfl, hb3⟩
    rw [HM.out]
    have hbw := belowSq ((Below.refl _ wd).alloc (Nat.le_refl _) _) hb3
    have hB3 := hB.trans (hbw.mono (by omega))
    have g0 := keepC hbw r0
    have gz0 := keepF hbw r0 rz0
    have g1 := keepC hbw r1
    have gz1 := keepF hbw r1 rz1
    have g2 := keepC hbw r2
    have gz2 := keepF hbw r2 rz2
    have g3 := keepC hbw r3
    have gz3 := keepF hbw r3 rz3
    have g4 := keepC hbw r4
    have gz4 := keepF hbw r4 rz4
    have g5 := keepC hbw r5
    have gz5 := keepF hbw r5 rz5
    clear hb3 hbw hB y0 y1 y2 y3 y4 y5 r0 r1 r2 r3 r4 r5 rz0 rz1 rz2 rz3 rz4 rz5 s0 s1 s2 s3 s4 s5
    obtain ⟨e0, e1, e2, e3, e4, e5⟩ := set6 g0 g1 g2 g3 g4 g5 (.int .i64 m0) (.int .i64 m1) (.int .i64 m2) (.int .i64 m3) (.int .i64 m4) (.int .i64 m5)
    dsimp only
    go_wp2_with ((with_reducible refine bodyPost_ret (v := .tuple #[.agg #[.int .i64 m0, .int .i64 m1, .int .i64 m2, .int .i64 m3, .int .i64 m4, .int .i64 m5], .int .i64 ee]) ?_ rfl ?_); (simp [results, Try.results17, go_sem, e0, e1, e2, e3, e4, e5]); exact ⟨by rw [HM.out], by rw [hB0]; exact (((((hB3.setCell (by show B0 ≤ B0 + 1 + 1; omega) _).setCell (by show B0 ≤ B0 + 1 + 1; omega) _).setCell (by show B0 ≤ B0 + 1 + 1; omega) _).setCell (by show B0 ≤ B0 + 1 + 1; omega) _).setCell (by show B0 ≤ B0 + 1 + 1; omega) _).setCell (by show B0 ≤ B0 + 1 + 1; omega) _⟩)
end Go.Proofs.Ytbijhcoloajjaaa
