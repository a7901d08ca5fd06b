/- checks.Numbers of any list; the reference's DrawsErr. -/
import Derived.Test.YtdejmleboflopaaGreatPE
import Derived.Test.YtdejmleboflopaaGreatF3
import Derived.Test.YtdejmleboflopaaGreatQQ
import Derived.Deep.AppendLies
import Derived.OwnWalk
import Derived.Laws.OwnMore
import Derived.OneCell
set_option linter.unusedVariables false
set_option linter.unusedSimpArgs false
namespace Go.Proofs.YtdejmleboflopaaGreat
open Go.RowKit
namespace Sy
open Go.RowKit

theorem seqB {A B C : World} (h : Below A.heap.size A B) (k : Below B.heap.size B C) : Below A.heap.size A C := h.trans (k.mono h.size)
/-- the first number from k on, of m, whose error is not 0: the number and the error -/
def eaF (E : Nat → Int) : Nat → Nat → Int × Int
  | 0, _ => (0, 0)
  | m + 1, k => if E k = 0 then eaF E m (k + 1) else ((k : Int), E k)
theorem eaF_step (E : Nat → Int) (n k : Nat) (hk : k < n) : eaF E (n - k) k = (if E k = 0 then eaF E (n - (k + 1)) (k + 1) else ((k : Int), E k)) := by
  obtain ⟨m, hm⟩ : ∃ m, n - k = m + 1 := ⟨n - k - 1, by omega⟩
  rw [hm, show n - (k + 1) = m by omega]
  rfl
theorem winP_cell {b off n : Nat} {g : Nat → Int} {w : World} (h : WinP b off n g w) {k : Nat} (hk : k < n) : w.cell? ⟨b, off + k, none⟩ = some (.int .i64 (g k)) := by
  obtain ⟨c', e, fr, h1, h2⟩ := h
  simp [World.cell?, h1, h2 k hk]
theorem winP_keep {b off n : Nat} {g : Nat → Int} {w w' : World} (h : WinP b off n g w) (hb : Below w.heap.size w w') : WinP b off n g w' := by
  obtain ⟨c', e, fr, h1, h2⟩ := h
  refine ⟨c', e, fr, ?_, h2⟩
  rw [hb.block b (Array.getElem?_eq_some_iff.1 h1).1]
  exact h1
theorem nuS (n lo hi : Int) (w : World) : Calls Tryz.prog 81 #[.int .i64 n, .int .i64 lo, .int .i64 hi] w fun e w' => e = .returned (.int .i64 (numE n lo hi)) ∧ Below w.heap.size w w' := still_callP (number_any n lo hi w)
set_option linter.unusedVariables false in
set_option linter.unusedSimpArgs false in
set_option maxRecDepth 100000 in
set_option maxHeartbeats 4000000 in
theorem num1_any (q0 q1 q2 b off n cap k : Nat) (x lo hi : Int) (w : World) (hk : k < n) (h0 : w.cell? ⟨q0, 0, none⟩ = some (.slice (some ⟨b, off, none⟩) n cap)) (h1 : w.cell? ⟨q1, 0, none⟩ = some (.int .i64 lo)) (h2 : w.cell? ⟨q2, 0, none⟩ = some (.int .i64 hi)) (hc : w.cell? ⟨b, off + k, none⟩ = some (.int .i64 x)) :
    Calls Tryz.prog 89 #[.int .i64 (k : Int), .pointer (some ⟨q0, 0, none⟩), .pointer (some ⟨q1, 0, none⟩), .pointer (some ⟨q2, 0, none⟩)] w fun e w' => e = .returned (.int .i64 (numE x lo hi)) ∧ Below w.heap.size w w' := by
  have hk0 : (0 : Int) ≤ (k : Int) := by omega
  have hk1 : (k : Int) < (n : Int) := by omega
  have hB := Below.refl w.heap.size w
  go_enter Tryz.func89, Tryz.ntmps89
  go_upto_region 1 with fail
  refine regionX 7 0 [] [] (by kernel_rfl) (by kernel_rfl) (by kernel_rfl) (by kernel_rfl) (by decide) (fun _ _ d _ _ h => by cases d <;> exact h) ?_
  intro R hR
  simp only [List.take_succ_cons, List.take_zero]
  iterate 7 (first | (refine headP_val ?_ (by rfl) (by rfl) (fun w' hw' => ?_) ?_; rotate_left; (focus (have y0 := keepC hw' h0; have y1 := keepC hw' h1; have y2 := keepC hw' h2; have y3 := keepC hw' hc; first | (refine onlyMakes_val ?_; first | (go_simp; done) | (go_simp; with_reducible rfl)) | (apply onlyMakes_call; (first | (go_simp; done) | (go_simp; exact ⟨rfl, rfl⟩) | (go_simp; with_reducible rfl)); first | (with_reducible exact nuS _ _ _ _)))); (try dsimp only); (try simp only [Act.put, List.setIfInBounds_toArray, List.set_cons_zero, List.set_cons_succ])) | (refine headP_pure ?_ (by rfl) (by rfl) (fun w' => ?_) ?_; rotate_left; (focus ((first | (go_simp; done) | (go_simp; with_reducible rfl)))); (try dsimp only); (try simp only [Act.put, List.setIfInBounds_toArray, List.set_cons_zero, List.set_cons_succ])) | (refine headP_skip (by rfl) ?_; (try dsimp only); (try simp only [Act.put, List.setIfInBounds_toArray, List.set_cons_zero, List.set_cons_succ])))
  refine headP_nil (hR.out _ ?_)
  clear h0 h1 h2 hc
  refine AnyZ.last 7 (by kernel_rfl) (by decide) (fun w2 hw2 => ?_)
  refine wpAny_one 7 (by kernel_rfl) rfl rfl ?_
  have hB2 := seqB hB hw2
  clear hR hw2 hB
  (try simp only [List.getElem_toArray, List.getElem_cons_succ, List.getElem_cons_zero])
  (try simp only [Act.put, List.setIfInBounds_toArray, List.set_cons_succ, List.set_cons_zero])
  unfold Oper.wp
  go_simp
  refine wpAny_done (by kernel_rfl) ?_
  go_wp2_with fail
  go_ret
  exact ⟨rfl, hB2⟩
set_option linter.unusedVariables false in
set_option linter.unusedSimpArgs false in
set_option maxRecDepth 100000 in
set_option maxHeartbeats 4000000 in
theorem eachN_any (p1 p2 p3 : Value) (n : Nat) (E : Nat → Int) (w : World) (hn : n ≤ 100000) (hE : ∀ (i : Nat) (w' : World), i < n → Below w.heap.size w w' → Calls Tryz.prog 89 #[.int .i64 (i : Int), p1, p2, p3] w' fun e w'' => e = .returned (.int .i64 (E i)) ∧ Below w'.heap.size w' w'') :
    Calls Tryz.prog 64 #[.int .i64 (n : Int), .func (.func 89) #[] #[p1, p2, p3]] w fun e w' => e = .returned (.tuple #[.int .i64 (eaF E n 0).1, .int .i64 (eaF E n 0).2]) ∧ Below w.heap.size w w' := by
  have HE := Lib.hid hE
  clear hE
  go_enter Tryz.func64, Tryz.ntmps64
  go_wp2_with fail
  go_loopw [9] (fun i wr => ∃ (k : Nat), (k ≤ n ∧ i = .int .i64 (k : Int)) ∧ Hid (eaF E n 0 = eaF E (n - k) k) ∧ Below w.heap.size w wr)
    (fun i _ => n - (intOf i).toNat)
  case atStart => exact ⟨0, ⟨Nat.zero_le _, rfl⟩, Lib.hid rfl, Below.refl _ _⟩
  case round =>
    obtain ⟨k, ⟨hk, rfl⟩, HI, hB⟩ := hrel
    by_cases hlt : k < n
    · have HC := Lib.hid (fun w' h => HE.out k w' hlt h)
      have HS := Lib.hid (eaF_step E n k hlt)
      obtain ⟨ee, hee⟩ : ∃ z, E k = z := ⟨_, rfl⟩
      rw [hee] at HC HS
      clear hee
      have hk1 : (k : Int) < (n : Int) := by omega
      by_cases hz : ee = 0
      · have hnz : (ee != 0) = false := by rw [hz]; rfl
        have HZ := Lib.hid hz
        clear hz
        go_wp2_with (go_at_call 89; (with_reducible refine Calls.mono (HC.out _ hB) ?_); rintro e w1 ⟨rfl, hb1⟩)
        go_roundw
        case rel => exact ⟨k + 1, ⟨by omega, by first | rfl | go_num⟩, Lib.hid (by rw [HI.out, HS.out, if_pos HZ.out]), seqB hB hb1⟩
        case measure => simp [intOf]; omega
      · have hnz : (ee != 0) = true := by simp [hz]
        have HZ := Lib.hid hz
        clear hz
        go_wp2_with (go_at_call 89; (with_reducible refine Calls.mono (HC.out _ hB) ?_); rintro e w1 ⟨rfl, hb1⟩)
        (with_reducible refine bodyPost_ret (v := .tuple #[.int .i64 (k : Int), .int .i64 ee]) ?_ rfl ?_)
        · simp [results, Tryz.results64, go_sem]
        · exact ⟨by rw [HI.out, HS.out, if_neg HZ.out], seqB hB hb1⟩
    · obtain rfl : k = n := by omega
      have hge : ¬ (k : Int) < (k : Int) := by omega
      clear hlt
      go_wp2_with fail
      (with_reducible refine bodyPost_ret (v := .tuple #[.int .i64 0, .int .i64 0]) ?_ rfl ?_)
      · simp [results, Tryz.results64, go_sem]
      · exact ⟨by rw [HI.out, Nat.sub_self]; rfl, hB⟩
/-- the error of a list of numbers -/
def nusE (g : Nat → Int) (lo hi : Int) (n : Nat) : Int := (eaF (fun k => numE (g k) lo hi) n 0).2
set_option linter.unusedVariables false in
set_option linter.unusedSimpArgs false in
set_option maxRecDepth 100000 in
set_option maxHeartbeats 4000000 in
theorem numbers_any (sa : Option Addr) (b off n cap : Nat) (g : Nat → Int) (lo hi : Int) (w : World) (hn : n ≤ 100000) (hs : 0 < n → sa = some ⟨b, off, none⟩) (hw : 0 < n → WinP b off n g w) :
    Calls Tryz.prog 63 #[.slice sa n cap, .int .i64 lo, .int .i64 hi] w fun e w' => e = .returned (.int .i64 (nusE g lo hi n)) ∧ Below w.heap.size w w' := by
  obtain ⟨W, hW⟩ : ∃ W, W = ((w.alloc (.cells #[.slice sa n cap] 26)).alloc (.cells #[.int .i64 lo] 3)).alloc (.cells #[.int .i64 hi] 3) := ⟨_, rfl⟩
  have b1 : Below w.heap.size w (w.alloc (.cells #[.slice sa n cap] 26)) := (Below.refl _ _).alloc (Nat.le_refl _) _
  have b2 : Below (w.alloc (.cells #[.slice sa n cap] 26)).heap.size (w.alloc (.cells #[.slice sa n cap] 26)) ((w.alloc (.cells #[.slice sa n cap] 26)).alloc (.cells #[.int .i64 lo] 3)) := (Below.refl _ _).alloc (Nat.le_refl _) _
  have b3 : Below ((w.alloc (.cells #[.slice sa n cap] 26)).alloc (.cells #[.int .i64 lo] 3)).heap.size ((w.alloc (.cells #[.slice sa n cap] 26)).alloc (.cells #[.int .i64 lo] 3)) W := by rw [hW]; exact (Below.refl _ _).alloc (Nat.le_refl _) _
  have bW := seqB (seqB b1 b2) b3
  have c0 : W.cell? ⟨w.heap.size, 0, none⟩ = some (.slice sa n cap) := keepC b3 (keepC b2 (newCell 0 _ rfl))
  have c1 : W.cell? ⟨w.heap.size + 1, 0, none⟩ = some (.int .i64 lo) := by
    refine keepC b3 ?_
    have := newCell (W := w.alloc (.cells #[.slice sa n cap] 26)) (cs := #[.int .i64 lo]) (t := 3) 0 _ rfl
    rwa [World.size_alloc] at this
  have c2 : W.cell? ⟨w.heap.size + 1 + 1, 0, none⟩ = some (.int .i64 hi) := by
    rw [hW]
    have := newCell (W := (w.alloc (.cells #[.slice sa n cap] 26)).alloc (.cells #[.int .i64 lo] 3)) (cs := #[.int .i64 hi]) (t := 3) 0 _ rfl
    rwa [World.size_alloc, World.size_alloc] at this
  have HE := Lib.hid (eachN_any (.pointer (some ⟨w.heap.size, 0, none⟩)) (.pointer (some ⟨w.heap.size + 1, 0, none⟩)) (.pointer (some ⟨w.heap.size + 1 + 1, 0, none⟩)) n (fun k => numE (g k) lo hi) W hn (fun i w2 hi2 hb2 => num1_any _ _ _ b off n cap i (g i) lo hi w2 hi2 (by rw [← hs (by omega)]; exact keepC hb2 c0) (keepC hb2 c1) (keepC hb2 c2) (winP_cell (winP_keep (hw (by omega)) (seqB bW hb2)) hi2)))
  rw [hW] at HE
  clear hs hw c0 c1 c2 b1 b2 b3
  go_enter Tryz.func63, Tryz.ntmps63
  go_wp2_with (go_at_call 64; (with_reducible refine Calls.mono HE.out ?_); rintro e w1 ⟨rfl, hb1⟩)
  go_ret
  rw [hW] at bW
  exact ⟨rfl, seqB bW hb1⟩
end Sy
end Go.Proofs.YtdejmleboflopaaGreat
