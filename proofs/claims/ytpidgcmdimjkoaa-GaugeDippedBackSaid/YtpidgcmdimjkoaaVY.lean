import Derived.Test.YtpidgcmdimjkoaaVX
import Derived.WalkKit
import Derived.Laws.Shifts
import Derived.Sort.Walk0
import Derived.Deep.LoopGhost
import Derived.Shelf.Abstract
import Derived.Test.YtpidgcmdimjkoaaQQ
import Derived.Test.YtpidgcmdimjkoaaJ11
/- sort.Search with a function that makes memory of its own; the searches of DipOf. -/
set_option linter.unusedVariables false
set_option linter.unusedSimpArgs false
namespace Go.Proofs.Ytpidgcmdimjkoaa
open Go.RowKit Go.Lib
namespace Sy
open Go.RowKit Go.Lib

theorem bis_yes {p : Nat → Bool} {lo hi : Nat} (h : lo < hi) (hp : p ((lo + hi) / 2) = true) : bis p lo hi = bis p lo ((lo + hi) / 2) := by
  rw [bis, if_pos h, hp]; rfl
theorem bis_no {p : Nat → Bool} {lo hi : Nat} (h : lo < hi) (hp : p ((lo + hi) / 2) = false) : bis p lo hi = bis p ((lo + hi) / 2 + 1) hi := by
  rw [bis, if_pos h, hp]; rfl
theorem bis_end {p : Nat → Bool} {lo hi : Nat} (h : ¬ lo < hi) : bis p lo hi = lo := by rw [bis, if_neg h]
set_option maxHeartbeats 4000000 in
set_option maxRecDepth 100000 in
theorem search_any (g : FuncId) (cb : Array Value) (n : Nat) (p : Nat → Bool) (w : World) (eg : ∀ args w, (callFunc g args).run Try.prog w = .ok (.enter g args) w) (hn : n < 4611686018427387904)
    (hf : ∀ w1, Below w.heap.size w w1 → ∀ i : Nat, i < n → Calls Try.prog g (#[.int .i64 (i : Int)] ++ cb) w1 fun e w2 => e = .returned (.bool (p i)) ∧ Below w1.heap.size w1 w2) :
    Calls Try.prog 34 #[.int .i64 (n : Int), .func (.func g) #[] cb] w fun e w' => e = .returned (.int .i64 (bis p 0 n : Nat)) ∧ Below w.heap.size w w' := by
  have HF := Lib.hid hf
  clear hf
  go_enter Try.func34, Try.ntmps34
  go_wp2
  go_loopw [5, 6] (fun i j wr => ∃ lo hi : Nat, (lo ≤ hi ∧ hi ≤ n ∧ i = .int .i64 (lo : Int) ∧ j = .int .i64 (hi : Int)) ∧ Hid (bis p 0 n = bis p lo hi) ∧ Below w.heap.size w wr) (fun i j _ => (RowKit.intOf j - RowKit.intOf i).toNat)
  case atStart => exact ⟨0, n, ⟨Nat.zero_le _, Nat.le_refl _, rfl, rfl⟩, Lib.hid rfl, Below.refl _ _⟩
  case round =>
    obtain ⟨lo, hi, ⟨hlh, hin, rfl, rfl⟩, HE, hB⟩ := hrel
    by_cases hlt : lo < hi
    · have hc := HF.out wr hB ((lo + hi) / 2) (by omega)
      rw [show (((lo + hi) / 2 : Nat) : Int) = ((lo : Int) + (hi : Int)) / 2 by omega] at hc
      cases hp : p ((lo + hi) / 2) <;> rw [hp] at hc
      · have HE2 : Hid (bis p 0 n = bis p ((lo + hi) / 2 + 1) hi) := Lib.hid (HE.out.trans (bis_no hlt hp))
        clear hp HE
        go_wp2_with (go_at_fn g; refine Calls.mono hc ?_; rintro e w2 ⟨rfl, hb2⟩)
        go_roundw
        case rel => exact ⟨(lo + hi) / 2 + 1, hi, ⟨by omega, hin, by go_num, rfl⟩, HE2, belowSeq hb2 hB⟩
        case measure => simp [RowKit.intOf]; omega
      · have HE2 : Hid (bis p 0 n = bis p lo ((lo + hi) / 2)) := Lib.hid (HE.out.trans (bis_yes hlt hp))
        clear hp HE
        go_wp2_with (go_at_fn g; refine Calls.mono hc ?_; rintro e w2 ⟨rfl, hb2⟩)
        go_roundw
        case rel => exact ⟨lo, (lo + hi) / 2, ⟨by omega, by omega, rfl, by go_num⟩, HE2, belowSeq hb2 hB⟩
        case measure => simp [RowKit.intOf]; omega
    · have e : lo = hi := by omega
      subst e
      have HE2 : bis p 0 n = lo := HE.out.trans (bis_end (Nat.lt_irrefl _))
      have HH := Lib.hid HE2
      clear HE HE2
      go_wp2
      go_ret
      refine ⟨?_, hB⟩
      rw [HH.out]
      rfl
end Sy
end Go.Proofs.Ytpidgcmdimjkoaa

/- DipOf of a right cask: its searches. -/
set_option linter.unusedVariables false
set_option linter.unusedSimpArgs false
namespace Go.Proofs.Ytpidgcmdimjkoaa
open Go.RowKit
namespace Sy
open Go.RowKit

/-- the value in a cell of four -/
def Held4 (w : World) (b : Nat) (s : ByteArray) (bung : Int) (z2 z3 : Value) : Prop :=
  w.cell? ⟨b, 0, none⟩ = some (.string s) ∧ w.cell? ⟨b, 1, none⟩ = some (.int .i64 bung) ∧ w.cell? ⟨b, 2, none⟩ = some z2 ∧ w.cell? ⟨b, 3, none⟩ = some z3
theorem rfield_lo (a b : Int) (w : World) : (Instr.field 32 (.agg #[.int .i64 a, .int .i64 b]) 0).run Try.prog w = .ok (.int .i64 a) w := by kernel_rfl
theorem rfield_hi (a b : Int) (w : World) : (Instr.field 32 (.agg #[.int .i64 a, .int .i64 b]) 1).run Try.prog w = .ok (.int .i64 b) w := by kernel_rfl
attribute [local irreducible] HeadP
set_option maxRecDepth 100000 in
set_option maxHeartbeats 4000000 in
theorem clo1_any {s : ByteArray} {bung : Int} {xs : List Int} {N : Nat} {z2 z3 : Value} {wb : World} (hV : VolAt (.agg #[.string s, .int .i64 bung, z2, z3]) bung xs N wb) (b1 b2 : Nat) (vol m : Int) (h0 : 0 ≤ m) (h1 : m ≤ 2 * bung) (w : World) (hB : Below wb.heap.size wb w) (hc : Held4 w b1 s bung z2 z3) (hd : w.cell? ⟨b2, 0, none⟩ = some (.int .i64 vol)) :
    Calls Try.prog 35 #[.int .i64 m, .pointer (some ⟨b1, 0, none⟩), .pointer (some ⟨b2, 0, none⟩)] w fun e w' => e = .returned (.bool (decide (vol ≤ vHi bung xs N m))) ∧ Below w.heap.size w w' := by
  obtain ⟨c0, c1, c2, c3⟩ := hc
  have HV := Lib.hid (fun w' (hb : Below wb.heap.size wb w') => hV m h0 h1 w' hb)
  obtain ⟨lo, hlo⟩ : ∃ z, vLo bung xs N m = z := ⟨_, rfl⟩
  obtain ⟨hi, hhi⟩ : ∃ z, vHi bung xs N m = z := ⟨_, rfl⟩
  rw [hlo, hhi] at HV
  rw [hhi]
  clear hlo hhi hV
  have HW : Below w.heap.size w w := Below.refl _ _
  have hfl := rfield_lo
  have hfh := rfield_hi
  go_enter Try.func35, Try.ntmps35
  go_upto_region 1 with fail
  refine regionX 6 0 [] [] (by kernel_rfl) (by kernel_rfl) (by kernel_rfl) (by kernel_rfl) (by decide) (fun _ _ d _ _ h => by cases d <;> exact h) ?_
  intro R hR
  simp only [List.take_succ_cons, List.take_zero]
  iterate 6 (first | (refine headP_val ?_ (by rfl) (by rfl) (fun w' hw' => ?_) ?_; rotate_left; (focus (have y0 := keepC hw' c0; have y1 := keepC hw' c1; have y2 := keepC hw' c2; have y3 := keepC hw' c3; have y4 := keepC hw' hd; have hq := belowSeq2 hB hw'; first | (refine onlyMakes_val ?_; first | (go_simp; done) | (go_simp; with_reducible rfl)) | (apply onlyMakes_call; (first | (go_simp; done) | (go_simp; exact ⟨rfl, rfl⟩) | (go_simp; with_reducible rfl)); first | (with_reducible exact HV.out _ hq)))); (try dsimp only); (try simp only [Act.put, List.setIfInBounds_toArray, List.set_cons_zero, List.set_cons_succ])) | (refine headP_pure ?_ (by rfl) (by rfl) (fun w' => ?_) ?_; rotate_left; (focus ((first | (go_simp; done) | (go_simp; with_reducible rfl)))); (try dsimp only); (try simp only [Act.put, List.setIfInBounds_toArray, List.set_cons_zero, List.set_cons_succ])) | (refine headP_skip (by rfl) ?_; (try dsimp only); (try simp only [Act.put, List.setIfInBounds_toArray, List.set_cons_zero, List.set_cons_succ])))
  refine headP_nil (hR.out _ ?_)
  refine AnyZ.last 6 (by kernel_rfl) (by decide) (fun w2 hw2 => ?_)
  refine wpAny_one 6 (by kernel_rfl) rfl rfl ?_
  (try simp only [List.getElem_toArray, List.getElem_cons_succ, List.getElem_cons_zero])
  (try simp only [Act.put, List.setIfInBounds_toArray, List.set_cons_succ, List.set_cons_zero])
  unfold Oper.wp
  go_simp
  refine wpAny_done (by kernel_rfl) ?_
  go_wp2_with fail
  go_ret
  exact ⟨rfl, hw2⟩
set_option maxRecDepth 100000 in
set_option maxHeartbeats 4000000 in
theorem clo2_any {s : ByteArray} {bung : Int} {xs : List Int} {N : Nat} {z2 z3 : Value} {wb : World} (hV : VolAt (.agg #[.string s, .int .i64 bung, z2, z3]) bung xs N wb) (b1 b2 : Nat) (vol m : Int) (h0 : 0 ≤ m) (h1 : m ≤ 2 * bung) (w : World) (hB : Below wb.heap.size wb w) (hc : Held4 w b1 s bung z2 z3) (hd : w.cell? ⟨b2, 0, none⟩ = some (.int .i64 vol)) :
    Calls Try.prog 36 #[.int .i64 m, .pointer (some ⟨b1, 0, none⟩), .pointer (some ⟨b2, 0, none⟩)] w fun e w' => e = .returned (.bool (decide (vol < vLo bung xs N m))) ∧ Below w.heap.size w w' := by
  obtain ⟨c0, c1, c2, c3⟩ := hc
  have HV := Lib.hid (fun w' (hb : Below wb.heap.size wb w') => hV m h0 h1 w' hb)
  obtain ⟨lo, hlo⟩ : ∃ z, vLo bung xs N m = z := ⟨_, rfl⟩
  obtain ⟨hi, hhi⟩ : ∃ z, vHi bung xs N m = z := ⟨_, rfl⟩
  rw [hlo, hhi] at HV
  rw [hlo]
  clear hlo hhi hV
  have HW : Below w.heap.size w w := Below.refl _ _
  have hfl := rfield_lo
  have hfh := rfield_hi
  go_enter Try.func36, Try.ntmps36
  go_upto_region 1 with fail
  refine regionX 6 0 [] [] (by kernel_rfl) (by kernel_rfl) (by kernel_rfl) (by kernel_rfl) (by decide) (fun _ _ d _ _ h => by cases d <;> exact h) ?_
  intro R hR
  simp only [List.take_succ_cons, List.take_zero]
  iterate 6 (first | (refine headP_val ?_ (by rfl) (by rfl) (fun w' hw' => ?_) ?_; rotate_left; (focus (have y0 := keepC hw' c0; have y1 := keepC hw' c1; have y2 := keepC hw' c2; have y3 := keepC hw' c3; have y4 := keepC hw' hd; have hq := belowSeq2 hB hw'; first | (refine onlyMakes_val ?_; first | (go_simp; done) | (go_simp; with_reducible rfl)) | (apply onlyMakes_call; (first | (go_simp; done) | (go_simp; exact ⟨rfl, rfl⟩) | (go_simp; with_reducible rfl)); first | (with_reducible exact HV.out _ hq)))); (try dsimp only); (try simp only [Act.put, List.setIfInBounds_toArray, List.set_cons_zero, List.set_cons_succ])) | (refine headP_pure ?_ (by rfl) (by rfl) (fun w' => ?_) ?_; rotate_left; (focus ((first | (go_simp; done) | (go_simp; with_reducible rfl)))); (try dsimp only); (try simp only [Act.put, List.setIfInBounds_toArray, List.set_cons_zero, List.set_cons_succ])) | (refine headP_skip (by rfl) ?_; (try dsimp only); (try simp only [Act.put, List.setIfInBounds_toArray, List.set_cons_zero, List.set_cons_succ])))
  refine headP_nil (hR.out _ ?_)
  refine AnyZ.last 6 (by kernel_rfl) (by decide) (fun w2 hw2 => ?_)
  refine wpAny_one 6 (by kernel_rfl) rfl rfl ?_
  (try simp only [List.getElem_toArray, List.getElem_cons_succ, List.getElem_cons_zero])
  (try simp only [Act.put, List.setIfInBounds_toArray, List.set_cons_succ, List.set_cons_zero])
  unfold Oper.wp
  go_simp
  refine wpAny_done (by kernel_rfl) ?_
  go_wp2_with fail
  go_ret
  exact ⟨rfl, hw2⟩
theorem bis_le (p : Nat → Bool) : ∀ (k lo hi : Nat), hi - lo ≤ k → lo ≤ hi → lo ≤ bis p lo hi ∧ bis p lo hi ≤ hi
  | 0, lo, hi, h, hl => by rw [bis_end (by omega)]; omega
  | k + 1, lo, hi, h, hl => by
    by_cases hlt : lo < hi
    · cases hp : p ((lo + hi) / 2) with
      | true => rw [bis_yes hlt hp]; have := bis_le p k lo ((lo + hi) / 2) (by omega) (by omega); omega
      | false => rw [bis_no hlt hp]; have := bis_le p k ((lo + hi) / 2 + 1) hi (by omega) (by omega); omega
    · rw [bis_end hlt]; omega
theorem enS_le (bung : Int) (xs : List Int) (N : Nat) (vol : Int) : enS bung xs N vol ≤ (2 * bung + 1).toNat := (bis_le _ _ 0 _ (Nat.le_refl _) (Nat.zero_le _)).2
theorem tmS_le (bung : Int) (xs : List Int) (N : Nat) (vol : Int) : tmS bung xs N vol ≤ (2 * bung + 1).toNat := (bis_le _ _ 0 _ (Nat.le_refl _) (Nat.zero_le _)).2
theorem Held4.keep {w w' : World} {b : Nat} {s : ByteArray} {bung : Int} {z2 z3 : Value} (hb : Below w.heap.size w w') (h : Held4 w b s bung z2 z3) : Held4 w' b s bung z2 z3 := ⟨keepC hb h.1, keepC hb h.2.1, keepC hb h.2.2.1, keepC hb h.2.2.2⟩
theorem sea1_any {s : ByteArray} {bung : Int} {xs : List Int} {N : Nat} {z2 z3 : Value} {wb : World} (h10 : 0 ≤ bung) (h8 : bung ≤ 800) (hV : VolAt (.agg #[.string s, .int .i64 bung, z2, z3]) bung xs N wb) (b1 b2 : Nat) (vol : Int) (w : World) (hB : Below wb.heap.size wb w) (hc : Held4 w b1 s bung z2 z3) (hd : w.cell? ⟨b2, 0, none⟩ = some (.int .i64 vol)) :
    Calls Try.prog 34 #[.int .i64 (2 * bung + 1), .func (.func 35) #[] #[.pointer (some ⟨b1, 0, none⟩), .pointer (some ⟨b2, 0, none⟩)]] w fun e w' => e = .returned (.int .i64 (enS bung xs N vol : Nat)) ∧ Below w.heap.size w w' := by
  have e : (2 * bung + 1) = (((2 * bung + 1).toNat : Nat) : Int) := by omega
  have h := search_any 35 #[.pointer (some ⟨b1, 0, none⟩), .pointer (some ⟨b2, 0, none⟩)] (2 * bung + 1).toNat (fun d => decide (vol ≤ vHi bung xs N (d : Int))) w (fun args w => by go_simp) (by omega)
    (fun w1 hb i hi => clo1_any hV b1 b2 vol (i : Int) (by omega) (by omega) w1 (belowSeq2 hB hb) (hc.keep hb) (keepC hb hd))
  rw [← e] at h
  exact h
theorem sea2_any {s : ByteArray} {bung : Int} {xs : List Int} {N : Nat} {z2 z3 : Value} {wb : World} (h10 : 0 ≤ bung) (h8 : bung ≤ 800) (hV : VolAt (.agg #[.string s, .int .i64 bung, z2, z3]) bung xs N wb) (b1 b2 : Nat) (vol : Int) (w : World) (hB : Below wb.heap.size wb w) (hc : Held4 w b1 s bung z2 z3) (hd : w.cell? ⟨b2, 0, none⟩ = some (.int .i64 vol)) :
    Calls Try.prog 34 #[.int .i64 (2 * bung + 1), .func (.func 36) #[] #[.pointer (some ⟨b1, 0, none⟩), .pointer (some ⟨b2, 0, none⟩)]] w fun e w' => e = .returned (.int .i64 (tmS bung xs N vol : Nat)) ∧ Below w.heap.size w w' := by
  have e : (2 * bung + 1) = (((2 * bung + 1).toNat : Nat) : Int) := by omega
  have h := search_any 36 #[.pointer (some ⟨b1, 0, none⟩), .pointer (some ⟨b2, 0, none⟩)] (2 * bung + 1).toNat (fun d => decide (vol < vLo bung xs N (d : Int))) w (fun args w => by go_simp) (by omega)
    (fun w1 hb i hi => clo2_any hV b1 b2 vol (i : Int) (by omega) (by omega) w1 (belowSeq2 hB hb) (hc.keep hb) (keepC hb hd))
  rw [← e] at h
  exact h
set_option maxRecDepth 100000 in
set_option maxHeartbeats 4000000 in
theorem deepest_any (s : ByteArray) (bung : Int) (z2 z3 : Value) (w : World) (h10 : 0 ≤ bung) (h8 : bung ≤ 800) :
    Calls Try.prog 33 #[.agg #[.string s, .int .i64 bung, z2, z3]] w fun e w' => e = .returned (.int .i64 (2 * bung)) ∧ Below w.heap.size w w' := by
  go_enter Try.func33, Try.ntmps33
  go_wp2
  go_ret
  exact ⟨rfl, by go_grown⟩
theorem WinAt.keep {gs os : Nat} {xs : List Int} {w w' : World} (hb : Below w.heap.size w w') (h : WinAt gs os xs w) : WinAt gs os xs w' := by
  obtain ⟨c, e, fr, h1, h2⟩ := h
  exact ⟨c, e, fr, by rw [hb.block gs (Array.getElem?_eq_some_iff.1 h1).1]; exact h1, h2⟩
end Sy
end Go.Proofs.Ytpidgcmdimjkoaa

/- DipOf of a right cask and a right volume. -/
set_option linter.unusedVariables false
set_option linter.unusedSimpArgs false
namespace Go.Proofs.Ytpidgcmdimjkoaa
open Go.RowKit
namespace Sy
open Go.RowKit

set_option maxRecDepth 100000 in
set_option maxHeartbeats 4000000 in
theorem dipOf_any {s : ByteArray} {bung : Int} {xs : List Int} {N gs os cap : Nat} (w : World) (vol : Int) (hN : N = 2 ∨ N = 3 ∨ N = 4) (hl : xs.length = N * 3) (hw : WinAt gs os xs w) (hcap : N ≤ cap) (hz : (caskS s bung xs).2 = 0) (v0 : 0 ≤ vol) (v1 : vol ≤ 100000) :
    Calls Try.prog 14 #[.agg #[.string s, .int .i64 bung, .slice (some ⟨gs, os, none⟩) N cap], .int .i64 vol] w fun e w' => e = .returned (if (tmS bung xs N vol : Int) ≤ enS bung xs N vol then .tuple #[.agg #[.int .i64 0, .int .i64 0], .int .i64 12] else .tuple #[.agg #[.int .i64 (enS bung xs N vol : Int), .int .i64 ((tmS bung xs N vol : Int) - 1)], .int .i64 0]) ∧ Below w.heap.size w w' := by
  have hc := caskS_ok hl hz
  have b8 := hc.hi
  have b10 := hc.lo
  have HVs := Lib.hid (fun w' (h : WinAt gs os xs w') => ves_any (s := s) (w := w') hN hl h hcap hz)
  have HN := Lib.hid (fun w' => numS vol 0 100000 w')
  rw [numE_yes v0 v1] at HN
  have HD := Lib.hid (fun z2 z3 w' => deepest_any s bung z2 z3 w' (by omega) b8)
  have H1 := Lib.hid (fun (z2 z3 : Value) (wb : World) (hV : VolAt (.agg #[.string s, .int .i64 bung, z2, z3]) bung xs N wb) (c1 c2 : Nat) (w' : World) => sea1_any (by omega) b8 hV c1 c2 vol w')
  have H2 := Lib.hid (fun (z2 z3 : Value) (wb : World) (hV : VolAt (.agg #[.string s, .int .i64 bung, z2, z3]) bung xs N wb) (c1 c2 : Nat) (w' : World) => sea2_any (by omega) b8 hV c1 c2 vol w')
  have e1 := enS_le bung xs N vol
  have e2 := tmS_le bung xs N vol
  obtain ⟨en, hen⟩ : ∃ z, enS bung xs N vol = z := ⟨_, rfl⟩
  obtain ⟨tm, htm⟩ : ∃ z, tmS bung xs N vol = z := ⟨_, rfl⟩
  rw [hen] at H1 e1 ⊢
  rw [htm] at H2 e2 ⊢
  have i1 : (en : Int) ≤ 1601 := by omega
  have i2 : (tm : Int) ≤ 1601 := by omega
  clear hen htm e1 e2 hz hl hN hcap hc
  have HW := Lib.hid hw
  clear hw
  have hf0 : firstL [0, 0] = 0 := rfl
  by_cases hge : (tm : Int) ≤ (en : Int)
  · rw [if_pos hge]
    go_enter Try.func14, Try.ntmps14
    go_upto_region 1 with fail
    refine nameWorld (fun w' => w'.cell? ⟨w.heap.size, 0, none⟩ = some (.string s) ∧ w'.cell? ⟨w.heap.size, 1, none⟩ = some (.int .i64 bung) ∧ w'.cell? ⟨w.heap.size, 2, none⟩ = some (.slice (some ⟨gs, os, none⟩) N cap) ∧ w'.cell? ⟨w.heap.size + 1, 0, none⟩ = some (.int .i64 vol) ∧ w'.cell? ⟨w.heap.size + 1 + 1, 0, none⟩ = some (.int .i64 0) ∧ w'.cell? ⟨w.heap.size + 1 + 1, 1, none⟩ = some (.int .i64 0) ∧ w'.frozen? ⟨w.heap.size + 1 + 1, 0, none⟩ = false ∧ w'.frozen? ⟨w.heap.size + 1 + 1, 1, none⟩ = false ∧ Below w.heap.size w w') ⟨by go_cell, by go_cell, by go_cell, by go_cell, by go_cell, by go_cell, (newBoth (by simp only [World.size_alloc]) (Below.refl _ _) 0 _ rfl).2, (newBoth (by simp only [World.size_alloc]) (Below.refl _ _) 1 _ rfl).2, by go_grown⟩ (fun wc hc => ?_)
    obtain ⟨x0, x1, x2, x3, r0, r1, f0, f1, hB⟩ := hc
    have HWc := HW.out.keep hB
    go_wp2_with (first | (go_at_call 28; (with_reducible refine Calls.mono (HVs.out _ HWc) ?_); rintro e w1 ⟨⟨p2, n2, c2, p3, n3, c3, rfl, hV⟩, hb1⟩; have HV := Lib.hid hV; clear hV; have y3 := keepC hb1 x3; have s0 := keepC hb1 r0; have s1 := keepC hb1 r1; have g0 := keepF hb1 r0 f0; have g1 := keepF hb1 r1 f1; have L1 := World.block_lt_of_cell? w1 _ y3; have L2 := World.block_lt_of_cell? w1 _ s0) |
      (go_at_call 32; (with_reducible refine Calls.mono (HN.out _) ?_); rintro e w2 ⟨rfl, hb2⟩; have HB2 : Below w1.heap.size w1 w2 := belowSeq hb2 ((Below.refl _ _).alloc (Nat.le_refl _) _); have q0 := (newBoth rfl hb2 0 _ rfl).1; have q1 := (newBoth rfl hb2 1 _ rfl).1; have q2 := (newBoth rfl hb2 2 _ rfl).1; have q3 := (newBoth rfl hb2 3 _ rfl).1; have L3 := World.block_lt_of_cell? w2 _ q0) |
      (go_at_call 29; (with_reducible refine Calls.mono (first2L_any _ _ _ _ (newCell 0 _ rfl) (newCell 1 _ rfl)) ?_); rintro e w3 ⟨rfl, rfl⟩) |
      (go_at_call 33; (with_reducible refine Calls.mono (HD.out _ _ _) ?_); rintro e w4 ⟨rfl, hb4⟩; have H24 : Below w2.heap.size w2 w4 := belowSeq hb4 ((Below.refl _ _).alloc (Nat.le_refl _) _); have HB4 := belowSeq2 HB2 H24; have z3 := keepC HB4 y3; have h4c : Held4 w4 w1.heap.size s bung (.slice p2 n2 c2) (.slice p3 n3 c3) := ⟨keepC H24 q0, keepC H24 q1, keepC H24 q2, keepC H24 q3⟩) |
      (go_at_call 34; (with_reducible refine Calls.mono (H1.out _ _ _ HV.out _ _ _ HB4 h4c z3) ?_); rintro e w5 ⟨rfl, hb5⟩; have H25 := belowSeq2 H24 hb5; have HB5 := belowSeq2 HB4 hb5; have u3 := keepC HB5 y3; have h5c := h4c.keep hb5) |
      (go_at_call 34; (with_reducible refine Calls.mono (H2.out _ _ _ HV.out _ _ _ HB5 h5c u3) ?_); rintro e w6 ⟨rfl, hb6⟩; have HB6 := belowSeq2 HB5 hb6; have m0 := keepC HB6 s0; have m1 := keepC HB6 s1; have o0 := keepF HB6 s0 g0; have o1 := keepF HB6 s1 g1; have HE := belowSeq2 (belowSeq2 hB hb1) HB6))
    obtain ⟨t0, t1⟩ := set2 m0 m1 (.int .i64 0) (.int .i64 0)
    (with_reducible refine bodyPost_ret (v := .tuple #[.agg #[.int .i64 0, .int .i64 0], .int .i64 12]) ?_ rfl ?_)
    · simp [results, Try.results14, go_sem, t0, t1]
    · exact ⟨rfl, (HE.setCell (by show w.heap.size ≤ w.heap.size + 1 + 1; omega) _).setCell (by show w.heap.size ≤ w.heap.size + 1 + 1; omega) _⟩
  · rw [if_neg hge]
    go_enter Try.func14, Try.ntmps14
    go_upto_region 1 with fail
    refine nameWorld (fun w' => w'.cell? ⟨w.heap.size, 0, none⟩ = some (.string s) ∧ w'.cell? ⟨w.heap.size, 1, none⟩ = some (.int .i64 bung) ∧ w'.cell? ⟨w.heap.size, 2, none⟩ = some (.slice (some ⟨gs, os, none⟩) N cap) ∧ w'.cell? ⟨w.heap.size + 1, 0, none⟩ = some (.int .i64 vol) ∧ w'.cell? ⟨w.heap.size + 1 + 1, 0, none⟩ = some (.int .i64 0) ∧ w'.cell? ⟨w.heap.size + 1 + 1, 1, none⟩ = some (.int .i64 0) ∧ w'.frozen? ⟨w.heap.size + 1 + 1, 0, none⟩ = false ∧ w'.frozen? ⟨w.heap.size + 1 + 1, 1, none⟩ = false ∧ Below w.heap.size w w') ⟨by go_cell, by go_cell, by go_cell, by go_cell, by go_cell, by go_cell, (newBoth (by simp only [World.size_alloc]) (Below.refl _ _) 0 _ rfl).2, (newBoth (by simp only [World.size_alloc]) (Below.refl _ _) 1 _ rfl).2, by go_grown⟩ (fun wc hc => ?_)
    obtain ⟨x0, x1, x2, x3, r0, r1, f0, f1, hB⟩ := hc
    have HWc := HW.out.keep hB
    go_wp2_with (first | (go_at_call 28; (with_reducible refine Calls.mono (HVs.out _ HWc) ?_); rintro e w1 ⟨⟨p2, n2, c2, p3, n3, c3, rfl, hV⟩, hb1⟩; have HV := Lib.hid hV; clear hV; have y3 := keepC hb1 x3; have s0 := keepC hb1 r0; have s1 := keepC hb1 r1; have g0 := keepF hb1 r0 f0; have g1 := keepF hb1 r1 f1; have L1 := World.block_lt_of_cell? w1 _ y3; have L2 := World.block_lt_of_cell? w1 _ s0) |
      (go_at_call 32; (with_reducible refine Calls.mono (HN.out _) ?_); rintro e w2 ⟨rfl, hb2⟩; have HB2 : Below w1.heap.size w1 w2 := belowSeq hb2 ((Below.refl _ _).alloc (Nat.le_refl _) _); have q0 := (newBoth rfl hb2 0 _ rfl).1; have q1 := (newBoth rfl hb2 1 _ rfl).1; have q2 := (newBoth rfl hb2 2 _ rfl).1; have q3 := (newBoth rfl hb2 3 _ rfl).1; have L3 := World.block_lt_of_cell? w2 _ q0) |
      (go_at_call 29; (with_reducible refine Calls.mono (first2L_any _ _ _ _ (newCell 0 _ rfl) (newCell 1 _ rfl)) ?_); rintro e w3 ⟨rfl, rfl⟩) |
      (go_at_call 33; (with_reducible refine Calls.mono (HD.out _ _ _) ?_); rintro e w4 ⟨rfl, hb4⟩; have H24 : Below w2.heap.size w2 w4 := belowSeq hb4 ((Below.refl _ _).alloc (Nat.le_refl _) _); have HB4 := belowSeq2 HB2 H24; have z3 := keepC HB4 y3; have h4c : Held4 w4 w1.heap.size s bung (.slice p2 n2 c2) (.slice p3 n3 c3) := ⟨keepC H24 q0, keepC H24 q1, keepC H24 q2, keepC H24 q3⟩) |
      (go_at_call 34; (with_reducible refine Calls.mono (H1.out _ _ _ HV.out _ _ _ HB4 h4c z3) ?_); rintro e w5 ⟨rfl, hb5⟩; have H25 := belowSeq2 H24 hb5; have HB5 := belowSeq2 HB4 hb5; have u3 := keepC HB5 y3; have h5c := h4c.keep hb5) |
      (go_at_call 34; (with_reducible refine Calls.mono (H2.out _ _ _ HV.out _ _ _ HB5 h5c u3) ?_); rintro e w6 ⟨rfl, hb6⟩; have HB6 := belowSeq2 HB5 hb6; have m0 := keepC HB6 s0; have m1 := keepC HB6 s1; have o0 := keepF HB6 s0 g0; have o1 := keepF HB6 s1 g1; have HE := belowSeq2 (belowSeq2 hB hb1) HB6))
    obtain ⟨t0, t1⟩ := set2 m0 m1 (.int .i64 (en : Int)) (.int .i64 ((tm : Int) - 1))
    (with_reducible refine bodyPost_ret (v := .tuple #[.agg #[.int .i64 (en : Int), .int .i64 ((tm : Int) - 1)], .int .i64 0]) ?_ rfl ?_)
    · simp [results, Try.results14, go_sem, t0, t1]
    · exact ⟨rfl, (HE.setCell (by show w.heap.size ≤ w.heap.size + 1 + 1; omega) _).setCell (by show w.heap.size ≤ w.heap.size + 1 + 1; omega) _⟩
end Sy
end Go.Proofs.Ytpidgcmdimjkoaa
