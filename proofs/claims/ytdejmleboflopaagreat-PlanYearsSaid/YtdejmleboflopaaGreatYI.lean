/- The law PlanYears of any input: put together. -/
import Derived.Test.YtdejmleboflopaaGreatYH
set_option linter.unusedVariables false
set_option linter.unusedSimpArgs false
namespace Go.Proofs.YtdejmleboflopaaGreat
open Go.RowKit
namespace Sy
open Go.RowKit

theorem yeRW {N : Nat} (h : 1 ≤ N ∧ N ≤ 4) : YeR (pS N) true := by
  obtain rfl | rfl | rfl | rfl : N = 1 ∨ N = 2 ∨ N = 3 ∨ N = 4 := by omega
  · exact yeRW1
  · exact yeRW2
  · exact yeRW3
  · exact yeRW4
theorem yeV_A {A : Int} (h : A ≠ 0) (full : Nat → Bool) (dr : Nat → Int) (k : Nat) : yeV A full dr k = A := by
  have e : yeF A dr k = A := by unfold yeF; rw [firstL_if, if_neg h]
  unfold yeV
  rw [e, if_pos h]
theorem yeF_D (dr : Nat → Int) (k : Nat) : yeF 0 dr k = deV dr k := by
  unfold yeF deV
  rw [firstL_if, if_pos rfl]
  by_cases h : k ≤ 30
  · rw [if_pos h, if_pos rfl, if_pos h]
  · rw [if_neg h, if_neg (by decide), if_neg h]
theorem yeV_D {dr : Nat → Int} {k : Nat} (h : deV dr k ≠ 0) (full : Nat → Bool) : yeV 0 full dr k = deV dr k := by
  unfold yeV
  rw [yeF_D, if_pos h]
theorem yeV_0 {dr : Nat → Int} {k : Nat} (h : deV dr k = 0) (full : Nat → Bool) : yeV 0 full dr k = if (List.range k).any full = true then 16 else 0 := by
  unfold yeV
  rw [yeF_D, if_neg (by rw [h]; decide)]
def o0 : Ot := ⟨0, 0, 0, 0, 0, 0, 0, 0, fun _ => 0, fun _ => 0, 0, 0, 0⟩
section
variable {B : Yr} {sa sb sd : Option Addr} {gs gb gd cp cb cd : Nat} {w : World}
theorem bN_ {o : Ot} : Dv (DZ (Yo B o)) hLs (B.n : Int) := zN (Y := Yo B o)
theorem bM_ {o : Ot} : Dv (DZ (Yo B o)) hLb (B.m : Int) := zM (Y := Yo B o)
theorem bK_ {o : Ot} : Dv (DZ (Yo B o)) hLd (B.k : Int) := zK (Y := Yo B o)
theorem dot (o : Ot) (i : Nat) {x : Int} (h : otY o (160 + i) = x) : Dv (DZ (Yo B o)) (hO i) x := by rw [← h]; exact zO (Y := Yo B o) i
theorem okSame {o : Ot} (i : Nat) : OkF (DZ (Yo B o)) (same (hO i)) := eq_yes (zO i) (zO i) rfl
theorem early {l : List Fact} (o : Ot) (hl : ∀ f ∈ l, OkF (DZ (Yo B o)) f) (hrun : RunL (Yo B o) l [] [sN, bN, dN]) (I : Inp B sa sb sd gs gb gd cp cb cd w) : LawY B w :=
  fin hl (fun e he => by cases he) hrun (by decide) rfl (prSN I o w) (prBN I o w) (prDN I o w)
theorem okPre {o : Ot} (h1 : B.n ≤ 6) (h2 : B.m ≤ 6) : ∀ f ∈ qPre, OkF (DZ (Yo B o)) f := ok2 (le_yes bN_ (.lit 6) (by omega)) (lt_no (.lit 6) bM_ (by omega))
theorem okSm {o : Ot} (h1 : B.n ≤ 6) (h2 : B.m ≤ 6) (h3 : B.k ≤ 6) : ∀ f ∈ qSm, OkF (DZ (Yo B o)) f := ok_app (okPre h1 h2) (ok2 (lt_no (.lit 6) bK_ (by omega)) (lt_no (.lit 32) bK_ (by omega)))
theorem okBg {o : Ot} (h1 : B.n ≤ 6) (h2 : B.m ≤ 6) (h3 : B.k = 31 ∨ B.k = 32) : ∀ f ∈ qBg, OkF (DZ (Yo B o)) f := ok_app (okPre h1 h2) (okc (lt_yes (.lit 6) bK_ (by omega)) (ok2 (le_no bK_ (.lit 30) (by omega)) (lt_no (.lit 32) bK_ (by omega))))
theorem qAny (h1 : B.n ≤ 6) (h2 : B.m ≤ 6) (hk : B.k ≤ 6 ∨ B.k = 31 ∨ B.k = 32) : ∃ q, (q = qSm ∨ q = qBg) ∧ ∀ o, ∀ f ∈ q, OkF (DZ (Yo B o)) f := by
  rcases hk with h | h
  · exact ⟨qSm, .inl rfl, fun o => okSm h1 h2 h⟩
  · exact ⟨qBg, .inr rfl, fun o => okBg h1 h2 h⟩
/-- the system is wrong -/
def oW (B : Yr) (ck E : Int) : Ot := ⟨ck, E, if B.m = 0 then 0 else 10, nusE B.dr 0 20000 B.k, yeV (if B.m = 0 then 0 else 10) (fun _ => false) B.dr B.k, 0, 0, 0, fun _ => 0, fun _ => 0, 0, 0, 0⟩
theorem years_W (I : Inp B sa sb sd gs gb gd cp cb cd w) (h1 : B.n ≤ 6) (h2 : B.m ≤ 6) (hk : B.k ≤ 6 ∨ B.k = 31 ∨ B.k = 32) {ck E : Int} (hans : SysAns B.nw B.sc B.n ck E) (hE : E ≠ 0) : LawY B w := by
  obtain ⟨q, hq, okq⟩ := qAny h1 h2 hk
  obtain ⟨s, s1, s2, s3⟩ := formS I h1
  obtain ⟨b, b1, b2, b3⟩ := formB I h2
  obtain ⟨d, d1, d2, d3, d4⟩ := formD I hk
  have hsys : EntZ (Yo B (oW B ck E)) eSys := z_sys sysA hans rfl rfl
  have hag : EntZ (Yo B (oW B ck E)) (eAg sE) := z_agE rfl
  have hye : EntZ (Yo B (oW B ck E)) (eYe sE dA) := z_ye yeRE (full := fun _ => false) (fun _ _ => rfl) hag rfl rfl (fun hk6 y hy => by
    have hy' : y < 10 := by omega
    exact ⟨z_fuE (by omega) (otY_fu _ hy'), otY_fu _ hy'⟩) hk rfl
  refine fin (o := oW B ck E) (l := f1 q) (ok_app (okq _) (ok2 (eq_no (dot _ 1 (x := E) rfl) (.lit 0) hE) (okSame 1))) (L := l1 s b d) (fun e he => ?_) (r1_any s1 b1 d1 hq) (forms_len s1 b1 d1) (forms_num s1 b1 d1) (s3 _).1 (b3 _).1 (d4 _).1
  simp only [l1, List.mem_cons, List.not_mem_nil, or_false] at he
  rcases he with rfl | rfl | rfl | rfl | rfl | rfl | rfl
  · exact ⟨(s3 _).2.1, nwO⟩
  · exact ⟨(b3 _).2.1, nwO⟩
  · exact ⟨(d4 _).2.1, nwO⟩
  · exact ⟨z_aaW (E := E) hsys hye rfl hE rfl, nwV⟩
  · exact ⟨z_fsW (E := E) hsys hye rfl hE rfl, nwV⟩
  · exact ⟨z_gnW (E := E) hsys hag rfl hE, nwV⟩
  · exact ⟨(s3 _).2.2 hans _ (dot _ 1 rfl), nwV⟩
def fullV (B : Yr) (y : Nat) : Bool := fullZ B.sc B.n (B.dr y)
/-- the system is right -/
def oR (B : Yr) (ck A gn : Int) : Ot := ⟨ck, 0, A, nusE B.dr 0 20000 B.k, yeV A (fullV B) B.dr B.k, gn, deV B.dr B.k, 16, fun y => if fullV B y = true then 16 else 0, shyV B, (fsG (shyV B) B.k 0).1, (fsG (shyV B) B.k 0).2.1, (fsG (shyV B) B.k 0).2.2⟩
theorem r_sys {ck A gn : Int} (hans : SysAns B.nw B.sc B.n ck 0) : EntZ (Yo B (oR B ck A gn)) eSys := z_sys sysA hans rfl rfl
theorem r_ye {ck A gn : Int} (hN : 1 ≤ B.n ∧ B.n ≤ 4) (hag : AgAns B.nw B.sc B.bg B.n B.m A) (hk : B.k ≤ 6 ∨ B.k = 31 ∨ B.k = 32) : EntZ (Yo B (oR B ck A gn)) (eYe sA dA) :=
  z_ye yeRA (full := fullV B) (fun h => by cases h) (z_ag sysA hag rfl) rfl rfl (fun hk6 y hy => by
    have hk6 : B.k ≤ 6 := hk6
    have hy : y < B.k := hy
    have hy' : y < 10 := by omega
    exact ⟨z_fu sysA (by omega) hN (otY_fu _ hy'), otY_fu _ hy'⟩) hk rfl
theorem r_yeW {ck A gn : Int} {p : Pt} (hr : YeR p true) (hp : SysPat (Yo B (oR B ck A gn)) p) (hN : 1 ≤ B.n ∧ B.n ≤ 4) (hag : AgAns B.nw B.sc B.bg B.n B.m A) (hk6 : B.k ≤ 6) (hF : yeF A B.dr B.k = 0) : EntZ (Yo B (oR B ck A gn)) (eYe p (dW B.k)) :=
  z_yeW hr (full := fullV B) (fun h => by cases h) (z_ag hp hag rfl) rfl rfl (fun y hy => by
    have hy : y < B.k := hy
    have hy' : y < 10 := by omega
    exact ⟨z_fu hp (by omega) hN (otY_fu _ hy'), otY_fu _ hy'⟩) hk6 hF rfl
theorem years_X (I : Inp B sa sb sd gs gb gd cp cb cd w) (h1 : B.n ≤ 6) (h2 : B.m ≤ 6) (hk : B.k ≤ 6 ∨ B.k = 31 ∨ B.k = 32) {ck A : Int} (hans : SysAns B.nw B.sc B.n ck 0) (hN : 1 ≤ B.n ∧ B.n ≤ 4) (hag : AgAns B.nw B.sc B.bg B.n B.m A) (hA : A ≠ 0) : LawY B w := by
  obtain ⟨q, hq, okq⟩ := qAny h1 h2 hk
  obtain ⟨s, s1, s2, s3⟩ := formS I h1
  obtain ⟨b, b1, b2, b3⟩ := formB I h2
  obtain ⟨d, d1, d2, d3, d4⟩ := formD I hk
  obtain rfl := s2 (by omega)
  have hsys := r_sys (A := A) (gn := 0) hans
  have hye := r_ye (ck := ck) (gn := 0) hN hag hk
  have eye : otY (oR B ck A 0) (160 + 4) = A := yeV_A hA _ _ _
  refine fin (o := oR B ck A 0) (l := f2 q) (ok_app (okq _) (ok2 (eq_no (dot _ 2 (x := A) rfl) (.lit 0) hA) (okSame 2))) (L := l2 b d) (fun e he => ?_) (r2_any b1 d1 hq) (forms_len s1 b1 d1) (forms_num s1 b1 d1) (s3 _).1 (b3 _).1 (d4 _).1
  simp only [l2, List.mem_cons, List.not_mem_nil, or_false] at he
  rcases he with rfl | rfl | rfl | rfl | rfl | rfl | rfl | rfl
  · exact ⟨(s3 _).2.1, nwO⟩
  · exact ⟨(b3 _).2.1, nwO⟩
  · exact ⟨(d4 _).2.1, nwO⟩
  · exact ⟨z_tup (z_aaX hsys hye rfl (by show otY (oR B ck A 0) (160 + 4) ≠ 0; rw [eye]; exact hA)) (dot _ 4 eye) (dot _ 2 rfl) (id2 _), nwV⟩
  · exact ⟨z_tup (z_fsX hsys hye rfl (by show otY (oR B ck A 0) (160 + 4) ≠ 0; rw [eye]; exact hA)) (dot _ 4 eye) (dot _ 2 rfl) (id2 _), nwV⟩
  · exact ⟨z_gnX hsys (z_ag sysA hag rfl) rfl hA, nwV⟩
  · exact ⟨(s3 _).2.2 hans _ (.lit 0), nwV⟩
  · exact ⟨(b3 _).2.2 hag _ (dot _ 2 rfl), nwV⟩
/-! The system and its ages are right. -/
theorem z_gn {o : Ot} {n : Nat} (h : SysOk B.nw B.sc B.bg B.n) (hm : B.m = B.n) (hn : n ≤ 20001) (hbad : ¬ goodB B.nw B.sc B.bg B.n n) (hl : ∀ d : Nat, d < n → goodB B.nw B.sc B.bg B.n d) (ho : otY o (160 + 5) = (n : Int) - 1) : EntZ (Yo B o) (eGN (gP (decide (n ≠ 0)))) := fun args' w h' => by
  obtain ⟨a, b, rfl, k1, k2⟩ := pts2 h'
  obtain ⟨g, o', cap, rfl, hw⟩ := sysA _ _ k1
  obtain ⟨g2, o2, cap2, rfl, hw2⟩ := lstBA _ _ k2
  have e1 : (Yo B o).n = B.n := rfl
  have e2 : (Yo B o).m = B.n := hm
  rw [e2] at hw2 ⊢
  refine Calls.mono (gn_any h hbad hl hn hw hw2) ?_
  rintro e w2 ⟨rfl, hb⟩
  refine ⟨hb, _, rfl, fun M => ?_⟩
  unfold gP
  by_cases h0 : n = 0
  · rw [if_pos h0, if_pos h0, if_neg (by simp [h0])]
    exact LRel.tup (LRel.cons (.int .i64 0) (LRel.cons (.int .i64 12) (LRel.nil M)))
  · rw [if_neg h0, if_neg h0, if_pos (by simp [h0])]
    exact LRel.tup (LRel.cons (Dv.vrel (P := pgY (Yo B o) [] nilZ) (dot o 5 ho)) (LRel.cons (.int .i64 0) (LRel.nil M)))
theorem z_rg {o : Ot} {n : Nat} (h : SysOk B.nw B.sc B.bg B.n) (hm : B.m = B.n) (hn : n ≤ 20001) (hbad : ¬ goodB B.nw B.sc B.bg B.n n) (hl : ∀ d : Nat, d < n → goodB B.nw B.sc B.bg B.n d) (ho : otY o (160 + 5) = (n : Int) - 1) : EntZ (Yo B o) (eRG (gR (decide (n ≠ 0)))) :=
  z_num (x := (n : Int) - 1) (by
    unfold gR
    by_cases h0 : n = 0
    · rw [if_neg (by simp [h0]), h0]; exact .lit (-1)
    · rw [if_pos (by simp [h0])]; exact dot o 5 ho) fun args' w h' => by
    obtain ⟨a, b, rfl, k1, k2⟩ := pts2 h'
    obtain ⟨g, o', cap, rfl, hw⟩ := sysOr _ _ k1
    obtain ⟨g2, o2, cap2, rfl, hw2⟩ := lstBO _ _ k2
    have e2 : (Yo B o).m = B.n := hm
    rw [e2] at hw2 ⊢
    exact Calls.mono (rg_any h hbad hl hn hw hw2) fun e w2 h => ⟨h.2, h.1⟩
theorem okGF {o : Ot} {n : Nat} (ho : otY o (160 + 5) = (n : Int) - 1) : ∀ f ∈ gF (decide (n ≠ 0)), OkF (DZ (Yo B o)) f := by
  unfold gF
  by_cases h0 : n = 0
  · rw [if_neg (by simp [h0])]; exact nilZ
  · rw [if_pos (by simp [h0])]
    exact okc (lt_no (dot o 5 ho) (.lit 0) (by omega)) (ok2 (le_yes (.lit 0) (dot o 5 ho) (by omega)) (okSame 5))
theorem lstEnd {o : Ot} (hm : B.m = B.n) {K : Nat} (hK : K ≤ 6) : LstPat (Yo B o) 2 (agV B K) B.n (.s (endO K) (endT K)) := by
  unfold endO endT
  by_cases h0 : K = 0
  · subst h0
    rw [if_pos rfl, if_pos rfl]
    intro w v h
    have := lstBA (Y := Yo B o) w v h
    have e2 : (Yo B o).m = B.n := hm
    rwa [e2] at this
  · rw [if_neg h0, if_neg h0]
    exact lstAg (Y := Yo B o) (by omega) zN
theorem z_rn {o : Ot} (hN : 1 ≤ B.n ∧ B.n ≤ 4) (hm : B.m = B.n) {K : Nat} (hK : K ≤ 6) : EntZ (Yo B o) (eRn K) := fun args' w h' => by
  obtain ⟨a, b, rfl, k1, k2⟩ := pts2 h'
  obtain ⟨g, o', cap, rfl, hw⟩ := lstEnd hm hK _ _ k1
  obtain ⟨g2, o2, cap2, rfl, hw2⟩ := lstEnd hm hK _ _ k2
  refine Calls.mono (rn_key hN hw hw2) ?_
  rintro e w2 ⟨hb, rfl⟩
  exact ⟨hb, _, rfl, fun M => .bool true⟩
theorem years_G (I : Inp B sa sb sd gs gb gd cp cb cd w) (h1 : B.n ≤ 6) (h2 : B.m ≤ 6) (hk : B.k ≤ 6 ∨ B.k = 31 ∨ B.k = 32) {ck : Int} (hans : SysAns B.nw B.sc B.n ck 0) (hs : SysOk B.nw B.sc B.bg B.n) (hm : B.m = B.n) (hag : AgAns B.nw B.sc B.bg B.n B.m 0) : LawY B w := by
  have hN : 1 ≤ B.n ∧ B.n ≤ 4 := ⟨hs.n1, hs.n4⟩
  obtain ⟨q, hq, okq⟩ := qAny h1 h2 hk
  obtain ⟨s, s1, s2, s3⟩ := formS I h1
  obtain ⟨b, b1, b2, b3⟩ := formB I h2
  obtain ⟨d, d1, d2, d3, d4⟩ := formD I hk
  obtain rfl := s2 (by omega)
  obtain rfl := b2 (by omega)
  obtain ⟨n, hn, hbad, hl⟩ := least_bad hs
  have hsys := r_sys (A := 0) (gn := (n : Int) - 1) hans
  have hye := r_ye (ck := ck) (gn := (n : Int) - 1) hN hag hk
  have hgn : EntZ (Yo B (oR B ck 0 ((n : Int) - 1))) (eGN (gP (decide (n ≠ 0)))) := z_gn hs hm hn hbad hl rfl
  have hrg : EntZ (Yo B (oR B ck 0 ((n : Int) - 1))) (eRG (gR (decide (n ≠ 0)))) := z_rg hs hm hn hbad hl rfl
  have hgf : ∀ f ∈ gF (decide (n ≠ 0)), OkF (DZ (Yo B (oR B ck 0 ((n : Int) - 1)))) f := okGF rfl
  by_cases hde : deV B.dr B.k = 0
  case neg =>
    have eye : otY (oR B ck 0 ((n : Int) - 1)) (160 + 4) = deV B.dr B.k := yeV_D hde _
    refine fin (o := oR B ck 0 ((n : Int) - 1)) (l := f3 q (decide (n ≠ 0))) (ok_app (okq _) (ok_app hgf (ok2 (eq_no (dot _ 8 (x := deV B.dr B.k) rfl) (.lit 0) hde) (okSame 8)))) (L := l3 d (decide (n ≠ 0))) (fun e he => ?_) (r3_any d1 hq) (forms_len s1 b1 d1) (forms_num s1 b1 d1) (s3 _).1 (b3 _).1 (d4 _).1
    simp only [l3, List.mem_cons, List.not_mem_nil, or_false] at he
    rcases he with rfl | rfl | rfl | rfl | rfl | rfl | rfl | rfl | rfl | rfl
    · exact ⟨(s3 _).2.1, nwO⟩
    · exact ⟨(b3 _).2.1, nwO⟩
    · exact ⟨(d4 _).2.1, nwO⟩
    · exact ⟨z_tup (z_aaX hsys hye rfl (by show otY (oR B ck 0 ((n : Int) - 1)) (160 + 4) ≠ 0; rw [eye]; exact hde)) (dot _ 4 eye) (dot _ 8 rfl) (id2 _), nwV⟩
    · exact ⟨z_tup (z_fsX hsys hye rfl (by show otY (oR B ck 0 ((n : Int) - 1)) (160 + 4) ≠ 0; rw [eye]; exact hde)) (dot _ 4 eye) (dot _ 8 rfl) (id2 _), nwV⟩
    · exact ⟨hgn, nwV⟩
    · exact ⟨(s3 _).2.2 hans _ (.lit 0), nwV⟩
    · exact ⟨(b3 _).2.2 hag _ (.lit 0), nwV⟩
    · exact ⟨hrg, nwV⟩
    · exact ⟨(d4 _).2.2 _ (dot _ 8 rfl), nwV⟩
  case pos =>
    have hk6 : B.k ≤ 6 := by
      rcases hk with h | h
      · exact h
      · unfold deV at hde
        rw [if_neg (by omega)] at hde
        cases hde
    have hF : yeF 0 B.dr B.k = 0 := by rw [yeF_D]; exact hde
    have g : Good (Yo B (oR B ck 0 ((n : Int) - 1))) := ⟨hN, hm, hk6, hs.v0⟩
    have eye : otY (oR B ck 0 ((n : Int) - 1)) (160 + 4) = if (List.range B.k).any (fullV B) = true then 16 else 0 := yeV_0 hde _
    rcases first_of (fullV B) B.k with hz | ⟨y, hy, hz1, hz2⟩
    · have e0 : otY (oR B ck 0 ((n : Int) - 1)) (160 + 4) = 0 := by
        rw [eye, if_neg]
        rw [List.any_eq_true]
        rintro ⟨y, hy, hf⟩
        rw [hz y (List.mem_range.1 hy)] at hf
        cases hf
      have hyw := r_yeW (ck := ck) (gn := (n : Int) - 1) yeRA sysA hN hag hk6 hF
      have hyW := r_yeW (ck := ck) (gn := (n : Int) - 1) (yeRW hN) (sysWn rfl hN.2) hN hag hk6 hF
      have hra := ra_key g hz
      refine fin (o := oR B ck 0 ((n : Int) - 1)) (l := f5 (decide (n ≠ 0))) (ok_app (okSm h1 h2 hk6) (ok_app hgf (okc (okSame 32) (ok2 (okSame 30) (okSame 31))))) (L := l5 d (decide (n ≠ 0)) B.k) (fun e he => ?_) (r5_any hk6 d1) (forms_len s1 b1 d1) (forms_num s1 b1 d1) (s3 _).1 (b3 _).1 (d4 _).1
      simp only [l5, List.mem_cons, List.not_mem_nil, or_false] at he
      rcases he with rfl | rfl | rfl | rfl | rfl | rfl | rfl | rfl | rfl | rfl | rfl | rfl | rfl
      · exact ⟨(s3 _).2.1, nwO⟩
      · exact ⟨(b3 _).2.1, nwO⟩
      · exact ⟨(d4 _).2.1, nwO⟩
      · exact ⟨z_aaG g hsys hyw rfl e0, fun o mk e => by cases e; exact endO_nw B.k⟩
      · exact ⟨z_fsG g (z_sys (sysWn rfl hN.2) hans rfl rfl) hyW rfl e0 rfl rfl rfl, nwV⟩
      · exact ⟨hgn, nwV⟩
      · exact ⟨(s3 _).2.2 hans _ (.lit 0), nwV⟩
      · exact ⟨(b3 _).2.2 hag _ (.lit 0), nwV⟩
      · exact ⟨hrg, nwV⟩
      · exact ⟨(d4 _).2.2 _ (by rw [hde]; exact .lit 0), nwV⟩
      · refine ⟨?_, fun o mk e => by cases e; exact endO_nw B.k⟩
        rcases d1 with rfl | rfl
        · exact z_last hra (dWO (by show B.k ≤ 40; omega))
        · have := raN_key g (d3 rfl)
          rw [d3 rfl]
          exact this
      · refine ⟨?_, nwV⟩
        rcases d1 with rfl | rfl
        · exact z_last (rf_key g hz hra (fun y hy => otY_sh _ (by have : y < B.k := hy; omega)) rfl rfl rfl) (dWO (by show B.k ≤ 40; omega))
        · have hk0 := d3 rfl
          exact rfN_key g hk0 (raN_key g hk0) (by show (fsG (shyV B) B.k 0).1 = 0; rw [hk0]; rfl) (by show (fsG (shyV B) B.k 0).2.1 = 0; rw [hk0]; rfl) (by show (fsG (shyV B) B.k 0).2.2 = 12; rw [hk0]; rfl)
      · exact ⟨z_rn hN hm hk6, nwV⟩
    · have e16 : otY (oR B ck 0 ((n : Int) - 1)) (160 + 4) = 16 := by
        rw [eye, if_pos (List.any_eq_true.2 ⟨y, List.mem_range.2 hy, hz1⟩)]
      obtain rfl := d2 (by omega)
      have hraf := raf_key g (y := y) hy hz2 hz1
      refine fin (o := oR B ck 0 ((n : Int) - 1)) (l := f4 (decide (n ≠ 0))) (ok_app (okSm h1 h2 hk6) (ok_app hgf (ok_one (okSame 4)))) (L := l4 dOr (decide (n ≠ 0))) (fun e he => ?_) (r4_any d1) (forms_len s1 b1 d1) (forms_num s1 b1 d1) (s3 _).1 (b3 _).1 (d4 _).1
      simp only [l4, List.mem_cons, List.not_mem_nil, or_false] at he
      rcases he with rfl | rfl | rfl | rfl | rfl | rfl | rfl | rfl | rfl | rfl | rfl | rfl
      · exact ⟨(s3 _).2.1, nwO⟩
      · exact ⟨(b3 _).2.1, nwO⟩
      · exact ⟨(d4 _).2.1, nwO⟩
      · exact ⟨z_aaX hsys hye rfl (by show otY (oR B ck 0 ((n : Int) - 1)) (160 + 4) ≠ 0; rw [e16]; decide), nwV⟩
      · exact ⟨z_fsX hsys hye rfl (by show otY (oR B ck 0 ((n : Int) - 1)) (160 + 4) ≠ 0; rw [e16]; decide), nwV⟩
      · exact ⟨hgn, nwV⟩
      · exact ⟨(s3 _).2.2 hans _ (.lit 0), nwV⟩
      · exact ⟨(b3 _).2.2 hag _ (.lit 0), nwV⟩
      · exact ⟨hrg, nwV⟩
      · exact ⟨(d4 _).2.2 _ (by rw [hde]; exact .lit 0), nwV⟩
      · exact ⟨z_last (z_tup hraf (.lit 16) (dot _ 4 e16) (id2 _)) (dWO (by show B.k ≤ 40; omega)), nwV⟩
      · exact ⟨z_last (z_tup (rfe_key (c := 16) hk6 rfl (by decide) (z_tup hraf (.lit 16) (dot _ 9 rfl) (id2 _))) (dot _ 9 (x := 16) rfl) (dot _ 4 e16) (id2 _)) (dWO (by show B.k ≤ 40; omega)), nwV⟩
theorem years_any (I : Inp B sa sb sd gs gb gd cp cb cd w) : LawY B w := by
  rcases Nat.lt_or_ge 6 B.n with h | h1
  · exact early o0 (ok_one (le_no bN_ (.lit 6) (by omega))) (rq1 _) I
  rcases Nat.lt_or_ge 6 B.m with h | h2
  · exact early o0 (ok2 (le_yes bN_ (.lit 6) (by omega)) (lt_yes (.lit 6) bM_ (by omega))) (rq2 _) I
  by_cases h3 : 6 < B.k ∧ B.k ≤ 30
  · exact early o0 (ok_app (okPre h1 h2) (ok2 (lt_yes (.lit 6) bK_ (by omega)) (le_yes bK_ (.lit 30) (by omega)))) (rq3 _) I
  by_cases h4 : 32 < B.k
  · exact early o0 (ok_app (okPre h1 h2) (okc (lt_yes (.lit 6) bK_ (by omega)) (ok2 (le_no bK_ (.lit 30) (by omega)) (lt_yes (.lit 32) bK_ (by omega))))) (rq4 _) I
  have hk : B.k ≤ 6 ∨ B.k = 31 ∨ B.k = 32 := by omega
  obtain ⟨ck, E, hE, hans⟩ := sys_err B.nw B.sc B.n
  rcases hE with ⟨hR, rfl, rfl⟩ | ⟨e0, _⟩
  · have hN : 1 ≤ B.n ∧ B.n ≤ 4 := ⟨hR.n1, hR.n4⟩
    obtain ⟨A, hA, hag⟩ := ages_err B.nw B.sc B.bg B.m hN
    rcases hA with ⟨hG, hm, rfl⟩ | ⟨a0, _⟩
    · exact years_G I h1 h2 hk hans ⟨hR.n1, hR.n4, hR.w0, hR.w1, hR.v0, hR.v1, hR.l0, hR.l1, hR.h0, hR.h1, hR.lh, hR.s0, hR.s1, hG.a0, hG.a1, hG.b0, hG.b1, hG.ab⟩ hm hag
    · exact years_X I h1 h2 hk hans hN hag (by omega)
  · exact years_W I h1 h2 hk hans (by omega)
end
end Sy
end Go.Proofs.YtdejmleboflopaaGreat
