/- The calls of the law GaugeBooks. -/
import Derived.Test.YtlmnhlmgbcpclaaBF
import Derived.Test.YtlmnhlmgbcpclaaJ18
import Derived.Test.YtlmnhlmgbcpclaaRD
set_option linter.unusedVariables false
set_option linter.unusedSimpArgs false
namespace Go.Proofs.Ytlmnhlmgbcpclaa
open Go.RowKit
namespace Sy
open Go.RowKit

theorem EntOk.tup2 {P : Pg} {f : Nat} {p : List Pt} {a b a2 b2 : Value} {x y : Int} (h : EntOk P ⟨f, p, .v (.tuple #[a, b])⟩) (ha : Dv P.den a x) (hb : Dv P.den b y) (ha2 : Dv P.den a2 x) (hb2 : Dv P.den b2 y) : EntOk P ⟨f, p, .v (.tuple #[a2, b2])⟩ := fun args' w k => by
  refine Calls.mono (h args' w k) ?_
  rintro e w' ⟨hb', v', rfl, hr⟩
  have := rel_tup2 (rel_num ha) (rel_num hb) _ (hr _)
  subst this
  exact ⟨hb', _, rfl, fun M => LRel.tup (LRel.cons ha2.vrel (LRel.cons hb2.vrel (LRel.nil M)))⟩
theorem EntOk.num1 {P : Pg} {f : Nat} {p : List Pt} {a : Value} {x : Int} (h : ∀ (args' : Array Value) (w : World), PtsR P w p args'.toList → Calls P.prog f args' w fun r w' => r = .returned (.int .i64 x) ∧ Below w.heap.size w w') (ha : Dv P.den a x) : EntOk P ⟨f, p, .v a⟩ := fun args' w k => by
  refine Calls.mono (h args' w k) ?_
  rintro e w' ⟨rfl, hb⟩
  exact ⟨hb, _, rfl, fun M => ha.vrel⟩
theorem EntOk.bool1 {P : Pg} {f : Nat} {p : List Pt} {b : Bool} (h : ∀ (args' : Array Value) (w : World), PtsR P w p args'.toList → Calls P.prog f args' w fun r w' => r = .returned (.bool b) ∧ Below w.heap.size w w') : EntOk P ⟨f, p, .v (.bool b)⟩ := fun args' w k => by
  refine Calls.mono (h args' w k) ?_
  rintro e w' ⟨rfl, hb⟩
  exact ⟨hb, _, rfl, fun M => .bool b⟩
theorem ptsA1 {P : Pg} {w : World} {p : Pt} {a : Array Value} (h : PtsR P w [p] a.toList) : ∃ x, a = #[x] ∧ PtR P w p x ∧ RoOk P w := by
  match he : a.toList, h with
  | [x], h => exact ⟨x, Array.ext' he, h.1, h.2⟩
  | _ :: _ :: _, h => exact h.2.elim
theorem ptsA3 {P : Pg} {w : World} {p q r : Pt} {a : Array Value} (h : PtsR P w [p, q, r] a.toList) : ∃ x y z, a = #[x, y, z] ∧ PtR P w p x ∧ PtR P w q y ∧ PtR P w r z ∧ RoOk P w := by
  match he : a.toList, h with
  | [x, y, z], h => exact ⟨x, y, z, Array.ext' he, h.1, h.2.1, h.2.2.1, h.2.2.2⟩
  | [_], h => exact h.2.elim
  | [_, _], h => exact h.2.2.elim
  | _ :: _ :: _ :: _ :: _, h => exact h.2.2.2.elim
theorem ptsA4 {P : Pg} {w : World} {p q r s : Pt} {a : Array Value} (h : PtsR P w [p, q, r, s] a.toList) : ∃ x y z u, a = #[x, y, z, u] ∧ PtR P w p x ∧ PtR P w q y ∧ PtR P w r z ∧ PtR P w s u ∧ RoOk P w := by
  match he : a.toList, h with
  | [x, y, z, u], h => exact ⟨x, y, z, u, Array.ext' he, h.1, h.2.1, h.2.2.1, h.2.2.2.1, h.2.2.2.2⟩
  | [_], h => exact h.2.elim
  | [_, _], h => exact h.2.2.elim
  | [_, _, _], h => exact h.2.2.2.elim
  | _ :: _ :: _ :: _ :: _ :: _, h => exact h.2.2.2.2.elim
section
variable {B : Bk} {ot : Nat → Int} {P : Pg}
theorem isB_of (hp : P.prog = Try.prog) (hd : P.den = DB B ot nu0) : IsB B nu0 P := ⟨hp, by rw [hd]; rfl, by rw [hd]; rfl, by rw [hd]; rfl, by rw [hd]; rfl, by rw [hd]; rfl⟩
theorem ho_inv {w : World} (hd : P.den = DB B ot nu0) {k : Nat} (h2 : 2 ≤ k) {v : Value} (h : PtR P w (.v (ho k)) v) : v = .int .i64 (ot k) := by
  refine rel_num (P := P) (v := ho k) (dv_ho ?_) v (h _)
  rw [hd]
  show holB B ot k = _
  unfold holB
  rw [if_neg (by omega), if_neg (by omega)]
theorem dot {k : Nat} (h2 : 2 ≤ k) (hd : P.den = DB B ot nu0) {x : Int} (hx : ot k = x) : Dv P.den (ho k) x := by
  rw [hd]
  refine dv_ho ?_
  show holB B ot k = _
  unfold holB
  rw [if_neg (by omega), if_neg (by omega), hx]
theorem sC_inv {w : World} (hd : P.den = DB B ot nu0) {v : Value} (h : PtR P w (.v sC) v) : v = .string B.c := by
  have d : SDen P.den sC B.c := sdC (by rw [hd]; rfl)
  exact d.vrel (h (fun _ => none))
theorem ds_inv {w : World} (hd : P.den = DB B ot nu0) {v : Value} (h : PtR P w (.v dsV) v) : v = .agg #[.int .i64 (ot 2), .int .i64 (ot 3)] :=
  rel_agg2 (rel_num (dot (by decide) hd rfl)) (rel_num (dot (by decide) hd rfl)) v (h _)
theorem bk_inv {w : World} (hd : P.den = DB B ot nu0) {v : Value} (h : PtR P w (.v bkV) v) : v = .agg #[.int .i64 B.lo, .int .i64 B.hi, B.vr, B.vm] := by
  have h := h (fun _ => none)
  cases h with
  | @agg _ a' hs h1 =>
    obtain ⟨x0, x1, x2, x3, rfl⟩ := arr4 (lrel_arr.2 ⟨hs, h1⟩) rfl
    have e0 : x0 = _ := rel_num (P := P) (dv_ho (k := 0) (x := B.lo) (by rw [hd]; rfl)) _ (h1 0 _ _ rfl rfl)
    have e1 : x1 = _ := rel_num (P := P) (dv_ho (k := 1) (x := B.hi) (by rw [hd]; rfl)) _ (h1 1 _ _ rfl rfl)
    have e2 : x2 = _ := vrel_f0 (h1 2 _ _ rfl rfl)
    have e3 : x3 = _ := vrel_f0 (h1 3 _ _ rfl rfl)
    rw [e0, e1, e2, e3, hd]
    rfl
/-- a copy -/
theorem sl_inv {w : World} {k n s : Nat} {t v : Value} {g : Nat → Nat → Value} (hk : k < 200) (h : SlR P w (.opq k []) t v) (ht : Dv P.den t (n : Nat)) (ho : ∀ ob, P.den.obj k [] ob → atR ob n s g) : ∃ b c, v = .slice (some ⟨b, 0, none⟩) n c ∧ ∀ i j, i < n → j < s → w.cell? ⟨b, 0 + i * s + j, none⟩ = some (g i j) := by
  obtain ⟨b, r, m, c, ob, rfl, hm, hw, h1⟩ := h
  have := ht.unique _ hm
  have : n = m := by omega
  subst this
  obtain ⟨h0, xs, e1, _, h3⟩ := h1 (fun _ => none)
  obtain rfl : xs = [] := List.length_eq_zero_iff.1 e1.symm
  unfold oxs at h3
  rw [if_pos hk] at h3
  obtain rfl := h0 hk
  obtain ⟨cs, e, fr, rfl, hc⟩ := ho ob h3
  refine ⟨b, c, rfl, fun i j hi hj => ?_⟩
  unfold World.cell?
  rw [hw, Nat.zero_add]
  exact hc i j hi hj
theorem gB_inv {w : World} (h : BkOk B) (hd : P.den = DB B ot nu0) {v : Value} (hv : PtR P w gB v) : ∃ gr cr gm cm, v = .agg #[.int .i64 B.lo, .int .i64 B.hi, .slice (some ⟨gr, 0, none⟩) B.n cr, .slice (some ⟨gm, 0, none⟩) B.m cm] ∧
    (∀ i j, i < B.n → j < 4 → w.cell? ⟨gr, 0 + i * 4 + j, none⟩ = some ((B.x i).at j)) ∧ ∀ i j, i < B.m → j < 4 → w.cell? ⟨gm, 0 + i * 4 + j, none⟩ = some ((B.y i).at j) := by
  obtain ⟨vs, rfl, hp⟩ := hv
  match he : vs.toList, hp with
  | [a, b, c, d], hp =>
    obtain rfl : vs = #[a, b, c, d] := Array.ext' he
    obtain ⟨p0, p1, p2, p3, _⟩ := hp
    have e0 := rel_num (P := P) (dv_ho (k := 0) (x := B.lo) (by rw [hd]; rfl)) _ (p0 _)
    have e1 := rel_num (P := P) (dv_ho (k := 1) (x := B.hi) (by rw [hd]; rfl)) _ (p1 _)
    obtain ⟨gr, cr, e2, hr⟩ := sl_inv (k := 61) (n := B.n) (s := 4) (g := fun i => (B.x i).at) (by decide) p2 (dv_nR (B := B) (nu := nu0) (by rw [hd]; rfl) h) (fun ob ho => by rw [hd] at ho; exact ho)
    obtain ⟨gm, cm, e3, hm⟩ := sl_inv (k := 62) (n := B.m) (s := 4) (g := fun i => (B.y i).at) (by decide) p3 (dv_nM (B := B) (nu := nu0) (by rw [hd]; rfl) h) (fun ob ho => by rw [hd] at ho; exact ho)
    exact ⟨gr, cr, gm, cm, by rw [e0, e1, e2, e3], hr, hm⟩
/-- the same lists in a later world -/
theorem BkOk.at {w : World} (h : BkOk B) (hd : P.den = DB B ot nu0) (hr : RoOk P w) : BkOk { B with w := w } := by
  have key : ∀ b c, roW B.w b = some c → roW w b = some c := fun b c e => by
    obtain ⟨e', fr, hw⟩ := hr b c (by rw [hd]; exact e)
    exact roW_of hw
  have lst : ∀ {v : Value} {n s : Nat} {g : Nat → Nat → Value}, ListW (roW B.w) v n s g → ListW (roW w) v n s g := fun {v n s g} k => by
    obtain ⟨sa, cap, e, hc⟩ := k
    exact ⟨sa, cap, e, fun hn => by obtain ⟨b, r, cs, e1, e2, e3⟩ := hc hn; exact ⟨b, r, cs, e1, key _ _ e2, e3⟩⟩
  exact ⟨lst h.r, lst h.m, h.rn, h.mn⟩
/-- what the checks of a book say -/
theorem bookV_some (lo hi : Int) (n m : Nat) (x : Nat → Rd) (y : Nat → Mw) : ∃ u v e : Int, bookV lo hi n m x y = .tuple #[.agg #[.int .i64 u, .int .i64 v], .int .i64 e] := by
  unfold bookV lstV
  split
  · exact ⟨_, _, _, rfl⟩
  · split
    · exact ⟨_, _, _, rfl⟩
    · split
      · exact ⟨_, _, _, rfl⟩
      · split <;> exact ⟨_, _, _, rfl⟩
theorem z_CBc (h : BkOk B) (h1 : B.n ≤ 100000) (h2 : B.m ≤ 100000) (hp : P.prog = Try.prog) (hd : P.den = DB B ot nu0) (hb : bookV B.lo B.hi B.n B.m B.x B.y = .tuple #[.agg #[.int .i64 (ot 11), .int .i64 (ot 12)], .int .i64 (ot 13)]) : EntOk P eCBc := fun args' w k => by
  obtain ⟨a, rfl, k1, _⟩ := ptsA1 k
  obtain ⟨gr, cr, gm, cm, rfl, hr, hm⟩ := gB_inv h hd k1
  rw [hp]
  refine Calls.mono (book_any B.lo B.hi gr 0 B.n cr gm 0 B.m cm B.x B.y w hr hm h1 h2) ?_
  rintro e w2 ⟨rfl, hbl⟩
  refine ⟨hbl, _, rfl, fun M => ?_⟩
  rw [hb]
  exact LRel.tup (LRel.cons (LRel.agg (LRel.cons (dot (by decide) hd rfl).vrel (LRel.cons (dot (by decide) hd rfl).vrel (LRel.nil M)))) (LRel.cons (dot (by decide) hd rfl).vrel (LRel.nil M)))
theorem z_RC (h : BkOk B) (hp : P.prog = Try.prog) (hd : P.den = DB B ot nu0) (hb : bookV B.lo B.hi B.n B.m B.x B.y = .tuple #[.agg #[.int .i64 (ot 11), .int .i64 (ot 12)], .int .i64 (ot 13)]) : EntOk P eRC := fun args' w k => by
  obtain ⟨a, rfl, k1, k2⟩ := ptsA1 k
  obtain rfl := bk_inv hd k1
  rw [hp]
  refine Calls.mono (rbook_fam (h.at hd k2)) ?_
  rintro e w2 ⟨rfl, hbl⟩
  refine ⟨hbl, _, rfl, fun M => ?_⟩
  show VRel P M _ (bookV B.lo B.hi B.n B.m B.x B.y)
  rw [hb]
  exact LRel.tup (LRel.cons (LRel.agg (LRel.cons (dot (by decide) hd rfl).vrel (LRel.cons (dot (by decide) hd rfl).vrel (LRel.nil M)))) (LRel.cons (dot (by decide) hd rfl).vrel (LRel.nil M)))
theorem z_Few (h : BkOk B) (hp : P.prog = Try.prog) (hd : P.den = DB B ot nu0) {b : Bool} (hb : (fewN B.n B.m && (fewR B.x B.n && fewM B.y B.m)) = b) : EntOk P (eFew b) := EntOk.bool1 fun args' w k => by
  obtain ⟨a, rfl, k1, k2⟩ := ptsA1 k
  obtain rfl := bk_inv hd k1
  rw [hp]
  have h' := h.at hd k2
  obtain ⟨sr, gr, or, cr, e1, q1, q2⟩ := ListW.cell h'.r
  obtain ⟨sm, gm, om, cm, e2, r1, r2⟩ := ListW.cell h'.m
  have e1 : B.vr = _ := e1
  have e2 : B.vm = _ := e2
  rw [e1, e2]
  cases hf : fewN B.n B.m with
  | false =>
    rw [hf] at hb
    have hb : false = b := hb
    subst hb
    exact few_no B.lo B.hi sr sm gr or B.n cr gm om B.m cm B.x B.y w hf
  | true =>
    rw [hf] at hb
    have hb : (fewR B.x B.n && fewM B.y B.m) = b := hb
    subst hb
    exact few_yes B.lo B.hi sr sm gr or B.n cr gm om B.m cm B.x B.y w hf q1 r1 q2 r2
theorem z_Nm (hp : P.prog = Try.prog) (hd : P.den = DB B ot nu0) (ho : ot 14 = unlE (nameB B.c) 4) : EntOk P eNm := EntOk.num1 (fun args' w k => by
  obtain ⟨a, rfl, k1, _⟩ := ptsA1 k
  obtain rfl := sC_inv hd k1
  rw [hp]
  exact nameS B.c w) (dot (by decide) hd ho)
theorem z_D0 (hp : P.prog = Try.prog) (hd : P.den = DB B ot nu0) (ho : ot 15 = numE (ot 2) 0 100000) : EntOk P eD0 := EntOk.num1 (fun args' w k => by
  obtain ⟨a, rfl, k1, _⟩ := ptsA1 k
  obtain rfl := ho_inv hd (by decide) k1
  rw [hp]
  exact dateS _ w) (dot (by decide) hd ho)
theorem z_D1 (hp : P.prog = Try.prog) (hd : P.den = DB B ot nu0) (ho : ot 16 = numE (ot 3) 0 100000) : EntOk P eD1 := EntOk.num1 (fun args' w k => by
  obtain ⟨a, rfl, k1, _⟩ := ptsA1 k
  obtain rfl := ho_inv hd (by decide) k1
  rw [hp]
  exact dateS _ w) (dot (by decide) hd ho)
theorem z_R0 (hp : P.prog = Try.prog) (hd : P.den = DB B ot nu0) (ho : ot 15 = numE (ot 2) 0 100000) : EntOk P eR0 := EntOk.num1 (fun args' w k => by
  obtain ⟨a, rfl, k1, _⟩ := ptsA1 k
  obtain rfl := ho_inv hd (by decide) k1
  rw [hp]
  exact still_call (rdayE_any _ w)) (dot (by decide) hd ho)
theorem z_R1 (hp : P.prog = Try.prog) (hd : P.den = DB B ot nu0) (ho : ot 16 = numE (ot 3) 0 100000) : EntOk P eR1 := EntOk.num1 (fun args' w k => by
  obtain ⟨a, rfl, k1, _⟩ := ptsA1 k
  obtain rfl := ho_inv hd (by decide) k1
  rw [hp]
  exact still_call (rdayE_any _ w)) (dot (by decide) hd ho)
theorem z_IN (hp : P.prog = Try.prog) (hd : P.den = DB B ot nu0) {b : Bool} (hb : nameB B.c = b) : EntOk P (eIN b) := EntOk.bool1 fun args' w k => by
  obtain ⟨a, rfl, k1, _⟩ := ptsA1 k
  obtain rfl := sC_inv hd k1
  rw [hp, ← hb]
  exact still_call (isNameR_any B.c w)
theorem z_Net (h : BkOk B) (h2 : B.m ≤ 100000) (hp : P.prog = Try.prog) (hd : P.den = DB B ot nu0) (ho : ot 17 = netF B.y B.c (ot 2) (ot 3) B.m 0 0) : EntOk P eNet := EntOk.num1 (fun args' w k => by
  obtain ⟨a, b, c, d, rfl, k1, k2, k3, k4, _⟩ := ptsA4 k
  obtain ⟨gr, cr, gm, cm, rfl, hr, hm⟩ := gB_inv h hd k1
  obtain rfl := sC_inv hd k2
  obtain rfl := ho_inv hd (by decide) k3
  obtain rfl := ho_inv hd (by decide) k4
  rw [hp]
  exact net_any B.lo B.hi (some ⟨gr, 0, none⟩) B.n cr gm 0 B.m cm B.y B.c (ot 2) (ot 3) w h2 hm) (dot (by decide) hd ho)
end
end Sy
end Go.Proofs.Ytlmnhlmgbcpclaa
