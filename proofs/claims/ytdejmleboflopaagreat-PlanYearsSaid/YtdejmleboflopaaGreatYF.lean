/- What the law PlanYears asks: what is known of the great calls. -/
import Derived.Test.YtdejmleboflopaaGreatYE
import Derived.Test.YtdejmleboflopaaGreatYD2
import Derived.Test.YtdejmleboflopaaGreatYD3
set_option linter.unusedVariables false
set_option linter.unusedSimpArgs false
namespace Go.Proofs.YtdejmleboflopaaGreat
open Go.RowKit
namespace Sy
open Go.RowKit

def RunY (Y : Yr) (l : List Fact) (sp : CallF) (f : Nat) (ps : List Pt) (v : Value) : Prop := ∀ ok, fstO (evDS (pgY Y l ok) sp 2000 60 (.fn f) (ptVals 0 ps) (memT (ptObjs ps)) 3) = some v
structure YeR (p : Pt) (fl : Bool) : Prop where
  bad : ∀ Y c, RunY Y (yeBadF c) (spYb p) 30 [p, bA, dA] (y3 (if c = true then 0 else 8))
  good : ∀ Y K, K ≤ 6 → RunY Y (yOk :: fuNo K) (spYe p K) 30 [p, bA, dW K] (iP 0)
  full : fl = true → ∀ Y K j, K ≤ 6 → j < K → RunY Y (yOk :: fuAt j) (spYe p K) 30 [p, bA, dW K] (hFu j)
  len : ∀ d, (ptObjs [p, bA, d]).length ≤ 2 + (ptObjs [d]).length
  num : ∀ d, (ptObjs [d]).all numO = true → (ptObjs [p, bA, d]).all numO = true
theorem yeRA : YeR sA true where
  bad := fun Y c ok => by
    cases c
    · exact ybA_false Y ok
    · exact ybA_true Y ok
  good := fun Y K hK ok => by
    obtain rfl | rfl | rfl | rfl | rfl | rfl | rfl : K = 0 ∨ K = 1 ∨ K = 2 ∨ K = 3 ∨ K = 4 ∨ K = 5 ∨ K = 6 := by omega
    · exact ygA_0 Y ok
    · exact ygA_1 Y ok
    · exact ygA_2 Y ok
    · exact ygA_3 Y ok
    · exact ygA_4 Y ok
    · exact ygA_5 Y ok
    · exact ygA_6 Y ok
  full := fun _ Y K j hK hj ok => by
    obtain rfl | rfl | rfl | rfl | rfl | rfl | rfl : K = 0 ∨ K = 1 ∨ K = 2 ∨ K = 3 ∨ K = 4 ∨ K = 5 ∨ K = 6 := by omega
    · omega
    · obtain rfl : j = 0 := by omega
      · exact yfA_1_0 Y ok
    · obtain rfl | rfl : j = 0 ∨ j = 1 := by omega
      · exact yfA_2_0 Y ok
      · exact yfA_2_1 Y ok
    · obtain rfl | rfl | rfl : j = 0 ∨ j = 1 ∨ j = 2 := by omega
      · exact yfA_3_0 Y ok
      · exact yfA_3_1 Y ok
      · exact yfA_3_2 Y ok
    · obtain rfl | rfl | rfl | rfl : j = 0 ∨ j = 1 ∨ j = 2 ∨ j = 3 := by omega
      · exact yfA_4_0 Y ok
      · exact yfA_4_1 Y ok
      · exact yfA_4_2 Y ok
      · exact yfA_4_3 Y ok
    · obtain rfl | rfl | rfl | rfl | rfl : j = 0 ∨ j = 1 ∨ j = 2 ∨ j = 3 ∨ j = 4 := by omega
      · exact yfA_5_0 Y ok
      · exact yfA_5_1 Y ok
      · exact yfA_5_2 Y ok
      · exact yfA_5_3 Y ok
      · exact yfA_5_4 Y ok
    · obtain rfl | rfl | rfl | rfl | rfl | rfl : j = 0 ∨ j = 1 ∨ j = 2 ∨ j = 3 ∨ j = 4 ∨ j = 5 := by omega
      · exact yfA_6_0 Y ok
      · exact yfA_6_1 Y ok
      · exact yfA_6_2 Y ok
      · exact yfA_6_3 Y ok
      · exact yfA_6_4 Y ok
      · exact yfA_6_5 Y ok
  len := fun d => by show (ptObjs [d]).length + 1 + 1 ≤ _; omega
  num := fun d h => by
    show (numO (.opq 53 []) && (numO (.opq 54 []) && (ptObjs [d]).all numO)) = true
    rw [h]; rfl
theorem yeRW1 : YeR (pS 1) true where
  bad := fun Y c ok => by
    cases c
    · exact ybW1_false Y ok
    · exact ybW1_true Y ok
  good := fun Y K hK ok => by
    obtain rfl | rfl | rfl | rfl | rfl | rfl | rfl : K = 0 ∨ K = 1 ∨ K = 2 ∨ K = 3 ∨ K = 4 ∨ K = 5 ∨ K = 6 := by omega
    · exact ygW1_0 Y ok
    · exact ygW1_1 Y ok
    · exact ygW1_2 Y ok
    · exact ygW1_3 Y ok
    · exact ygW1_4 Y ok
    · exact ygW1_5 Y ok
    · exact ygW1_6 Y ok
  full := fun _ Y K j hK hj ok => by
    obtain rfl | rfl | rfl | rfl | rfl | rfl | rfl : K = 0 ∨ K = 1 ∨ K = 2 ∨ K = 3 ∨ K = 4 ∨ K = 5 ∨ K = 6 := by omega
    · omega
    · obtain rfl : j = 0 := by omega
      · exact yfW1_1_0 Y ok
    · obtain rfl | rfl : j = 0 ∨ j = 1 := by omega
      · exact yfW1_2_0 Y ok
      · exact yfW1_2_1 Y ok
    · obtain rfl | rfl | rfl : j = 0 ∨ j = 1 ∨ j = 2 := by omega
      · exact yfW1_3_0 Y ok
      · exact yfW1_3_1 Y ok
      · exact yfW1_3_2 Y ok
    · obtain rfl | rfl | rfl | rfl : j = 0 ∨ j = 1 ∨ j = 2 ∨ j = 3 := by omega
      · exact yfW1_4_0 Y ok
      · exact yfW1_4_1 Y ok
      · exact yfW1_4_2 Y ok
      · exact yfW1_4_3 Y ok
    · obtain rfl | rfl | rfl | rfl | rfl : j = 0 ∨ j = 1 ∨ j = 2 ∨ j = 3 ∨ j = 4 := by omega
      · exact yfW1_5_0 Y ok
      · exact yfW1_5_1 Y ok
      · exact yfW1_5_2 Y ok
      · exact yfW1_5_3 Y ok
      · exact yfW1_5_4 Y ok
    · obtain rfl | rfl | rfl | rfl | rfl | rfl : j = 0 ∨ j = 1 ∨ j = 2 ∨ j = 3 ∨ j = 4 ∨ j = 5 := by omega
      · exact yfW1_6_0 Y ok
      · exact yfW1_6_1 Y ok
      · exact yfW1_6_2 Y ok
      · exact yfW1_6_3 Y ok
      · exact yfW1_6_4 Y ok
      · exact yfW1_6_5 Y ok
  len := fun d => by show (ptObjs [d]).length + 1 + 1 ≤ _; omega
  num := fun d h => by
    have h2 : (ptObjs [d]).all numO = true := h
    show (numO (.win (rowS 1)) && (numO (.opq 54 []) && (ptObjs [d]).all numO)) = true
    rw [numOw numS, h2]; rfl
theorem yeRW2 : YeR (pS 2) true where
  bad := fun Y c ok => by
    cases c
    · exact ybW2_false Y ok
    · exact ybW2_true Y ok
  good := fun Y K hK ok => by
    obtain rfl | rfl | rfl | rfl | rfl | rfl | rfl : K = 0 ∨ K = 1 ∨ K = 2 ∨ K = 3 ∨ K = 4 ∨ K = 5 ∨ K = 6 := by omega
    · exact ygW2_0 Y ok
    · exact ygW2_1 Y ok
    · exact ygW2_2 Y ok
    · exact ygW2_3 Y ok
    · exact ygW2_4 Y ok
    · exact ygW2_5 Y ok
    · exact ygW2_6 Y ok
  full := fun _ Y K j hK hj ok => by
    obtain rfl | rfl | rfl | rfl | rfl | rfl | rfl : K = 0 ∨ K = 1 ∨ K = 2 ∨ K = 3 ∨ K = 4 ∨ K = 5 ∨ K = 6 := by omega
    · omega
    · obtain rfl : j = 0 := by omega
      · exact yfW2_1_0 Y ok
    · obtain rfl | rfl : j = 0 ∨ j = 1 := by omega
      · exact yfW2_2_0 Y ok
      · exact yfW2_2_1 Y ok
    · obtain rfl | rfl | rfl : j = 0 ∨ j = 1 ∨ j = 2 := by omega
      · exact yfW2_3_0 Y ok
      · exact yfW2_3_1 Y ok
      · exact yfW2_3_2 Y ok
    · obtain rfl | rfl | rfl | rfl : j = 0 ∨ j = 1 ∨ j = 2 ∨ j = 3 := by omega
      · exact yfW2_4_0 Y ok
      · exact yfW2_4_1 Y ok
      · exact yfW2_4_2 Y ok
      · exact yfW2_4_3 Y ok
    · obtain rfl | rfl | rfl | rfl | rfl : j = 0 ∨ j = 1 ∨ j = 2 ∨ j = 3 ∨ j = 4 := by omega
      · exact yfW2_5_0 Y ok
      · exact yfW2_5_1 Y ok
      · exact yfW2_5_2 Y ok
      · exact yfW2_5_3 Y ok
      · exact yfW2_5_4 Y ok
    · obtain rfl | rfl | rfl | rfl | rfl | rfl : j = 0 ∨ j = 1 ∨ j = 2 ∨ j = 3 ∨ j = 4 ∨ j = 5 := by omega
      · exact yfW2_6_0 Y ok
      · exact yfW2_6_1 Y ok
      · exact yfW2_6_2 Y ok
      · exact yfW2_6_3 Y ok
      · exact yfW2_6_4 Y ok
      · exact yfW2_6_5 Y ok
  len := fun d => by show (ptObjs [d]).length + 1 + 1 ≤ _; omega
  num := fun d h => by
    have h2 : (ptObjs [d]).all numO = true := h
    show (numO (.win (rowS 2)) && (numO (.opq 54 []) && (ptObjs [d]).all numO)) = true
    rw [numOw numS, h2]; rfl
theorem yeRW3 : YeR (pS 3) true where
  bad := fun Y c ok => by
    cases c
    · exact ybW3_false Y ok
    · exact ybW3_true Y ok
  good := fun Y K hK ok => by
    obtain rfl | rfl | rfl | rfl | rfl | rfl | rfl : K = 0 ∨ K = 1 ∨ K = 2 ∨ K = 3 ∨ K = 4 ∨ K = 5 ∨ K = 6 := by omega
    · exact ygW3_0 Y ok
    · exact ygW3_1 Y ok
    · exact ygW3_2 Y ok
    · exact ygW3_3 Y ok
    · exact ygW3_4 Y ok
    · exact ygW3_5 Y ok
    · exact ygW3_6 Y ok
  full := fun _ Y K j hK hj ok => by
    obtain rfl | rfl | rfl | rfl | rfl | rfl | rfl : K = 0 ∨ K = 1 ∨ K = 2 ∨ K = 3 ∨ K = 4 ∨ K = 5 ∨ K = 6 := by omega
    · omega
    · obtain rfl : j = 0 := by omega
      · exact yfW3_1_0 Y ok
    · obtain rfl | rfl : j = 0 ∨ j = 1 := by omega
      · exact yfW3_2_0 Y ok
      · exact yfW3_2_1 Y ok
    · obtain rfl | rfl | rfl : j = 0 ∨ j = 1 ∨ j = 2 := by omega
      · exact yfW3_3_0 Y ok
      · exact yfW3_3_1 Y ok
      · exact yfW3_3_2 Y ok
    · obtain rfl | rfl | rfl | rfl : j = 0 ∨ j = 1 ∨ j = 2 ∨ j = 3 := by omega
      · exact yfW3_4_0 Y ok
      · exact yfW3_4_1 Y ok
      · exact yfW3_4_2 Y ok
      · exact yfW3_4_3 Y ok
    · obtain rfl | rfl | rfl | rfl | rfl : j = 0 ∨ j = 1 ∨ j = 2 ∨ j = 3 ∨ j = 4 := by omega
      · exact yfW3_5_0 Y ok
      · exact yfW3_5_1 Y ok
      · exact yfW3_5_2 Y ok
      · exact yfW3_5_3 Y ok
      · exact yfW3_5_4 Y ok
    · obtain rfl | rfl | rfl | rfl | rfl | rfl : j = 0 ∨ j = 1 ∨ j = 2 ∨ j = 3 ∨ j = 4 ∨ j = 5 := by omega
      · exact yfW3_6_0 Y ok
      · exact yfW3_6_1 Y ok
      · exact yfW3_6_2 Y ok
      · exact yfW3_6_3 Y ok
      · exact yfW3_6_4 Y ok
      · exact yfW3_6_5 Y ok
  len := fun d => by show (ptObjs [d]).length + 1 + 1 ≤ _; omega
  num := fun d h => by
    have h2 : (ptObjs [d]).all numO = true := h
    show (numO (.win (rowS 3)) && (numO (.opq 54 []) && (ptObjs [d]).all numO)) = true
    rw [numOw numS, h2]; rfl
theorem yeRW4 : YeR (pS 4) true where
  bad := fun Y c ok => by
    cases c
    · exact ybW4_false Y ok
    · exact ybW4_true Y ok
  good := fun Y K hK ok => by
    obtain rfl | rfl | rfl | rfl | rfl | rfl | rfl : K = 0 ∨ K = 1 ∨ K = 2 ∨ K = 3 ∨ K = 4 ∨ K = 5 ∨ K = 6 := by omega
    · exact ygW4_0 Y ok
    · exact ygW4_1 Y ok
    · exact ygW4_2 Y ok
    · exact ygW4_3 Y ok
    · exact ygW4_4 Y ok
    · exact ygW4_5 Y ok
    · exact ygW4_6 Y ok
  full := fun _ Y K j hK hj ok => by
    obtain rfl | rfl | rfl | rfl | rfl | rfl | rfl : K = 0 ∨ K = 1 ∨ K = 2 ∨ K = 3 ∨ K = 4 ∨ K = 5 ∨ K = 6 := by omega
    · omega
    · obtain rfl : j = 0 := by omega
      · exact yfW4_1_0 Y ok
    · obtain rfl | rfl : j = 0 ∨ j = 1 := by omega
      · exact yfW4_2_0 Y ok
      · exact yfW4_2_1 Y ok
    · obtain rfl | rfl | rfl : j = 0 ∨ j = 1 ∨ j = 2 := by omega
      · exact yfW4_3_0 Y ok
      · exact yfW4_3_1 Y ok
      · exact yfW4_3_2 Y ok
    · obtain rfl | rfl | rfl | rfl : j = 0 ∨ j = 1 ∨ j = 2 ∨ j = 3 := by omega
      · exact yfW4_4_0 Y ok
      · exact yfW4_4_1 Y ok
      · exact yfW4_4_2 Y ok
      · exact yfW4_4_3 Y ok
    · obtain rfl | rfl | rfl | rfl | rfl : j = 0 ∨ j = 1 ∨ j = 2 ∨ j = 3 ∨ j = 4 := by omega
      · exact yfW4_5_0 Y ok
      · exact yfW4_5_1 Y ok
      · exact yfW4_5_2 Y ok
      · exact yfW4_5_3 Y ok
      · exact yfW4_5_4 Y ok
    · obtain rfl | rfl | rfl | rfl | rfl | rfl : j = 0 ∨ j = 1 ∨ j = 2 ∨ j = 3 ∨ j = 4 ∨ j = 5 := by omega
      · exact yfW4_6_0 Y ok
      · exact yfW4_6_1 Y ok
      · exact yfW4_6_2 Y ok
      · exact yfW4_6_3 Y ok
      · exact yfW4_6_4 Y ok
      · exact yfW4_6_5 Y ok
  len := fun d => by show (ptObjs [d]).length + 1 + 1 ≤ _; omega
  num := fun d h => by
    have h2 : (ptObjs [d]).all numO = true := h
    show (numO (.win (rowS 4)) && (numO (.opq 54 []) && (ptObjs [d]).all numO)) = true
    rw [numOw numS, h2]; rfl
theorem yeRE : YeR sE false where
  bad := fun Y c ok => by
    cases c
    · exact ybE_false Y ok
    · exact ybE_true Y ok
  good := fun Y K hK ok => by
    obtain rfl | rfl | rfl | rfl | rfl | rfl | rfl : K = 0 ∨ K = 1 ∨ K = 2 ∨ K = 3 ∨ K = 4 ∨ K = 5 ∨ K = 6 := by omega
    · exact ygE_0 Y ok
    · exact ygE_1 Y ok
    · exact ygE_2 Y ok
    · exact ygE_3 Y ok
    · exact ygE_4 Y ok
    · exact ygE_5 Y ok
    · exact ygE_6 Y ok
  full := fun h => by cases h
  len := fun d => by show (ptObjs [d]).length + 1 ≤ _; omega
  num := fun d h => by
    show (numO (.opq 54 []) && (ptObjs [d]).all numO) = true
    rw [h]; rfl
section
variable {Y : Yr}
theorem numDW {K : Nat} : (ptObjs [dW K]).all numO = true := by
  show (numO (.win (rowD K)) && true) = true
  rw [numOw (List.all_eq_true.2 fun v hv => by obtain ⟨k, _, rfl⟩ := List.mem_map.1 hv; rfl)]; rfl
theorem z_val {f : Nat} {ps : List Pt} {t t2 : Value} {x : Int} (h : EntZ Y ⟨f, ps, .v t⟩) (ht : Dv (DZ Y) t x) (ht2 : Dv (DZ Y) t2 x) : EntZ Y ⟨f, ps, .v t2⟩ := fun args' w k => by
  refine Calls.mono (h args' w k) ?_
  rintro e w' ⟨hb, v', rfl, hv⟩
  obtain ⟨y, rfl, dy⟩ := vrel_num (hv fun _ => none) ht.num
  have := ht.unique _ dy
  subst this
  exact ⟨hb, _, rfl, fun M => Dv.vrel (P := pgY Y [] nilZ) ht2⟩
theorem z_tup {f : Nat} {ps : List Pt} {a a2 t t2 : Value} {x : Int} (h : EntZ Y ⟨f, ps, .v (.tuple #[a, t])⟩) (ht : Dv (DZ Y) t x) (ht2 : Dv (DZ Y) t2 x) (ha : ∀ v, (∀ M, VRel (pgY Y [] nilZ) M a v) → ∀ M, VRel (pgY Y [] nilZ) M a2 v) : EntZ Y ⟨f, ps, .v (.tuple #[a2, t2])⟩ := fun args' w k => by
  refine Calls.mono (h args' w k) ?_
  rintro e w' ⟨hb, v', rfl, hv⟩
  obtain ⟨p, q, rfl, h1, h2⟩ := tup2_inv (hv fun _ => none)
  obtain ⟨y, rfl, dy⟩ := vrel_num h2 ht.num
  have := ht.unique _ dy
  subst this
  have hp : ∀ M, VRel (pgY Y [] nilZ) M a p := fun M => by
    obtain ⟨p', q', e', k1, k2⟩ := tup2_inv (hv M)
    cases e'
    exact k1
  exact ⟨hb, _, rfl, fun M => LRel.tup (LRel.cons (ha _ hp M) (LRel.cons (Dv.vrel (P := pgY Y [] nilZ) ht2) (LRel.nil M)))⟩
theorem z_agg {a b a2 b2 : Value} {x y : Int} (ha : Dv (DZ Y) a x) (hb : Dv (DZ Y) b y) (ha2 : Dv (DZ Y) a2 x) (hb2 : Dv (DZ Y) b2 y) (v : Value) (h : ∀ M, VRel (pgY Y [] nilZ) M (.agg #[a, b]) v) (M : Mp) : VRel (pgY Y [] nilZ) M (.agg #[a2, b2]) v := by
  obtain ⟨p, q, rfl, h1, h2⟩ := agg2_inv (h fun _ => none)
  obtain ⟨z, rfl, dz⟩ := vrel_num h1 ha.num
  obtain ⟨u, rfl, du⟩ := vrel_num h2 hb.num
  have := ha.unique _ dz
  have := hb.unique _ du
  subst_vars
  exact LRel.agg (LRel.cons (Dv.vrel (P := pgY Y [] nilZ) ha2) (LRel.cons (Dv.vrel (P := pgY Y [] nilZ) hb2) (LRel.nil M)))
/-- another pattern for the last argument -/
theorem z_last {f : Nat} {p q d d2 : Pt} {r : Rs} (h : EntZ Y ⟨f, [p, q, d], r⟩) (hd : ∀ w v, PR Y w d2 v → PR Y w d v ∧ blkP d2 v = blkP d v) : EntZ Y ⟨f, [p, q, d2], r⟩ := EntOk.pats h fun w vs k => by
  match vs, k with
  | [a, b, c], ⟨k1, k2, k3, _⟩ =>
    obtain ⟨h1, h2⟩ := hd _ _ k3
    exact ⟨⟨k1, k2, h1, trivial⟩, by show blkP p a ++ (blkP q b ++ (blkP d2 c ++ [])) = _; rw [h2]; rfl⟩
  | [_], k => exact k.2.elim
  | [_, _], k => exact k.2.2.elim
  | _ :: _ :: _ :: _ :: _, k => exact k.2.2.2.elim
theorem z_first {f : Nat} {p p2 q d : Pt} {r : Rs} (h : EntZ Y ⟨f, [p, q, d], r⟩) (hd : ∀ w v, PR Y w p2 v → PR Y w p v ∧ blkP p2 v = blkP p v) : EntZ Y ⟨f, [p2, q, d], r⟩ := EntOk.pats h fun w vs k => by
  match vs, k with
  | [a, b, c], ⟨k1, k2, k3, _⟩ =>
    obtain ⟨h1, h2⟩ := hd _ _ k1
    exact ⟨⟨h1, k2, k3, trivial⟩, by show blkP p2 a ++ _ = _; rw [h2]; rfl⟩
  | [_], k => exact k.2.elim
  | [_, _], k => exact k.2.2.elim
  | _ :: _ :: _ :: _ :: _, k => exact k.2.2.2.elim
theorem dW_of {d : Pt} (hd : LstPat Y 1 Y.dr Y.k d) (hk : Y.k ≤ 40) (w : World) (v : Value) (h : PR Y w d v) : PR Y w (dW Y.k) v := by
  obtain ⟨b, o, cap, rfl, hw⟩ := hd _ _ h
  obtain ⟨ob, k1, k2⟩ := winP_at.1 hw
  exact pt_lst (P := pgY Y [] nilZ) (.lit ((Y.k : Nat) : Int)) k1 (at_win (P := pgY Y [] nilZ) (fun _ => trivial) (by simpa [rowD] using k2) (zRowD hk))
theorem dWA (hk : Y.k ≤ 40) (w : World) (v : Value) (h : PR Y w dA v) : PR Y w (dW Y.k) v ∧ blkP dA v = blkP (dW Y.k) v := ⟨dW_of lstDA hk w v h, rfl⟩
theorem dWO (hk : Y.k ≤ 40) (w : World) (v : Value) (h : PR Y w dOr v) : PR Y w (dW Y.k) v ∧ blkP dOr v = blkP (dW Y.k) v := ⟨dW_of lstDO hk w v h, rfl⟩
theorem sWA (h4 : Y.n ≤ 4) (w : World) (v : Value) (h : PR Y w sA v) : PR Y w (pS Y.n) v ∧ blkP sA v = blkP (pS Y.n) v := by
  obtain ⟨b, o, cap, rfl, hw⟩ := sysA _ _ h
  obtain ⟨ob, k1, k2⟩ := winP_at.1 hw
  exact ⟨pt_sys (P := pgY Y [] nilZ) (.lit ((Y.n : Nat) : Int)) zNew k1 (at_win (P := pgY Y [] nilZ) (fun _ => trivial) (by simpa [rowS] using k2) (zRow h4)), rfl⟩

/-! yearsError. -/
def yeF (A : Int) (dr : Nat → Int) (k : Nat) : Int := firstL [A, (if k ≤ 30 then 0 else 8), nusE dr 0 20000 k]
def yeV (A : Int) (full : Nat → Bool) (dr : Nat → Int) (k : Nat) : Int := if yeF A dr k ≠ 0 then yeF A dr k else if (List.range k).any full = true then 16 else 0
theorem dY3 {A NU : Int} (h2 : Y.ot (160 + 2) = A) (h3 : Y.ot (160 + 3) = NU) (u : Int) : Dv (DZ Y) (y3 u) (firstL [A, u, NU]) := by
  have := app3P (D := DZ Y) (t := 104) (by decide) (zO 2) (.lit u) (zO 3)
  rw [h2, h3] at this
  exact this
theorem ok2 {f g : Fact} (h1 : OkF (DZ Y) f) (h2 : OkF (DZ Y) g) : ∀ x ∈ [f, g], OkF (DZ Y) x := fun x hx => by
  simp only [List.mem_cons, List.not_mem_nil, or_false] at hx
  rcases hx with rfl | rfl
  · exact h1
  · exact h2
theorem okc {f : Fact} {l : List Fact} (h1 : OkF (DZ Y) f) (h2 : ∀ x ∈ l, OkF (DZ Y) x) : ∀ x ∈ f :: l, OkF (DZ Y) x := fun x hx => by
  rcases List.mem_cons.1 hx with rfl | hx
  · exact h1
  · exact h2 x hx
theorem nwV {f : Nat} {ps : List Pt} {x : Value} : nwE ⟨f, ps, .v x⟩ := fun o mk h => by cases h
theorem nwO {f : Nat} {ps : List Pt} {k : Nat} {l : List Value} {mk : Nat → Value} : nwE ⟨f, ps, .n (.opq k l) mk⟩ := fun o mk h => by cases h; rfl
theorem nwW {f : Nat} {ps : List Pt} {l : List Value} {mk : Nat → Value} : nwE ⟨f, ps, .n (.win l) mk⟩ := fun o mk h => by cases h; rfl
theorem z_yeW {p : Pt} {fl : Bool} {full : Nat → Bool} {A : Int} (hr : YeR p fl) (hfl : fl = false → ∀ y, full y = false) (hag : EntZ Y (eAg p)) (hA : Y.ot (160 + 2) = A) (hnu : Y.ot (160 + 3) = nusE Y.dr 0 20000 Y.k)
    (hfu : ∀ y, y < Y.k → EntZ Y (eFu p y) ∧ Y.ot (160 + (10 + y)) = if full y = true then 16 else 0) (hk6 : Y.k ≤ 6) (hF : yeF A Y.dr Y.k = 0) (ho : Y.ot (160 + 4) = yeV A full Y.dr Y.k) : EntZ Y (eYe p (dW Y.k)) := by
  have dYe : Dv (DZ Y) hYe (yeV A full Y.dr Y.k) := by rw [← ho]; exact zO 4
  have f0 : OkF (DZ Y) yOk := by
    have := dY3 (Y := Y) hA hnu 0
    refine eq_yes this (.lit 0) ?_
    unfold yeF at hF
    rwa [if_pos (by omega)] at hF
  have hsp : ∀ {l ok}, CallOk (pgY Y l ok) (spYe p Y.k) := ok_spY fun e he => by
    simp only [List.mem_cons, List.mem_map, List.mem_range] at he
    rcases he with rfl | rfl | ⟨y, hy, rfl⟩
    · exact ⟨hag, nwV⟩
    · exact ⟨z_nu (lstDW rfl (by omega)) (by omega) hnu, nwV⟩
    · exact ⟨(hfu y hy).1, nwV⟩
  have num : (ptObjs [p, bA, dW Y.k]).all numO = true := hr.num _ numDW
  have len : (ptObjs [p, bA, dW Y.k]).length ≤ 3 := hr.len _
  rcases first_of full Y.k with hall | ⟨j, hj, h1, h2⟩
  · refine z_val (t := iP 0) (x := yeV A full Y.dr Y.k) (EntOk.toZ (run_ent (P := pgY Y (yOk :: fuNo Y.k) (okc f0 (ok_map fun y hy => eq_yes (zO (10 + y)) (.lit 0) (by rw [(hfu y hy).2, hall y hy]; rfl)))) (by kernel_rfl) hsp len num (by kernel_rfl) (hr.good Y Y.k hk6 _))) ?_ dYe
    have : yeV A full Y.dr Y.k = 0 := by
      unfold yeV
      rw [if_neg (by simpa using hF), if_neg]
      rw [List.any_eq_true]
      rintro ⟨y, hy, hf⟩
      rw [hall y (List.mem_range.1 hy)] at hf
      cases hf
    rw [this]
    exact .lit 0
  · have hflt : fl = true := by
      cases fl with
      | true => rfl
      | false => rw [hfl rfl j] at h1; cases h1
    refine z_val (t := hFu j) (x := yeV A full Y.dr Y.k) (EntOk.toZ (run_ent (P := pgY Y (yOk :: fuAt j) (okc f0 (ok_app (ok_map fun y hy => eq_yes (zO (10 + y)) (.lit 0) (by rw [(hfu y (by omega)).2, h2 y hy]; rfl)) (ok_one (eq_no (zO (10 + j)) (.lit 0) (by rw [(hfu j hj).2, h1]; decide)))))) (by kernel_rfl) hsp len num (by kernel_rfl) (hr.full hflt Y Y.k j hk6 hj _))) ?_ dYe
    have : yeV A full Y.dr Y.k = Y.ot (160 + (10 + j)) := by
      rw [(hfu j hj).2, if_pos h1]
      unfold yeV
      rw [if_neg (by simpa using hF), if_pos (List.any_eq_true.2 ⟨j, List.mem_range.2 hj, h1⟩)]
    rw [this]
    exact zO (10 + j)
theorem z_ye {p : Pt} {fl : Bool} {full : Nat → Bool} {A : Int} (hr : YeR p fl) (hfl : fl = false → ∀ y, full y = false) (hag : EntZ Y (eAg p)) (hA : Y.ot (160 + 2) = A) (hnu : Y.ot (160 + 3) = nusE Y.dr 0 20000 Y.k)
    (hfu : Y.k ≤ 6 → ∀ y, y < Y.k → EntZ Y (eFu p y) ∧ Y.ot (160 + (10 + y)) = if full y = true then 16 else 0) (hk : Y.k ≤ 6 ∨ Y.k = 31 ∨ Y.k = 32) (ho : Y.ot (160 + 4) = yeV A full Y.dr Y.k) : EntZ Y (eYe p dA) := by
  have dYe : Dv (DZ Y) hYe (yeV A full Y.dr Y.k) := by rw [← ho]; exact zO 4
  by_cases hF : yeF A Y.dr Y.k = 0
  · have hk6 : Y.k ≤ 6 := by
      rcases hk with h | h
      · exact h
      · exfalso
        have h30 : ¬ Y.k ≤ 30 := by omega
        unfold yeF at hF
        rw [if_neg h30, firstL_if] at hF
        by_cases a0 : A = 0
        · rw [if_pos a0, if_neg (by decide)] at hF; cases hF
        · rw [if_neg a0] at hF; exact a0 hF
    exact z_last (d := dW Y.k) (z_yeW hr hfl hag hA hnu (hfu hk6) hk6 hF ho) (dWA (by omega))
  · have hsp : ∀ {l ok}, CallOk (pgY Y l ok) (spYb p) := ok_spY fun e he => by
      simp only [List.mem_cons, List.not_mem_nil, or_false] at he
      rcases he with rfl | rfl
      · exact ⟨hag, nwV⟩
      · exact ⟨z_nu lstDA (by omega) hnu, nwV⟩
    have eV : yeV A full Y.dr Y.k = yeF A Y.dr Y.k := by unfold yeV; rw [if_pos hF]
    rw [eV] at dYe
    have num : (ptObjs [p, bA, dA]).all numO = true := hr.num _ rfl
    have len : (ptObjs [p, bA, dA]).length ≤ 3 := hr.len _
    have d3 : Dv (DZ Y) (y3 (if decide (Y.k ≤ 30) = true then 0 else 8)) (yeF A Y.dr Y.k) := by
      have := dY3 (Y := Y) hA hnu (if decide (Y.k ≤ 30) = true then 0 else 8)
      unfold yeF
      by_cases h30 : Y.k ≤ 30
      · simpa [h30] using this
      · simpa [h30] using this
    exact z_val (EntOk.toZ (run_ent (P := pgY Y (yeBadF (decide (Y.k ≤ 30))) (ok2 ⟨_, _, zK, .lit 30, by show decide _ = decide _; congr 1; exact propext (by omega)⟩ (eq_no d3 (.lit 0) hF))) (by kernel_rfl) hsp len num (by cases decide (Y.k ≤ 30) <;> kernel_rfl) (hr.bad Y _ _))) d3 dYe

/-! AgesAfter, FirstShort, GreatestNow. -/
theorem dF2 {a b : Value} {x y : Int} (ha : Dv (DZ Y) a x) (hb : Dv (DZ Y) b y) : Dv (DZ Y) (fi2 a b) (firstL [x, y]) := app2P (D := DZ Y) (t := 104) (by decide) ha hb
theorem firstL2 (a b : Int) : firstL [a, b] = if a = 0 then b else a := by
  simp only [firstL]
  by_cases h1 : a = 0 <;> by_cases h2 : b = 0 <;> simp [h1, h2]
theorem spW {f : Nat} {s : Pt} {x : Value} (hsys : EntZ Y eSys) (h : EntZ Y ⟨f, s :: [bA, dA], .v x⟩) {l ok} : CallOk (pgY Y l ok) (spY [eSys, ⟨f, s :: [bA, dA], .v x⟩]) := ok_spY fun e he => by
  simp only [List.mem_cons, List.not_mem_nil, or_false] at he
  rcases he with rfl | rfl
  · exact ⟨hsys, nwV⟩
  · exact ⟨h, nwV⟩
theorem spW2 {s : Pt} (hsys : EntZ Y eSys) (h : EntZ Y (eAg s)) {l ok} : CallOk (pgY Y l ok) (spY [eSys, eAg s]) := ok_spY fun e he => by
  simp only [List.mem_cons, List.not_mem_nil, or_false] at he
  rcases he with rfl | rfl
  · exact ⟨hsys, nwV⟩
  · exact ⟨h, nwV⟩
theorem okWx {x : Value} {E X : Int} (h1 : Y.ot (160 + 1) = E) (hE : E ≠ 0) (hx : Dv (DZ Y) x X) : ∀ f ∈ fW x, OkF (DZ Y) f := ok2 (eq_no (zO 1) (.lit 0) (by rw [h1]; exact hE)) (eq_no (dF2 (zO 1) hx) (.lit 0) (by rw [h1, firstL2, if_neg hE]; exact hE))
theorem okXx {x : Value} {X : Int} (h1 : Y.ot (160 + 1) = 0) (hX : X ≠ 0) (hx : Dv (DZ Y) x X) : ∀ f ∈ fX x, OkF (DZ Y) f := ok2 (eq_yes (zO 1) (.lit 0) h1) (eq_no (dF2 (.lit 0) hx) (.lit 0) (by rw [firstL2, if_pos rfl]; exact hX))
theorem dWt {x : Value} {E X : Int} (h1 : Y.ot (160 + 1) = E) (hE : E ≠ 0) (hx : Dv (DZ Y) x X) : Dv (DZ Y) (fi2 Sy.hE x) E := by
  have := dF2 (zO 1) hx
  rw [h1, firstL2, if_neg hE] at this
  exact this
theorem dXt {x : Value} {X : Int} (hx : Dv (DZ Y) x X) : Dv (DZ Y) (fi2 (iP 0) x) X := by
  have := dF2 (.lit 0) hx
  rw [firstL2, if_pos rfl] at this
  exact this
theorem dEt {E : Int} (h1 : Y.ot (160 + 1) = E) : Dv (DZ Y) Sy.hE E := by rw [← h1]; exact zO 1
abbrev id2 (a : Value) : ∀ v, (∀ M, VRel (pgY Y [] nilZ) M a v) → ∀ M, VRel (pgY Y [] nilZ) M a v := fun _ h => h
theorem z_aaW {E ye : Int} (hsys : EntZ Y eSys) (h : EntZ Y (eYe sE dA)) (h1 : Y.ot (160 + 1) = E) (hE : E ≠ 0) (h4 : Y.ot (160 + 4) = ye) : EntZ Y ⟨7, [sA, bA, dA], .v (.tuple #[.slice none 0 0, Sy.hE])⟩ :=
  z_tup (EntOk.toZ (run_ent (P := pgY Y (fW hYe) (okWx h1 hE (zO 4))) (by kernel_rfl) (spW hsys h) (by show 3 ≤ 3; decide) rfl (by kernel_rfl) (aaW Y _))) (dWt h1 hE (zO 4)) (dEt h1) (id2 _)
theorem z_aaX (hsys : EntZ Y eSys) (h : EntZ Y (eYe sA dA)) (h1 : Y.ot (160 + 1) = 0) (h4 : Y.ot (160 + 4) ≠ 0) : EntZ Y ⟨7, [sA, bA, dA], .v (.tuple #[.slice none 0 0, hYe])⟩ :=
  z_tup (EntOk.toZ (run_ent (P := pgY Y (fX hYe) (okXx h1 h4 (zO 4))) (by kernel_rfl) (spW hsys h) (by show 3 ≤ 3; decide) rfl (by kernel_rfl) (aaX Y _))) (dXt (zO 4)) (zO 4) (id2 _)
theorem z_fsW {E ye : Int} (hsys : EntZ Y eSys) (h : EntZ Y (eYe sE dA)) (h1 : Y.ot (160 + 1) = E) (hE : E ≠ 0) (h4 : Y.ot (160 + 4) = ye) : EntZ Y ⟨11, [sA, bA, dA], .v (.tuple #[.agg #[iP 0, iP 0], Sy.hE])⟩ :=
  z_tup (EntOk.toZ (run_ent (P := pgY Y (fW hYe) (okWx h1 hE (zO 4))) (by kernel_rfl) (spW hsys h) (by show 3 ≤ 3; decide) rfl (by kernel_rfl) (fsW Y _))) (dWt h1 hE (zO 4)) (dEt h1) (id2 _)
theorem z_fsX (hsys : EntZ Y eSys) (h : EntZ Y (eYe sA dA)) (h1 : Y.ot (160 + 1) = 0) (h4 : Y.ot (160 + 4) ≠ 0) : EntZ Y ⟨11, [sA, bA, dA], .v (.tuple #[.agg #[iP 0, iP 0], hYe])⟩ :=
  z_tup (EntOk.toZ (run_ent (P := pgY Y (fX hYe) (okXx h1 h4 (zO 4))) (by kernel_rfl) (spW hsys h) (by show 3 ≤ 3; decide) rfl (by kernel_rfl) (fsX Y _))) (dXt (zO 4)) (zO 4) (id2 _)
theorem z_gnW {E : Int} (hsys : EntZ Y eSys) (h : EntZ Y (eAg sE)) (h1 : Y.ot (160 + 1) = E) (hE : E ≠ 0) : EntZ Y ⟨12, [sA, bA], .v (.tuple #[iP 0, Sy.hE])⟩ :=
  z_tup (EntOk.toZ (run_ent (P := pgY Y (fW hA) (okWx h1 hE (zO 2))) (by kernel_rfl) (spW2 hsys h) (by show 2 ≤ 3; decide) rfl (by kernel_rfl) (gnW Y _))) (dWt h1 hE (zO 2)) (dEt h1) (id2 _)
theorem z_gnX (hsys : EntZ Y eSys) (h : EntZ Y (eAg sA)) (h1 : Y.ot (160 + 1) = 0) (h2 : Y.ot (160 + 2) ≠ 0) : EntZ Y ⟨12, [sA, bA], .v (.tuple #[iP 0, hA])⟩ :=
  z_tup (EntOk.toZ (run_ent (P := pgY Y (fX hA) (okXx h1 h2 (zO 2))) (by kernel_rfl) (spW2 hsys h) (by show 2 ≤ 3; decide) rfl (by kernel_rfl) (gnX Y _))) (dXt (zO 2)) (zO 2) (id2 _)
/-- the empty system -/
theorem z_agE (ho : Y.ot (160 + 2) = if Y.m = 0 then 0 else 10) : EntZ Y (eAg sE) := by
  have hsp : ∀ {l ok}, CallOk (pgY Y l ok) (spY []) := ok_spY fun e he => by cases he
  by_cases hm : Y.m = 0
  · rw [if_pos hm] at ho
    exact z_val (EntOk.toZ (run_ent (P := pgY Y [(0, hLb, iP 0, true), (1, iP 0, hLb, false)] (ok2 (eq_yes zM (.lit 0) (by omega)) (lt_no (.lit 0) zM (by omega)))) (by kernel_rfl) hsp (by show 1 ≤ 3; decide) rfl (by kernel_rfl) (agE0 Y _))) (.lit 0) (by rw [← ho]; exact zO 2)
  · rw [if_neg hm] at ho
    exact z_val (EntOk.toZ (run_ent (P := pgY Y [(0, hLb, iP 0, false)] (ok_one (eq_no zM (.lit 0) (by omega)))) (by kernel_rfl) hsp (by show 1 ≤ 3; decide) rfl (by kernel_rfl) (agE1 Y _))) (.lit 10) (by rw [← ho]; exact zO 2)
theorem okG (h1 : Y.ot (160 + 1) = 0) (h4 : Y.ot (160 + 4) = 0) : ∀ f ∈ fG, OkF (DZ Y) f := ok2 (eq_yes (zO 1) (.lit 0) h1) (eq_yes (dXt (zO 4)) (.lit 0) h4)
theorem num3W {a b : AObj} {K : Nat} (h1 : numO a = true) (h2 : numO b = true) : (numO a && (numO b && (ptObjs [dW K]).all numO)) = true := by rw [h1, h2, numDW]; rfl
structure Good (Y : Yr) : Prop where
  hN : 1 ≤ Y.n ∧ Y.n ≤ 4
  hm : Y.m = Y.n
  hk : Y.k ≤ 6
  v0 : ∀ i, i < Y.n → 1 ≤ Y.sc (4 * i + 0)
/-- the object that is told at the end -/
def endO (K : Nat) : AObj := if K = 0 then .opq 54 [] else .opq (70 + K) []
def endT (K : Nat) : Value := if K = 0 then hLb else hLs
theorem endO_nw (K : Nat) : wrt (some (endO K)) = false := by unfold endO; split <;> rfl
theorem opq0 {P : Pg} {k : Nat} (hk : k < 200) (M : Mp) (r : Nat) (ob : Obj) (h : ORel P M r (.opq k []) ob) : (true = true → r = 0) ∧ ∀ M', ORel P M' 0 (.opq k []) ob := by
  have h0 := h.1 hk
  subst h0
  exact ⟨fun _ => rfl, fun M' => h⟩
theorem z_mk {f : Nat} {ps : List Pt} {o : AObj} {mk mk2 : Nat → Value} (h : EntZ Y ⟨f, ps, .n o mk⟩) (e : ∀ id, mk id = mk2 id) : EntZ Y ⟨f, ps, .n o mk2⟩ := by
  have : mk = mk2 := funext e
  subst this
  exact h
theorem z_aaG (g : Good Y) (hsys : EntZ Y eSys) (hyw : EntZ Y (eYe sA (dW Y.k))) (h1 : Y.ot (160 + 1) = 0) (h4 : Y.ot (160 + 4) = 0) : EntZ Y ⟨7, [sA, bA, dA], .n (endO Y.k) (fun id => .tuple #[osl (endT Y.k) id, iP 0])⟩ := by
  refine z_last (d := dW Y.k) ?_ (dWA (by have := g.hk; omega))
  have hk := g.hk
  have hsp : CallOk (pgY Y fG (okG h1 h4)) (spAa Y.k) := ok_spY fun e he => by
    simp only [List.mem_cons, List.mem_append, List.mem_map, List.mem_range] at he
    rcases he with rfl | rfl | rfl | ⟨y, hy, rfl⟩ | ⟨y, hy, rfl⟩
    · exact ⟨hsys, nwV⟩
    · exact ⟨hyw, nwV⟩
    · exact ⟨z_cl (by have := g.hm; have := g.hN; omega), nwO⟩
    · exact ⟨z_fl sysA g.hN zN (by omega), nwO⟩
    · exact ⟨z_bh (by omega) g.hm g.hN g.v0, nwO⟩
  clear hyw
  rcases (show Y.k = 0 ∨ Y.k = 1 ∨ Y.k = 2 ∨ Y.k = 3 ∨ Y.k = 4 ∨ Y.k = 5 ∨ Y.k = 6 by omega) with h | h | h | h | h | h | h
  · rw [h] at hsp ⊢
    exact z_mk (EntOk.toZ (run_entN (z := true) (by kernel_rfl) hsp (by show 3 ≤ 3; decide) (by kernel_rfl) (by kernel_rfl) (opq0 (by decide)) (aaG_0 Y _))) (fun id => by kernel_rfl)
  · rw [h] at hsp ⊢
    exact z_mk (EntOk.toZ (run_entN (z := true) (by kernel_rfl) hsp (by show 3 ≤ 3; decide) (by kernel_rfl) (by kernel_rfl) (opq0 (by decide)) (aaG_1 Y _))) (fun id => by kernel_rfl)
  · rw [h] at hsp ⊢
    exact z_mk (EntOk.toZ (run_entN (z := true) (by kernel_rfl) hsp (by show 3 ≤ 3; decide) (by kernel_rfl) (by kernel_rfl) (opq0 (by decide)) (aaG_2 Y _))) (fun id => by kernel_rfl)
  · rw [h] at hsp ⊢
    exact z_mk (EntOk.toZ (run_entN (z := true) (by kernel_rfl) hsp (by show 3 ≤ 3; decide) (by kernel_rfl) (by kernel_rfl) (opq0 (by decide)) (aaG_3 Y _))) (fun id => by kernel_rfl)
  · rw [h] at hsp ⊢
    exact z_mk (EntOk.toZ (run_entN (z := true) (by kernel_rfl) hsp (by show 3 ≤ 3; decide) (by kernel_rfl) (by kernel_rfl) (opq0 (by decide)) (aaG_4 Y _))) (fun id => by kernel_rfl)
  · rw [h] at hsp ⊢
    exact z_mk (EntOk.toZ (run_entN (z := true) (by kernel_rfl) hsp (by show 3 ≤ 3; decide) (by kernel_rfl) (by kernel_rfl) (opq0 (by decide)) (aaG_5 Y _))) (fun id => by kernel_rfl)
  · rw [h] at hsp ⊢
    exact z_mk (EntOk.toZ (run_entN (z := true) (by kernel_rfl) hsp (by show 3 ≤ 3; decide) (by kernel_rfl) (by kernel_rfl) (opq0 (by decide)) (aaG_6 Y _))) (fun id => by kernel_rfl)
theorem ra_key (g : Good Y) (hz : ∀ y, y < Y.k → fullZ Y.sc Y.n (Y.dr y) = false) : EntZ Y ⟨17, [sO, bO, dW Y.k], .n (endO Y.k) (fun id => .tuple #[osl (endT Y.k) id, iP 0])⟩ := by
  have hk := g.hk
  have hsp : CallOk (pgY Y [] nilZ) (spRa Y.k) := ok_spY fun e he => by
    simp only [List.mem_cons, List.mem_map, List.mem_range] at he
    rcases he with rfl | ⟨y, hy, rfl⟩
    · exact ⟨z_cb (by have := g.hm; have := g.hN; omega), nwO⟩
    · exact ⟨z_yr (by omega) g.hm g.hN g.v0 (hz y hy), nwO⟩
  rcases (show Y.k = 0 ∨ Y.k = 1 ∨ Y.k = 2 ∨ Y.k = 3 ∨ Y.k = 4 ∨ Y.k = 5 ∨ Y.k = 6 by omega) with h | h | h | h | h | h | h
  · rw [h] at hsp ⊢
    exact z_mk (EntOk.toZ (run_entN (z := true) (by kernel_rfl) hsp (by show 3 ≤ 3; decide) (by kernel_rfl) (by kernel_rfl) (opq0 (by decide)) (raG_0 Y _))) (fun id => by kernel_rfl)
  · rw [h] at hsp ⊢
    exact z_mk (EntOk.toZ (run_entN (z := true) (by kernel_rfl) hsp (by show 3 ≤ 3; decide) (by kernel_rfl) (by kernel_rfl) (opq0 (by decide)) (raG_1 Y _))) (fun id => by kernel_rfl)
  · rw [h] at hsp ⊢
    exact z_mk (EntOk.toZ (run_entN (z := true) (by kernel_rfl) hsp (by show 3 ≤ 3; decide) (by kernel_rfl) (by kernel_rfl) (opq0 (by decide)) (raG_2 Y _))) (fun id => by kernel_rfl)
  · rw [h] at hsp ⊢
    exact z_mk (EntOk.toZ (run_entN (z := true) (by kernel_rfl) hsp (by show 3 ≤ 3; decide) (by kernel_rfl) (by kernel_rfl) (opq0 (by decide)) (raG_3 Y _))) (fun id => by kernel_rfl)
  · rw [h] at hsp ⊢
    exact z_mk (EntOk.toZ (run_entN (z := true) (by kernel_rfl) hsp (by show 3 ≤ 3; decide) (by kernel_rfl) (by kernel_rfl) (opq0 (by decide)) (raG_4 Y _))) (fun id => by kernel_rfl)
  · rw [h] at hsp ⊢
    exact z_mk (EntOk.toZ (run_entN (z := true) (by kernel_rfl) hsp (by show 3 ≤ 3; decide) (by kernel_rfl) (by kernel_rfl) (opq0 (by decide)) (raG_5 Y _))) (fun id => by kernel_rfl)
  · rw [h] at hsp ⊢
    exact z_mk (EntOk.toZ (run_entN (z := true) (by kernel_rfl) hsp (by show 3 ≤ 3; decide) (by kernel_rfl) (by kernel_rfl) (opq0 (by decide)) (raG_6 Y _))) (fun id => by kernel_rfl)
theorem raF_any {K y : Nat} (hK : K ≤ 6) (hy : y < K) : RunY Y [] (spRn y) 17 [sO, bO, dW K] (nilE (iP 16)) := fun ok => by
  obtain rfl | rfl | rfl | rfl | rfl | rfl | rfl : K = 0 ∨ K = 1 ∨ K = 2 ∨ K = 3 ∨ K = 4 ∨ K = 5 ∨ K = 6 := by omega
  · omega
  · obtain rfl : y = 0 := by omega
    · exact raF_1_0 Y ok
  · obtain rfl | rfl : y = 0 ∨ y = 1 := by omega
    · exact raF_2_0 Y ok
    · exact raF_2_1 Y ok
  · obtain rfl | rfl | rfl : y = 0 ∨ y = 1 ∨ y = 2 := by omega
    · exact raF_3_0 Y ok
    · exact raF_3_1 Y ok
    · exact raF_3_2 Y ok
  · obtain rfl | rfl | rfl | rfl : y = 0 ∨ y = 1 ∨ y = 2 ∨ y = 3 := by omega
    · exact raF_4_0 Y ok
    · exact raF_4_1 Y ok
    · exact raF_4_2 Y ok
    · exact raF_4_3 Y ok
  · obtain rfl | rfl | rfl | rfl | rfl : y = 0 ∨ y = 1 ∨ y = 2 ∨ y = 3 ∨ y = 4 := by omega
    · exact raF_5_0 Y ok
    · exact raF_5_1 Y ok
    · exact raF_5_2 Y ok
    · exact raF_5_3 Y ok
    · exact raF_5_4 Y ok
  · obtain rfl | rfl | rfl | rfl | rfl | rfl : y = 0 ∨ y = 1 ∨ y = 2 ∨ y = 3 ∨ y = 4 ∨ y = 5 := by omega
    · exact raF_6_0 Y ok
    · exact raF_6_1 Y ok
    · exact raF_6_2 Y ok
    · exact raF_6_3 Y ok
    · exact raF_6_4 Y ok
    · exact raF_6_5 Y ok
theorem num3P : (ptObjs [sO, bO, dW Y.k]).all numO = true := num3W rfl rfl
theorem raf_key (g : Good Y) {y : Nat} (hy : y < Y.k) (hz : ∀ j, j < y → fullZ Y.sc Y.n (Y.dr j) = false) (hf : fullZ Y.sc Y.n (Y.dr y) = true) : EntZ Y ⟨17, [sO, bO, dW Y.k], .v (nilE (iP 16))⟩ := by
  have hk := g.hk
  have hsp : CallOk (pgY Y [] nilZ) (spRn y) := ok_spY fun e he => by
    simp only [List.mem_cons, List.mem_append, List.mem_map, List.mem_range, List.not_mem_nil, or_false] at he
    rcases he with rfl | ⟨j, hj, rfl⟩ | rfl
    · exact ⟨z_cb (by have := g.hm; have := g.hN; omega), nwO⟩
    · exact ⟨z_yr (by omega) g.hm g.hN g.v0 (hz j hj), nwO⟩
    · exact ⟨z_yn (by omega) g.hm g.hN g.v0 hf, nwV⟩
  exact run_ent (P := pgY Y [] nilZ) (pats := [sO, bO, dW Y.k]) (by kernel_rfl) hsp (by show 3 ≤ 3; decide) num3P (by kernel_rfl) (raF_any hk hy _)
theorem num3O : (ptObjs [sO, bO, dW Y.k]).all numO = true := num3W rfl rfl
theorem rfE_any {K : Nat} (hK : K ≤ 6) : RunY Y [(0, hCe, iP 0, false)] (spY [eRa (dW K) hCe]) 18 [sO, bO, dW K] (.tuple #[.agg #[iP 0, iP 0], hCe]) := fun ok => by
  obtain rfl | rfl | rfl | rfl | rfl | rfl | rfl : K = 0 ∨ K = 1 ∨ K = 2 ∨ K = 3 ∨ K = 4 ∨ K = 5 ∨ K = 6 := by omega
  · exact rfE_0 Y ok
  · exact rfE_1 Y ok
  · exact rfE_2 Y ok
  · exact rfE_3 Y ok
  · exact rfE_4 Y ok
  · exact rfE_5 Y ok
  · exact rfE_6 Y ok
/-- the reference's FirstShort where AgesAfter errs -/
theorem rfe_key {c : Int} (hk : Y.k ≤ 6) (h9 : Y.ot (160 + 9) = c) (hc : c ≠ 0) (h : EntZ Y (eRa (dW Y.k) hCe)) : EntZ Y ⟨18, [sO, bO, dW Y.k], .v (.tuple #[.agg #[iP 0, iP 0], hCe])⟩ :=
  EntOk.toZ (run_ent (pats := [sO, bO, dW Y.k]) (P := pgY Y [(0, hCe, iP 0, false)] (ok_one (eq_no (zO 9) (.lit 0) (by rw [h9]; exact hc)))) (by kernel_rfl) (ok_spY fun e he => by
    simp only [List.mem_cons, List.not_mem_nil, or_false] at he
    subst he
    exact ⟨h, nwV⟩) (by show 3 ≤ 3; decide) num3O (by kernel_rfl) (rfE_any hk _))
/-! The first year and scale that are short. -/
def shyV (Y : Yr) (y : Nat) : Int := shZ Y.sc (agV Y (y + 1)) Y.n
def fsG (p : Nat → Int) : Nat → Nat → Int × Int × Int
  | 0, _ => (0, 0, 12)
  | m + 1, k => if 0 ≤ p k then ((k : Int), p k, 0) else fsG p m (k + 1)
theorem fsG_none {p : Nat → Int} : ∀ m k, (∀ i, k ≤ i → i < k + m → ¬ 0 ≤ p i) → fsG p m k = (0, 0, 12)
  | 0, k, _ => rfl
  | m + 1, k, h => by
    unfold fsG
    rw [if_neg (h k (Nat.le_refl _) (by omega))]
    exact fsG_none m (k + 1) fun i h1 h2 => h i (by omega) (by omega)
theorem fsG_at {p : Nat → Int} : ∀ m k i, k ≤ i → i < k + m → 0 ≤ p i → (∀ j, k ≤ j → j < i → ¬ 0 ≤ p j) → fsG p m k = ((i : Int), p i, 0)
  | 0, k, i, h1, h2, _, _ => by omega
  | m + 1, k, i, h1, h2, h3, h4 => by
    unfold fsG
    by_cases e : k = i
    · subst e; rw [if_pos h3]
    · rw [if_neg (h4 k (Nat.le_refl _) (by omega))]
      exact fsG_at m (k + 1) i (by omega) (by omega) h3 fun j a b => h4 j (by omega) b
theorem shz_cases (sc a : Nat → Int) (N : Nat) : (shZ sc a N = -1 ∧ ∀ i, i < N → isSh sc a i = false) ∨ ∃ i, i < N ∧ shZ sc a N = (i : Int) ∧ isSh sc a i = true ∧ ∀ j, j < i → isSh sc a j = false := by
  rcases first_of (isSh sc a) N with h | ⟨i, h1, h2, h3⟩
  · exact .inl ⟨fstF_none N 0 fun i _ hi => h i (by omega), h⟩
  · exact .inr ⟨i, h1, fstF_at N 0 i (Nat.zero_le _) (by omega) h2 fun j _ hj => h3 j hj, h2, h3⟩
theorem years_cases (p : Nat → Int) (k : Nat) : (∀ y, y < k → ¬ 0 ≤ p y) ∨ ∃ y, y < k ∧ 0 ≤ p y ∧ ∀ j, j < y → ¬ 0 ≤ p j := by
  rcases first_of (fun y => decide (0 ≤ p y)) k with h | ⟨y, h1, h2, h3⟩
  · exact .inl fun y hy => of_decide_eq_false (h y hy)
  · exact .inr ⟨y, h1, of_decide_eq_true h2, fun j hj => of_decide_eq_false (h3 j hj)⟩
theorem okSh (hN : Y.n ≤ 4) {y i : Nat} (hy : y < 6) (hi : i < Y.n) {c : Bool} (h : isSh Y.sc (agV Y (y + 1)) i = c) : OkF (DZ Y) (shF y i c) := lt_is (zA (by omega) (by omega) (by decide)) (zSc (by omega) (by decide)) h
theorem no_short {y : Nat} (h : ¬ 0 ≤ shyV Y y) : ∀ i, i < Y.n → isSh Y.sc (agV Y (y + 1)) i = false := by
  rcases shz_cases Y.sc (agV Y (y + 1)) Y.n with ⟨_, h2⟩ | ⟨i, _, h2, _⟩
  · exact h2
  · exfalso; unfold shyV at h; rw [h2] at h; omega
theorem okNoSh (hN : Y.n ≤ 4) {K : Nat} (hK : K ≤ 6) (h : ∀ y, y < K → ¬ 0 ≤ shyV Y y) : ∀ f ∈ noShY Y.n K, OkF (DZ Y) f := fun f hf => by
  obtain ⟨y, hy, hf⟩ := List.mem_flatMap.1 hf
  obtain ⟨i, hi, rfl⟩ := List.mem_map.1 hf
  have hy := List.mem_range.1 hy
  have hi := List.mem_range.1 hi
  exact okSh hN (by omega) hi (no_short (h y hy) i hi)
theorem fsG_any {N K : Nat} (hN : 1 ≤ N ∧ N ≤ 4) (hK : K ≤ 6) : RunY Y (fG ++ noShY N K) (spFs N K) 11 [pS N, bA, dW K] (.tuple #[.agg #[iP 0, iP 0], iP 12]) := fun ok => by
  obtain rfl | rfl | rfl | rfl : N = 1 ∨ N = 2 ∨ N = 3 ∨ N = 4 := by omega
  · obtain rfl | rfl | rfl | rfl | rfl | rfl | rfl : K = 0 ∨ K = 1 ∨ K = 2 ∨ K = 3 ∨ K = 4 ∨ K = 5 ∨ K = 6 := by omega
    · exact fsG_1_0 Y ok
    · exact fsG_1_1 Y ok
    · exact fsG_1_2 Y ok
    · exact fsG_1_3 Y ok
    · exact fsG_1_4 Y ok
    · exact fsG_1_5 Y ok
    · exact fsG_1_6 Y ok
  · obtain rfl | rfl | rfl | rfl | rfl | rfl | rfl : K = 0 ∨ K = 1 ∨ K = 2 ∨ K = 3 ∨ K = 4 ∨ K = 5 ∨ K = 6 := by omega
    · exact fsG_2_0 Y ok
    · exact fsG_2_1 Y ok
    · exact fsG_2_2 Y ok
    · exact fsG_2_3 Y ok
    · exact fsG_2_4 Y ok
    · exact fsG_2_5 Y ok
    · exact fsG_2_6 Y ok
  · obtain rfl | rfl | rfl | rfl | rfl | rfl | rfl : K = 0 ∨ K = 1 ∨ K = 2 ∨ K = 3 ∨ K = 4 ∨ K = 5 ∨ K = 6 := by omega
    · exact fsG_3_0 Y ok
    · exact fsG_3_1 Y ok
    · exact fsG_3_2 Y ok
    · exact fsG_3_3 Y ok
    · exact fsG_3_4 Y ok
    · exact fsG_3_5 Y ok
    · exact fsG_3_6 Y ok
  · obtain rfl | rfl | rfl | rfl | rfl | rfl | rfl : K = 0 ∨ K = 1 ∨ K = 2 ∨ K = 3 ∨ K = 4 ∨ K = 5 ∨ K = 6 := by omega
    · exact fsG_4_0 Y ok
    · exact fsG_4_1 Y ok
    · exact fsG_4_2 Y ok
    · exact fsG_4_3 Y ok
    · exact fsG_4_4 Y ok
    · exact fsG_4_5 Y ok
    · exact fsG_4_6 Y ok
theorem fsS_any {N K y i : Nat} (hN : 1 ≤ N ∧ N ≤ 4) (hK : K ≤ 6) (hy : y < K) (hi : i < N) : RunY Y (fG ++ atShY N y i) (spFs N K) 11 [pS N, bA, dW K] (.tuple #[.agg #[iP y, iP i], iP 0]) := fun ok => by
  obtain rfl | rfl | rfl | rfl : N = 1 ∨ N = 2 ∨ N = 3 ∨ N = 4 := by omega
  · obtain rfl | rfl | rfl | rfl | rfl | rfl | rfl : K = 0 ∨ K = 1 ∨ K = 2 ∨ K = 3 ∨ K = 4 ∨ K = 5 ∨ K = 6 := by omega
    · omega
    · obtain rfl : y = 0 := by omega
      · obtain rfl : i = 0 := by omega
        · exact fsS_1_1_0_0 Y ok
    · obtain rfl | rfl : y = 0 ∨ y = 1 := by omega
      · obtain rfl : i = 0 := by omega
        · exact fsS_1_2_0_0 Y ok
      · obtain rfl : i = 0 := by omega
        · exact fsS_1_2_1_0 Y ok
    · obtain rfl | rfl | rfl : y = 0 ∨ y = 1 ∨ y = 2 := by omega
      · obtain rfl : i = 0 := by omega
        · exact fsS_1_3_0_0 Y ok
      · obtain rfl : i = 0 := by omega
        · exact fsS_1_3_1_0 Y ok
      · obtain rfl : i = 0 := by omega
        · exact fsS_1_3_2_0 Y ok
    · obtain rfl | rfl | rfl | rfl : y = 0 ∨ y = 1 ∨ y = 2 ∨ y = 3 := by omega
      · obtain rfl : i = 0 := by omega
        · exact fsS_1_4_0_0 Y ok
      · obtain rfl : i = 0 := by omega
        · exact fsS_1_4_1_0 Y ok
      · obtain rfl : i = 0 := by omega
        · exact fsS_1_4_2_0 Y ok
      · obtain rfl : i = 0 := by omega
        · exact fsS_1_4_3_0 Y ok
    · obtain rfl | rfl | rfl | rfl | rfl : y = 0 ∨ y = 1 ∨ y = 2 ∨ y = 3 ∨ y = 4 := by omega
      · obtain rfl : i = 0 := by omega
        · exact fsS_1_5_0_0 Y ok
      · obtain rfl : i = 0 := by omega
        · exact fsS_1_5_1_0 Y ok
      · obtain rfl : i = 0 := by omega
        · exact fsS_1_5_2_0 Y ok
      · obtain rfl : i = 0 := by omega
        · exact fsS_1_5_3_0 Y ok
      · obtain rfl : i = 0 := by omega
        · exact fsS_1_5_4_0 Y ok
    · obtain rfl | rfl | rfl | rfl | rfl | rfl : y = 0 ∨ y = 1 ∨ y = 2 ∨ y = 3 ∨ y = 4 ∨ y = 5 := by omega
      · obtain rfl : i = 0 := by omega
        · exact fsS_1_6_0_0 Y ok
      · obtain rfl : i = 0 := by omega
        · exact fsS_1_6_1_0 Y ok
      · obtain rfl : i = 0 := by omega
        · exact fsS_1_6_2_0 Y ok
      · obtain rfl : i = 0 := by omega
        · exact fsS_1_6_3_0 Y ok
      · obtain rfl : i = 0 := by omega
        · exact fsS_1_6_4_0 Y ok
      · obtain rfl : i = 0 := by omega
        · exact fsS_1_6_5_0 Y ok
  · obtain rfl | rfl | rfl | rfl | rfl | rfl | rfl : K = 0 ∨ K = 1 ∨ K = 2 ∨ K = 3 ∨ K = 4 ∨ K = 5 ∨ K = 6 := by omega
    · omega
    · obtain rfl : y = 0 := by omega
      · obtain rfl | rfl : i = 0 ∨ i = 1 := by omega
        · exact fsS_2_1_0_0 Y ok
        · exact fsS_2_1_0_1 Y ok
    · obtain rfl | rfl : y = 0 ∨ y = 1 := by omega
      · obtain rfl | rfl : i = 0 ∨ i = 1 := by omega
        · exact fsS_2_2_0_0 Y ok
        · exact fsS_2_2_0_1 Y ok
      · obtain rfl | rfl : i = 0 ∨ i = 1 := by omega
        · exact fsS_2_2_1_0 Y ok
        · exact fsS_2_2_1_1 Y ok
    · obtain rfl | rfl | rfl : y = 0 ∨ y = 1 ∨ y = 2 := by omega
      · obtain rfl | rfl : i = 0 ∨ i = 1 := by omega
        · exact fsS_2_3_0_0 Y ok
        · exact fsS_2_3_0_1 Y ok
      · obtain rfl | rfl : i = 0 ∨ i = 1 := by omega
        · exact fsS_2_3_1_0 Y ok
        · exact fsS_2_3_1_1 Y ok
      · obtain rfl | rfl : i = 0 ∨ i = 1 := by omega
        · exact fsS_2_3_2_0 Y ok
        · exact fsS_2_3_2_1 Y ok
    · obtain rfl | rfl | rfl | rfl : y = 0 ∨ y = 1 ∨ y = 2 ∨ y = 3 := by omega
      · obtain rfl | rfl : i = 0 ∨ i = 1 := by omega
        · exact fsS_2_4_0_0 Y ok
        · exact fsS_2_4_0_1 Y ok
      · obtain rfl | rfl : i = 0 ∨ i = 1 := by omega
        · exact fsS_2_4_1_0 Y ok
        · exact fsS_2_4_1_1 Y ok
      · obtain rfl | rfl : i = 0 ∨ i = 1 := by omega
        · exact fsS_2_4_2_0 Y ok
        · exact fsS_2_4_2_1 Y ok
      · obtain rfl | rfl : i = 0 ∨ i = 1 := by omega
        · exact fsS_2_4_3_0 Y ok
        · exact fsS_2_4_3_1 Y ok
    · obtain rfl | rfl | rfl | rfl | rfl : y = 0 ∨ y = 1 ∨ y = 2 ∨ y = 3 ∨ y = 4 := by omega
      · obtain rfl | rfl : i = 0 ∨ i = 1 := by omega
        · exact fsS_2_5_0_0 Y ok
        · exact fsS_2_5_0_1 Y ok
      · obtain rfl | rfl : i = 0 ∨ i = 1 := by omega
        · exact fsS_2_5_1_0 Y ok
        · exact fsS_2_5_1_1 Y ok
      · obtain rfl | rfl : i = 0 ∨ i = 1 := by omega
        · exact fsS_2_5_2_0 Y ok
        · exact fsS_2_5_2_1 Y ok
      · obtain rfl | rfl : i = 0 ∨ i = 1 := by omega
        · exact fsS_2_5_3_0 Y ok
        · exact fsS_2_5_3_1 Y ok
      · obtain rfl | rfl : i = 0 ∨ i = 1 := by omega
        · exact fsS_2_5_4_0 Y ok
        · exact fsS_2_5_4_1 Y ok
    · obtain rfl | rfl | rfl | rfl | rfl | rfl : y = 0 ∨ y = 1 ∨ y = 2 ∨ y = 3 ∨ y = 4 ∨ y = 5 := by omega
      · obtain rfl | rfl : i = 0 ∨ i = 1 := by omega
        · exact fsS_2_6_0_0 Y ok
        · exact fsS_2_6_0_1 Y ok
      · obtain rfl | rfl : i = 0 ∨ i = 1 := by omega
        · exact fsS_2_6_1_0 Y ok
        · exact fsS_2_6_1_1 Y ok
      · obtain rfl | rfl : i = 0 ∨ i = 1 := by omega
        · exact fsS_2_6_2_0 Y ok
        · exact fsS_2_6_2_1 Y ok
      · obtain rfl | rfl : i = 0 ∨ i = 1 := by omega
        · exact fsS_2_6_3_0 Y ok
        · exact fsS_2_6_3_1 Y ok
      · obtain rfl | rfl : i = 0 ∨ i = 1 := by omega
        · exact fsS_2_6_4_0 Y ok
        · exact fsS_2_6_4_1 Y ok
      · obtain rfl | rfl : i = 0 ∨ i = 1 := by omega
        · exact fsS_2_6_5_0 Y ok
        · exact fsS_2_6_5_1 Y ok
  · obtain rfl | rfl | rfl | rfl | rfl | rfl | rfl : K = 0 ∨ K = 1 ∨ K = 2 ∨ K = 3 ∨ K = 4 ∨ K = 5 ∨ K = 6 := by omega
    · omega
    · obtain rfl : y = 0 := by omega
      · obtain rfl | rfl | rfl : i = 0 ∨ i = 1 ∨ i = 2 := by omega
        · exact fsS_3_1_0_0 Y ok
        · exact fsS_3_1_0_1 Y ok
        · exact fsS_3_1_0_2 Y ok
    · obtain rfl | rfl : y = 0 ∨ y = 1 := by omega
      · obtain rfl | rfl | rfl : i = 0 ∨ i = 1 ∨ i = 2 := by omega
        · exact fsS_3_2_0_0 Y ok
        · exact fsS_3_2_0_1 Y ok
        · exact fsS_3_2_0_2 Y ok
      · obtain rfl | rfl | rfl : i = 0 ∨ i = 1 ∨ i = 2 := by omega
        · exact fsS_3_2_1_0 Y ok
        · exact fsS_3_2_1_1 Y ok
        · exact fsS_3_2_1_2 Y ok
    · obtain rfl | rfl | rfl : y = 0 ∨ y = 1 ∨ y = 2 := by omega
      · obtain rfl | rfl | rfl : i = 0 ∨ i = 1 ∨ i = 2 := by omega
        · exact fsS_3_3_0_0 Y ok
        · exact fsS_3_3_0_1 Y ok
        · exact fsS_3_3_0_2 Y ok
      · obtain rfl | rfl | rfl : i = 0 ∨ i = 1 ∨ i = 2 := by omega
        · exact fsS_3_3_1_0 Y ok
        · exact fsS_3_3_1_1 Y ok
        · exact fsS_3_3_1_2 Y ok
      · obtain rfl | rfl | rfl : i = 0 ∨ i = 1 ∨ i = 2 := by omega
        · exact fsS_3_3_2_0 Y ok
        · exact fsS_3_3_2_1 Y ok
        · exact fsS_3_3_2_2 Y ok
    · obtain rfl | rfl | rfl | rfl : y = 0 ∨ y = 1 ∨ y = 2 ∨ y = 3 := by omega
      · obtain rfl | rfl | rfl : i = 0 ∨ i = 1 ∨ i = 2 := by omega
        · exact fsS_3_4_0_0 Y ok
        · exact fsS_3_4_0_1 Y ok
        · exact fsS_3_4_0_2 Y ok
      · obtain rfl | rfl | rfl : i = 0 ∨ i = 1 ∨ i = 2 := by omega
        · exact fsS_3_4_1_0 Y ok
        · exact fsS_3_4_1_1 Y ok
        · exact fsS_3_4_1_2 Y ok
      · obtain rfl | rfl | rfl : i = 0 ∨ i = 1 ∨ i = 2 := by omega
        · exact fsS_3_4_2_0 Y ok
        · exact fsS_3_4_2_1 Y ok
        · exact fsS_3_4_2_2 Y ok
      · obtain rfl | rfl | rfl : i = 0 ∨ i = 1 ∨ i = 2 := by omega
        · exact fsS_3_4_3_0 Y ok
        · exact fsS_3_4_3_1 Y ok
        · exact fsS_3_4_3_2 Y ok
    · obtain rfl | rfl | rfl | rfl | rfl : y = 0 ∨ y = 1 ∨ y = 2 ∨ y = 3 ∨ y = 4 := by omega
      · obtain rfl | rfl | rfl : i = 0 ∨ i = 1 ∨ i = 2 := by omega
        · exact fsS_3_5_0_0 Y ok
        · exact fsS_3_5_0_1 Y ok
        · exact fsS_3_5_0_2 Y ok
      · obtain rfl | rfl | rfl : i = 0 ∨ i = 1 ∨ i = 2 := by omega
        · exact fsS_3_5_1_0 Y ok
        · exact fsS_3_5_1_1 Y ok
        · exact fsS_3_5_1_2 Y ok
      · obtain rfl | rfl | rfl : i = 0 ∨ i = 1 ∨ i = 2 := by omega
        · exact fsS_3_5_2_0 Y ok
        · exact fsS_3_5_2_1 Y ok
        · exact fsS_3_5_2_2 Y ok
      · obtain rfl | rfl | rfl : i = 0 ∨ i = 1 ∨ i = 2 := by omega
        · exact fsS_3_5_3_0 Y ok
        · exact fsS_3_5_3_1 Y ok
        · exact fsS_3_5_3_2 Y ok
      · obtain rfl | rfl | rfl : i = 0 ∨ i = 1 ∨ i = 2 := by omega
        · exact fsS_3_5_4_0 Y ok
        · exact fsS_3_5_4_1 Y ok
        · exact fsS_3_5_4_2 Y ok
    · obtain rfl | rfl | rfl | rfl | rfl | rfl : y = 0 ∨ y = 1 ∨ y = 2 ∨ y = 3 ∨ y = 4 ∨ y = 5 := by omega
      · obtain rfl | rfl | rfl : i = 0 ∨ i = 1 ∨ i = 2 := by omega
        · exact fsS_3_6_0_0 Y ok
        · exact fsS_3_6_0_1 Y ok
        · exact fsS_3_6_0_2 Y ok
      · obtain rfl | rfl | rfl : i = 0 ∨ i = 1 ∨ i = 2 := by omega
        · exact fsS_3_6_1_0 Y ok
        · exact fsS_3_6_1_1 Y ok
        · exact fsS_3_6_1_2 Y ok
      · obtain rfl | rfl | rfl : i = 0 ∨ i = 1 ∨ i = 2 := by omega
        · exact fsS_3_6_2_0 Y ok
        · exact fsS_3_6_2_1 Y ok
        · exact fsS_3_6_2_2 Y ok
      · obtain rfl | rfl | rfl : i = 0 ∨ i = 1 ∨ i = 2 := by omega
        · exact fsS_3_6_3_0 Y ok
        · exact fsS_3_6_3_1 Y ok
        · exact fsS_3_6_3_2 Y ok
      · obtain rfl | rfl | rfl : i = 0 ∨ i = 1 ∨ i = 2 := by omega
        · exact fsS_3_6_4_0 Y ok
        · exact fsS_3_6_4_1 Y ok
        · exact fsS_3_6_4_2 Y ok
      · obtain rfl | rfl | rfl : i = 0 ∨ i = 1 ∨ i = 2 := by omega
        · exact fsS_3_6_5_0 Y ok
        · exact fsS_3_6_5_1 Y ok
        · exact fsS_3_6_5_2 Y ok
  · obtain rfl | rfl | rfl | rfl | rfl | rfl | rfl : K = 0 ∨ K = 1 ∨ K = 2 ∨ K = 3 ∨ K = 4 ∨ K = 5 ∨ K = 6 := by omega
    · omega
    · obtain rfl : y = 0 := by omega
      · obtain rfl | rfl | rfl | rfl : i = 0 ∨ i = 1 ∨ i = 2 ∨ i = 3 := by omega
        · exact fsS_4_1_0_0 Y ok
        · exact fsS_4_1_0_1 Y ok
        · exact fsS_4_1_0_2 Y ok
        · exact fsS_4_1_0_3 Y ok
    · obtain rfl | rfl : y = 0 ∨ y = 1 := by omega
      · obtain rfl | rfl | rfl | rfl : i = 0 ∨ i = 1 ∨ i = 2 ∨ i = 3 := by omega
        · exact fsS_4_2_0_0 Y ok
        · exact fsS_4_2_0_1 Y ok
        · exact fsS_4_2_0_2 Y ok
        · exact fsS_4_2_0_3 Y ok
      · obtain rfl | rfl | rfl | rfl : i = 0 ∨ i = 1 ∨ i = 2 ∨ i = 3 := by omega
        · exact fsS_4_2_1_0 Y ok
        · exact fsS_4_2_1_1 Y ok
        · exact fsS_4_2_1_2 Y ok
        · exact fsS_4_2_1_3 Y ok
    · obtain rfl | rfl | rfl : y = 0 ∨ y = 1 ∨ y = 2 := by omega
      · obtain rfl | rfl | rfl | rfl : i = 0 ∨ i = 1 ∨ i = 2 ∨ i = 3 := by omega
        · exact fsS_4_3_0_0 Y ok
        · exact fsS_4_3_0_1 Y ok
        · exact fsS_4_3_0_2 Y ok
        · exact fsS_4_3_0_3 Y ok
      · obtain rfl | rfl | rfl | rfl : i = 0 ∨ i = 1 ∨ i = 2 ∨ i = 3 := by omega
        · exact fsS_4_3_1_0 Y ok
        · exact fsS_4_3_1_1 Y ok
        · exact fsS_4_3_1_2 Y ok
        · exact fsS_4_3_1_3 Y ok
      · obtain rfl | rfl | rfl | rfl : i = 0 ∨ i = 1 ∨ i = 2 ∨ i = 3 := by omega
        · exact fsS_4_3_2_0 Y ok
        · exact fsS_4_3_2_1 Y ok
        · exact fsS_4_3_2_2 Y ok
        · exact fsS_4_3_2_3 Y ok
    · obtain rfl | rfl | rfl | rfl : y = 0 ∨ y = 1 ∨ y = 2 ∨ y = 3 := by omega
      · obtain rfl | rfl | rfl | rfl : i = 0 ∨ i = 1 ∨ i = 2 ∨ i = 3 := by omega
        · exact fsS_4_4_0_0 Y ok
        · exact fsS_4_4_0_1 Y ok
        · exact fsS_4_4_0_2 Y ok
        · exact fsS_4_4_0_3 Y ok
      · obtain rfl | rfl | rfl | rfl : i = 0 ∨ i = 1 ∨ i = 2 ∨ i = 3 := by omega
        · exact fsS_4_4_1_0 Y ok
        · exact fsS_4_4_1_1 Y ok
        · exact fsS_4_4_1_2 Y ok
        · exact fsS_4_4_1_3 Y ok
      · obtain rfl | rfl | rfl | rfl : i = 0 ∨ i = 1 ∨ i = 2 ∨ i = 3 := by omega
        · exact fsS_4_4_2_0 Y ok
        · exact fsS_4_4_2_1 Y ok
        · exact fsS_4_4_2_2 Y ok
        · exact fsS_4_4_2_3 Y ok
      · obtain rfl | rfl | rfl | rfl : i = 0 ∨ i = 1 ∨ i = 2 ∨ i = 3 := by omega
        · exact fsS_4_4_3_0 Y ok
        · exact fsS_4_4_3_1 Y ok
        · exact fsS_4_4_3_2 Y ok
        · exact fsS_4_4_3_3 Y ok
    · obtain rfl | rfl | rfl | rfl | rfl : y = 0 ∨ y = 1 ∨ y = 2 ∨ y = 3 ∨ y = 4 := by omega
      · obtain rfl | rfl | rfl | rfl : i = 0 ∨ i = 1 ∨ i = 2 ∨ i = 3 := by omega
        · exact fsS_4_5_0_0 Y ok
        · exact fsS_4_5_0_1 Y ok
        · exact fsS_4_5_0_2 Y ok
        · exact fsS_4_5_0_3 Y ok
      · obtain rfl | rfl | rfl | rfl : i = 0 ∨ i = 1 ∨ i = 2 ∨ i = 3 := by omega
        · exact fsS_4_5_1_0 Y ok
        · exact fsS_4_5_1_1 Y ok
        · exact fsS_4_5_1_2 Y ok
        · exact fsS_4_5_1_3 Y ok
      · obtain rfl | rfl | rfl | rfl : i = 0 ∨ i = 1 ∨ i = 2 ∨ i = 3 := by omega
        · exact fsS_4_5_2_0 Y ok
        · exact fsS_4_5_2_1 Y ok
        · exact fsS_4_5_2_2 Y ok
        · exact fsS_4_5_2_3 Y ok
      · obtain rfl | rfl | rfl | rfl : i = 0 ∨ i = 1 ∨ i = 2 ∨ i = 3 := by omega
        · exact fsS_4_5_3_0 Y ok
        · exact fsS_4_5_3_1 Y ok
        · exact fsS_4_5_3_2 Y ok
        · exact fsS_4_5_3_3 Y ok
      · obtain rfl | rfl | rfl | rfl : i = 0 ∨ i = 1 ∨ i = 2 ∨ i = 3 := by omega
        · exact fsS_4_5_4_0 Y ok
        · exact fsS_4_5_4_1 Y ok
        · exact fsS_4_5_4_2 Y ok
        · exact fsS_4_5_4_3 Y ok
    · obtain rfl | rfl | rfl | rfl | rfl | rfl : y = 0 ∨ y = 1 ∨ y = 2 ∨ y = 3 ∨ y = 4 ∨ y = 5 := by omega
      · obtain rfl | rfl | rfl | rfl : i = 0 ∨ i = 1 ∨ i = 2 ∨ i = 3 := by omega
        · exact fsS_4_6_0_0 Y ok
        · exact fsS_4_6_0_1 Y ok
        · exact fsS_4_6_0_2 Y ok
        · exact fsS_4_6_0_3 Y ok
      · obtain rfl | rfl | rfl | rfl : i = 0 ∨ i = 1 ∨ i = 2 ∨ i = 3 := by omega
        · exact fsS_4_6_1_0 Y ok
        · exact fsS_4_6_1_1 Y ok
        · exact fsS_4_6_1_2 Y ok
        · exact fsS_4_6_1_3 Y ok
      · obtain rfl | rfl | rfl | rfl : i = 0 ∨ i = 1 ∨ i = 2 ∨ i = 3 := by omega
        · exact fsS_4_6_2_0 Y ok
        · exact fsS_4_6_2_1 Y ok
        · exact fsS_4_6_2_2 Y ok
        · exact fsS_4_6_2_3 Y ok
      · obtain rfl | rfl | rfl | rfl : i = 0 ∨ i = 1 ∨ i = 2 ∨ i = 3 := by omega
        · exact fsS_4_6_3_0 Y ok
        · exact fsS_4_6_3_1 Y ok
        · exact fsS_4_6_3_2 Y ok
        · exact fsS_4_6_3_3 Y ok
      · obtain rfl | rfl | rfl | rfl : i = 0 ∨ i = 1 ∨ i = 2 ∨ i = 3 := by omega
        · exact fsS_4_6_4_0 Y ok
        · exact fsS_4_6_4_1 Y ok
        · exact fsS_4_6_4_2 Y ok
        · exact fsS_4_6_4_3 Y ok
      · obtain rfl | rfl | rfl | rfl : i = 0 ∨ i = 1 ∨ i = 2 ∨ i = 3 := by omega
        · exact fsS_4_6_5_0 Y ok
        · exact fsS_4_6_5_1 Y ok
        · exact fsS_4_6_5_2 Y ok
        · exact fsS_4_6_5_3 Y ok
theorem z_fsG (g : Good Y) (hsys : EntZ Y (eSysW Y.n)) (hyw : EntZ Y (eYe (pS Y.n) (dW Y.k))) (h1 : Y.ot (160 + 1) = 0) (h4 : Y.ot (160 + 4) = 0)
    (o0 : Y.ot (160 + 30) = (fsG (shyV Y) Y.k 0).1) (o1 : Y.ot (160 + 31) = (fsG (shyV Y) Y.k 0).2.1) (o2 : Y.ot (160 + 32) = (fsG (shyV Y) Y.k 0).2.2) : EntZ Y ⟨11, [sA, bA, dA], .v (.tuple #[.agg #[hFy, hFi], hFe])⟩ := by
  have hk := g.hk
  have hN := g.hN
  refine z_first (p := pS Y.n) (z_last (d := dW Y.k) ?_ (dWA (by omega))) (sWA hN.2)
  have hsp : ∀ {l ok}, CallOk (pgY Y l ok) (spFs Y.n Y.k) := ok_spY fun e he => by
    simp only [List.mem_cons, List.mem_append, List.mem_map, List.mem_range] at he
    rcases he with rfl | rfl | ⟨y, hy, rfl⟩ | ⟨y, hy, rfl⟩
    · exact ⟨hsys, nwV⟩
    · exact ⟨hyw, nwV⟩
    · exact ⟨z_fl (sysWn rfl hN.2) hN (.lit ((Y.n : Nat) : Int)) (by omega), nwO⟩
    · exact ⟨z_bw (by omega) rfl g.hm hN g.v0, nwW⟩
  have num : (ptObjs [pS Y.n, bA, dW Y.k]).all numO = true := num3W (numOw numS) rfl
  have c0 : Dv (DZ Y) hFy (fsG (shyV Y) Y.k 0).1 := by rw [← o0]; exact zO 30
  have c1 : Dv (DZ Y) hFi (fsG (shyV Y) Y.k 0).2.1 := by rw [← o1]; exact zO 31
  have c2 : Dv (DZ Y) hFe (fsG (shyV Y) Y.k 0).2.2 := by rw [← o2]; exact zO 32
  rcases years_cases (shyV Y) Y.k with hall | ⟨y, hy, k1, k2⟩
  · rw [fsG_none Y.k 0 fun i _ hi => hall i (by omega)] at c0 c1 c2
    exact z_tup (EntOk.toZ (run_ent (P := pgY Y (fG ++ noShY Y.n Y.k) (ok_app (okG h1 h4) (okNoSh hN.2 hk hall))) (by kernel_rfl) hsp (by show 3 ≤ 3; decide) num (by kernel_rfl) (fsG_any hN hk _))) (.lit 12) c2 (z_agg (.lit 0) (.lit 0) c0 c1)
  · rw [fsG_at Y.k 0 y (Nat.zero_le _) (by omega) k1 fun j _ hj => k2 j hj] at c0 c1 c2
    rcases shz_cases Y.sc (agV Y (y + 1)) Y.n with ⟨e, _⟩ | ⟨i, hi, e, s1, s2⟩
    · exfalso; unfold shyV at k1; rw [e] at k1; omega
    · have e' : shyV Y y = (i : Int) := e
      rw [e'] at c1
      exact z_tup (EntOk.toZ (run_ent (P := pgY Y (fG ++ atShY Y.n y i) (ok_app (okG h1 h4) (ok_app (okNoSh hN.2 (by omega) k2) (ok_app (ok_map fun j hj => okSh hN.2 (by omega) (by omega) (s2 j hj)) (ok_one (okSh hN.2 (by omega) hi s1)))))) (by kernel_rfl) hsp (by show 3 ≤ 3; decide) num (by simp only [noId]; rfl) (fsS_any hN hk hy hi _))) (.lit 0) c2 (z_agg (.lit (y : Int)) (.lit (i : Int)) c0 c1)
theorem rfG_any {K : Nat} (hK : K ≤ 6) : RunY Y (shNoR K) (spRf (dW K) K) 18 [sO, bO, dW K] (.tuple #[.agg #[iP 0, iP 0], iP 12]) := fun ok => by
  obtain rfl | rfl | rfl | rfl | rfl | rfl | rfl : K = 0 ∨ K = 1 ∨ K = 2 ∨ K = 3 ∨ K = 4 ∨ K = 5 ∨ K = 6 := by omega
  · exact rfG_0 Y ok
  · exact rfG_1 Y ok
  · exact rfG_2 Y ok
  · exact rfG_3 Y ok
  · exact rfG_4 Y ok
  · exact rfG_5 Y ok
  · exact rfG_6 Y ok
theorem rfS_any {K y : Nat} (hK : K ≤ 6) (hy : y < K) : RunY Y (shAtR y) (spRf (dW K) K) 18 [sO, bO, dW K] (.tuple #[.agg #[iP y, hSh y], iP 0]) := fun ok => by
  obtain rfl | rfl | rfl | rfl | rfl | rfl | rfl : K = 0 ∨ K = 1 ∨ K = 2 ∨ K = 3 ∨ K = 4 ∨ K = 5 ∨ K = 6 := by omega
  · omega
  · obtain rfl : y = 0 := by omega
    · exact rfS_1_0 Y ok
  · obtain rfl | rfl : y = 0 ∨ y = 1 := by omega
    · exact rfS_2_0 Y ok
    · exact rfS_2_1 Y ok
  · obtain rfl | rfl | rfl : y = 0 ∨ y = 1 ∨ y = 2 := by omega
    · exact rfS_3_0 Y ok
    · exact rfS_3_1 Y ok
    · exact rfS_3_2 Y ok
  · obtain rfl | rfl | rfl | rfl : y = 0 ∨ y = 1 ∨ y = 2 ∨ y = 3 := by omega
    · exact rfS_4_0 Y ok
    · exact rfS_4_1 Y ok
    · exact rfS_4_2 Y ok
    · exact rfS_4_3 Y ok
  · obtain rfl | rfl | rfl | rfl | rfl : y = 0 ∨ y = 1 ∨ y = 2 ∨ y = 3 ∨ y = 4 := by omega
    · exact rfS_5_0 Y ok
    · exact rfS_5_1 Y ok
    · exact rfS_5_2 Y ok
    · exact rfS_5_3 Y ok
    · exact rfS_5_4 Y ok
  · obtain rfl | rfl | rfl | rfl | rfl | rfl : y = 0 ∨ y = 1 ∨ y = 2 ∨ y = 3 ∨ y = 4 ∨ y = 5 := by omega
    · exact rfS_6_0 Y ok
    · exact rfS_6_1 Y ok
    · exact rfS_6_2 Y ok
    · exact rfS_6_3 Y ok
    · exact rfS_6_4 Y ok
    · exact rfS_6_5 Y ok
theorem rf_key (g : Good Y) (hz : ∀ y, y < Y.k → fullZ Y.sc Y.n (Y.dr y) = false) (hra : EntZ Y (eRg (dW Y.k) Y.k)) (hs : ∀ y, y < Y.k → Y.ot (160 + (20 + y)) = shyV Y y)
    (o0 : Y.ot (160 + 30) = (fsG (shyV Y) Y.k 0).1) (o1 : Y.ot (160 + 31) = (fsG (shyV Y) Y.k 0).2.1) (o2 : Y.ot (160 + 32) = (fsG (shyV Y) Y.k 0).2.2) : EntZ Y ⟨18, [sO, bO, dW Y.k], .v (.tuple #[.agg #[hFy, hFi], hFe])⟩ := by
  have hk := g.hk
  have hN := g.hN
  have hsp : ∀ {l ok}, CallOk (pgY Y l ok) (spRf (dW Y.k) Y.k) := ok_spY fun e he => by
    simp only [List.mem_cons, List.mem_append, List.mem_map, List.mem_range] at he
    rcases he with rfl | rfl | ⟨y, hy, rfl⟩ | ⟨y, hy, rfl⟩
    · exact ⟨hra, fun o mk e => by cases e; exact endO_nw Y.k⟩
    · exact ⟨z_cb (by have := g.hm; omega), nwO⟩
    · exact ⟨z_yr (by omega) g.hm hN g.v0 (hz y hy), nwO⟩
    · exact ⟨z_sh (by omega) hN (hs y hy), nwV⟩
  have num : (ptObjs [sO, bO, dW Y.k]).all numO = true := num3W rfl rfl
  have c0 : Dv (DZ Y) hFy (fsG (shyV Y) Y.k 0).1 := by rw [← o0]; exact zO 30
  have c1 : Dv (DZ Y) hFi (fsG (shyV Y) Y.k 0).2.1 := by rw [← o1]; exact zO 31
  have c2 : Dv (DZ Y) hFe (fsG (shyV Y) Y.k 0).2.2 := by rw [← o2]; exact zO 32
  rcases years_cases (shyV Y) Y.k with hall | ⟨y, hy, k1, k2⟩
  · rw [fsG_none Y.k 0 fun i _ hi => hall i (by omega)] at c0 c1 c2
    exact z_tup (EntOk.toZ (run_ent (P := pgY Y (shNoR Y.k) (ok_map fun y hy => le_no (.lit 0) (zO (20 + y)) (by rw [hs y hy]; exact hall y hy))) (by kernel_rfl) hsp (by show 3 ≤ 3; decide) num (by kernel_rfl) (rfG_any hk _))) (.lit 12) c2 (z_agg (.lit 0) (.lit 0) c0 c1)
  · rw [fsG_at Y.k 0 y (Nat.zero_le _) (by omega) k1 fun j _ hj => k2 j hj] at c0 c1 c2
    exact z_tup (EntOk.toZ (run_ent (P := pgY Y (shAtR y) (ok_app (ok_map fun j hj => le_no (.lit 0) (zO (20 + j)) (by rw [hs j (by omega)]; exact k2 j hj)) (ok_one (le_yes (.lit 0) (zO (20 + y)) (by rw [hs y hy]; exact k1))))) (by kernel_rfl) hsp (by show 3 ≤ 3; decide) num (by simp only [noId]; rfl) (rfS_any hk hy _))) (.lit 0) c2 (z_agg (.lit (y : Int)) (zO (20 + y)) c0 (by rw [hs y hy]; exact c1))
/-! No draws. -/
theorem raN_key (g : Good Y) (h0 : Y.k = 0) : EntZ Y (eRg dN 0) :=
  z_mk (EntOk.toZ (run_entN (P := pgY Y dNo (ok_one (lt_no (.lit 0) zK (by omega)))) (z := true) (by kernel_rfl) (ok_spY fun e he => by
    simp only [List.mem_cons, List.mem_map, List.mem_range] at he
    rcases he with rfl | ⟨y, hy, rfl⟩
    · exact ⟨z_cb (by have := g.hm; have := g.hN; omega), nwO⟩
    · omega) (by show 2 ≤ 3; decide) (by kernel_rfl) (by kernel_rfl) (opq0 (by decide)) (raN Y _))) (fun id => by kernel_rfl)
theorem rfN_key (g : Good Y) (h0 : Y.k = 0) (hra : EntZ Y (eRg dN 0)) (o0 : Y.ot (160 + 30) = 0) (o1 : Y.ot (160 + 31) = 0) (o2 : Y.ot (160 + 32) = 12) : EntZ Y ⟨18, [sO, bO, dN], .v (.tuple #[.agg #[hFy, hFi], hFe])⟩ :=
  z_tup (EntOk.toZ (run_ent (P := pgY Y dNo (ok_one (lt_no (.lit 0) zK (by omega)))) (by kernel_rfl) (ok_spY fun e he => by
    simp only [List.mem_cons, List.mem_append, List.mem_map, List.mem_range] at he
    rcases he with rfl | rfl | ⟨y, hy, rfl⟩ | ⟨y, hy, rfl⟩
    · exact ⟨hra, fun o mk e => by cases e; rfl⟩
    · exact ⟨z_cb (by have := g.hm; have := g.hN; omega), nwO⟩
    · omega
    · omega) (by show 2 ≤ 3; decide) (by kernel_rfl) (by kernel_rfl) (rfN Y _))) (.lit 12) (by rw [← o2]; exact zO 32) (z_agg (.lit 0) (.lit 0) (by rw [← o0]; exact zO 30) (by rw [← o1]; exact zO 31))
end
end Sy
end Go.Proofs.YtdejmleboflopaaGreat
