/- The reference's CheckBook of any book: put together. -/
import Derived.Test.YtlmnhlmgbcpclaaBC
set_option linter.unusedVariables false
set_option linter.unusedSimpArgs false
namespace Go.Proofs.Ytlmnhlmgbcpclaa
open Go.RowKit
namespace Sy
open Go.RowKit

def many1 : List Fact := [(0, ho 10, li 0, true), (1, li 40, nR, true)]
def many2 : List Fact := [(0, ho 10, li 0, true), (1, li 40, nR, false), (1, li 60, nM, true)]
def endR : List Fact := goodHd ++ [(1, nR, nR, false)]
theorem cb_rng : runCB [(0, ho 10, li 0, false)] [] allR = some (.tuple #[.agg #[li 0, li 0], ho 10]) := by kernel_rfl
theorem cb_many1 : runCB many1 [] allR = some (.tuple #[.agg #[li 0, li 0], li 8]) := by kernel_rfl
theorem cb_many2 : runCB many2 [] allR = some (.tuple #[.agg #[li 0, li 0], li 8]) := by kernel_rfl
theorem cb_rOwn : runCB (goodHd ++ badOwn nR rE hK) [loopR hK] allR = some (.tuple #[.agg #[li 1, hK], rE hK]) := by kernel_rfl
theorem cb_rDay : runCB (goodHd ++ badDay nR rE rD hK) [loopR hK] allR = some (.tuple #[.agg #[li 1, hK], li 9]) := by kernel_rfl
theorem cb_mOwn : runCB (endR ++ badOwn nM mE hK) [loopR nR, loopM hK] allR = some (.tuple #[.agg #[li 2, hK], mE hK]) := by kernel_rfl
theorem cb_mDay : runCB (endR ++ badDay nM mE mD hK) [loopR nR, loopM hK] allR = some (.tuple #[.agg #[li 2, hK], li 9]) := by kernel_rfl
theorem cb_fine : runCB (endR ++ [(1, nM, nM, false)]) [loopR nR, loopM nM] allR = some (.tuple #[.agg #[li 0, li 0], li 0]) := by kernel_rfl
theorem cleanR : cleanF (pdB (goodHd ++ badOwn nR rE hK) []) [50] = true := by kernel_rfl
def nu0 : Nat → List Int → Int := fun _ _ => 0
/-- a hole for the loss's error, one for the number of what is wrong -/
def otB (B : Bk) (k : Nat) (i : Nat) : Int := if i = 10 then rangeE B.lo B.hi 100000 else if i = 20 then (k : Int) else 0
section
variable {B : Bk}
theorem hmB : Try.prog.follows .mixedOrders = true := by kernel_rfl
theorem spB (h : BkOk B) (k : Nat) {l q h1 h2} : ∀ P', IsB B nu0 P' → (∀ n, n ≠ 50 → n ≠ 51 → P'.den.hole n = (pgB h (otB B k) nu0 l q h1 h2).den.hole n) → CallOk P' (spEnts allR) := fun P' hP hh => by
  refine ok_spEnts (fun e he => ?_) (fun e he => ?_)
  · simp only [allR, List.mem_cons, List.not_mem_nil, or_false] at he
    rcases he with rfl | rfl | rfl | rfl | rfl
    · refine ent_rg hP (e := 0) fun lo hi dl dh => ?_
      have e0 := dl.unique _ (dv_ho (k := 0) (x := B.lo) (hh 0 (by decide) (by decide)))
      have e1 := dh.unique _ (dv_ho (k := 1) (x := B.hi) (hh 1 (by decide) (by decide)))
      subst e0 e1
      exact dv_ho (hh 10 (by decide) (by decide))
    · exact ent_rd hP _
    · exact ent_rd hP _
    · exact ent_mv hP _
    · exact ent_mv hP _
  · simp only [allR, List.mem_cons, List.not_mem_nil, or_false] at he
    rcases he with rfl | rfl | rfl | rfl | rfl <;> trivial
theorem bk_pts {P : Pg} (h : BkOk B) (hP : IsB B nu0 P) (h0 : P.den.hole 0 = .int .i64 B.lo) (h1 : P.den.hole 1 = .int .i64 B.hi) (M : Mp) : VRel P M bkV (.agg #[.int .i64 B.lo, .int .i64 B.hi, B.vr, B.vm]) := by
  obtain ⟨sa, cap, e1, _⟩ := h.r
  obtain ⟨sb, cap2, e2, _⟩ := h.m
  have v1 : VRel P M fR B.vr := by
    rw [e1]
    exact slc_rel (DvL.nil _) (by rw [hP.slc]; exact e1)
  have v2 : VRel P M fM B.vm := by
    rw [e2]
    exact slc_rel (DvL.nil _) (by rw [hP.slc]; exact e2)
  exact LRel.agg (LRel.cons (dv_ho h0).vrel (LRel.cons (dv_ho h1).vrel (LRel.cons v1 (LRel.cons v2 (LRel.nil M)))))
theorem fin_cb (h : BkOk B) (k : Nat) {l : List Fact} (h1 : AllL (OkFc (DB B (otB B k) nu0)) l) {tb : List LSpec} {v v' : Value} (hg : GoodE (spEnts allR) 1 (pgB h (otB B k) nu0 l [] h1 trivial) tb) (hrun : runCB l tb allR = some v) (hv : noId 9 v = true) (hrel : ∀ u, VRel (pgB h (otB B k) nu0 l [] h1 trivial) (fun _ => none) v u → u = v') :
    Calls Try.prog fCB #[.agg #[.int .i64 B.lo, .int .i64 B.hi, B.vr, B.vm]] B.w fun e w' => e = .returned v' ∧ Below B.w.heap.size B.w w' :=
  ent_calls (P := pgB h (otB B k) nu0 l [] h1 trivial) (args := #[.agg #[.int .i64 B.lo, .int .i64 B.hi, B.vr, B.vm]]) (w := B.w) (run_entQ (P := pgB h (otB B k) nu0 l [] h1 trivial) (Q := pdB l []) (pats := [.v bkV]) rfl hmB hg hrun hv (Nat.zero_le _) rfl) (show _ ∧ _ from ⟨bk_pts h isB_pg rfl rfl, roOk_of rfl⟩) hrel
theorem good0 (h : BkOk B) (k : Nat) {l : List Fact} (h1 : AllL (OkFc (DB B (otB B k) nu0)) l) {tb : List LSpec} (ht : ∀ x ∈ tb, LoopSem (pgB h (otB B k) nu0 l [] h1 trivial) x (fun P' => GoodE (spEnts allR) 0 P' x.inner)) : GoodE (spEnts allR) 1 (pgB h (otB B k) nu0 l [] h1 trivial) tb :=
  ⟨spB h k _ isB_pg fun _ _ _ => rfl, ht⟩
theorem relT {P : Pg} {a b c : Value} {x y z : Int} (d1 : Dv P.den a x) (d2 : Dv P.den b y) (d3 : Dv P.den c z) : ∀ u, VRel P (fun _ => none) (.tuple #[.agg #[a, b], c]) u → u = .tuple #[.agg #[.int .i64 x, .int .i64 y], .int .i64 z] := rel_tup2 (rel_agg2 (rel_num d1) (rel_num d2)) (rel_num d3)
theorem rbook_fam (h : BkOk B) : Calls Try.prog fCB #[.agg #[.int .i64 B.lo, .int .i64 B.hi, B.vr, B.vm]] B.w fun e w' => e = .returned (bookV B.lo B.hi B.n B.m B.x B.y) ∧ Below B.w.heap.size B.w w' := by
  have d10 : ∀ k, Dv (DB B (otB B k) nu0) (ho 10) (rangeE B.lo B.hi 100000) := fun k => dv_ho rfl
  have d20 : ∀ k, Dv (DB B (otB B k) nu0) hK (k : Int) := fun k => dv_ho rfl
  have dnR : ∀ k, Dv (DB B (otB B k) nu0) nR (B.n : Int) := fun k => dv_nR (B := B) (nu := nu0) rfl h
  have dnM : ∀ k, Dv (DB B (otB B k) nu0) nM (B.m : Int) := fun k => dv_nM (B := B) (nu := nu0) rfl h
  have hrn := h.rn
  have hmn := h.mn
  unfold bookV
  by_cases hr : rangeE B.lo B.hi 100000 = 0
  case neg =>
    rw [if_pos hr]
    exact fin_cb h 0 (l := [(0, ho 10, li 0, false)]) ⟨eqN (d10 0) (dv_li 0) hr, trivial⟩ (good0 h 0 _ fun x hx => by cases hx) cb_rng (by kernel_rfl) (relT (dv_li 0) (dv_li 0) (d10 0))
  rw [if_neg (by rw [hr]; decide)]
  by_cases h40 : 40 < B.n
  · rw [if_pos (.inl h40)]
    exact fin_cb h 0 (l := many1) ⟨eqY (d10 0) (dv_li 0) hr, ltY (dv_li 40) (dnR 0) (by omega), trivial⟩ (good0 h 0 _ fun x hx => by cases hx) cb_many1 (by kernel_rfl) (relT (dv_li 0) (dv_li 0) (dv_li 8))
  by_cases h60 : 60 < B.m
  · rw [if_pos (.inr h60)]
    exact fin_cb h 0 (l := many2) ⟨eqY (d10 0) (dv_li 0) hr, ltN (dv_li 40) (dnR 0) (by omega), ltY (dv_li 60) (dnM 0) (by omega), trivial⟩ (good0 h 0 _ fun x hx => by cases hx) cb_many2 (by kernel_rfl) (relT (dv_li 0) (dv_li 0) (dv_li 8))
  rw [if_neg (by omega)]
  have hd : ∀ k, AllL (OkFc (DB B (otB B k) nu0)) goodHd := fun k => ⟨eqY (d10 k) (dv_li 0) hr, ltN (dv_li 40) (dnR k) (by omega), ltN (dv_li 60) (dnM k) (by omega), trivial⟩
  have eR : ∀ k, AllL (OkFc (DB B (otB B k) nu0)) endR := fun k => AllL.app (hd k) ⟨ltN (dnR k) (dnR k) (by omega), trivial⟩
  have eM : ∀ k, OkFc (DB B (otB B k) nu0) (1, nM, nM, false) := fun k => ltN (dnM k) (dnM k) (by omega)
  have rw0 : ∀ i, rwE B.x i = 0 → rdE (B.x i) = 0 ∧ (0 < i → ¬ (B.x i).d < (B.x (i - 1)).d) := fun i hi => by
    rcases i with _ | q
    · rw [rwE_0] at hi; exact ⟨hi, fun h => by omega⟩
    · rw [rwE_s] at hi
      by_cases e : rdE (B.x (q + 1)) = 0
      · rw [if_pos e] at hi
        by_cases e2 : (B.x q).d ≤ (B.x (q + 1)).d
        · exact ⟨e, fun _ => by rw [Nat.add_sub_cancel]; omega⟩
        · rw [if_neg e2] at hi; cases hi
      · rw [if_neg e] at hi; exact absurd hi e
  have mw0 : ∀ i, mwE B.y i = 0 → mvE (B.y i) = 0 ∧ (0 < i → ¬ (B.y i).d < (B.y (i - 1)).d) := fun i hi => by
    rcases i with _ | q
    · rw [mwE_0] at hi; exact ⟨hi, fun h => by omega⟩
    · rw [mwE_s] at hi
      by_cases e : mvE (B.y (q + 1)) = 0
      · rw [if_pos e] at hi
        by_cases e2 : (B.y q).d ≤ (B.y (q + 1)).d
        · exact ⟨e, fun _ => by rw [Nat.add_sub_cancel]; omega⟩
        · rw [if_neg e2] at hi; cases hi
      · rw [if_neg e] at hi; exact absurd hi e
  rcases first_bad (rwE B.x) B.n with hall | ⟨k, hk, hb, hlt⟩
  case inr =>
    -- a reading is wrong
    rw [eachF_bad0 hk hb hlt]
    unfold lstV
    rw [if_pos hb]
    have dE : Dv (DB B (otB B k) nu0) (rE hK) (rdE (B.x k)) := dvD (t := 113) (by decide) (by decide) (d20 k) rfl
    have dD : Dv (DB B (otB B k) nu0) (rD hK) (B.x k).d := dvD (t := 110) (by decide) (by decide) (d20 k) rfl
    by_cases hown : rdE (B.x k) = 0
    case neg =>
      rw [rwE_bad rfl hown]
      exact fin_cb h k (l := goodHd ++ badOwn nR rE hK) (AllL.app (hd k) ⟨leY (dv_li 0) (d20 k) (by omega), ltY (d20 k) (dnR k) (by omega), eqN dE (dv_li 0) hown, trivial⟩)
        (good0 h k _ fun x hx => (by
          rcases List.mem_singleton.1 hx with rfl
          exact semR h isB_pg (spB h k) (by kernel_rfl) (d20 k) (by omega) fun i hi => rw0 i (hlt i hi))) cb_rOwn (by kernel_rfl) (relT (dv_li 1) (d20 k) dE)
    case pos =>
      obtain ⟨q, rfl⟩ : ∃ q, k = q + 1 := by
        rcases k with _ | q
        · rw [rwE_0] at hb; exact absurd hown hb
        · exact ⟨q, rfl⟩
      have hday : ¬ (B.x q).d ≤ (B.x (q + 1)).d := fun e => hb (by rw [rwE_s, if_pos hown, if_pos e])
      rw [show rwE B.x (q + 1) = 9 by rw [rwE_s, if_pos hown, if_neg hday]]
      have dP : Dv (DB B (otB B (q + 1)) nu0) (bn 2 hK (li 1)) ((q : Nat) : Int) := by
        have := dv_bn (t := 2) (by decide) (d20 (q + 1)) (dv_li 1)
        rwa [b2w (by omega) (by omega)] at this
      have dDp : Dv (DB B (otB B (q + 1)) nu0) (rD (bn 2 hK (li 1))) (B.x q).d := dvD (t := 110) (by decide) (by decide) dP rfl
      exact fin_cb h (q + 1) (l := goodHd ++ badDay nR rE rD hK) (AllL.app (hd _) (AllL.app (a := okAt nR (rE hK) (rD hK) hK) ⟨leY (dv_li 0) (d20 _) (by omega), ltY (d20 _) (dnR _) (by omega), eqY dE (dv_li 0) hown, trivial⟩ ⟨ltY (dv_li 0) (d20 _) (by omega), leY (dv_li 0) dP (by omega), ltY dP (dnR _) (by omega), ltY dD dDp (by omega), trivial⟩))
        (good0 h _ _ fun x hx => (by
          rcases List.mem_singleton.1 hx with rfl
          exact semR h isB_pg (spB h _) (by kernel_rfl) (d20 _) (by omega) fun i hi => rw0 i (hlt i hi))) cb_rDay (by kernel_rfl) (relT (dv_li 1) (d20 _) (dv_li 9))
  case inl =>
    rw [eachF_none 0 (fun i _ hi => hall i (by omega))]
    rcases first_bad (mwE B.y) B.m with hallM | ⟨k, hk, hb, hlt⟩
    case inl =>
      rw [eachF_none 0 (fun i _ hi => hallM i (by omega))]
      exact fin_cb h 0 (l := endR ++ [(1, nM, nM, false)]) (AllL.app (eR 0) ⟨eM 0, trivial⟩)
        (good0 h 0 _ fun x hx => (by
          simp only [List.mem_cons, List.not_mem_nil, or_false] at hx
          rcases hx with rfl | rfl
          · exact semR h isB_pg (spB h 0) (by kernel_rfl) (dnR 0) (Nat.le_refl _) fun i hi => rw0 i (hall i hi)
          · exact semM h isB_pg (spB h 0) (by kernel_rfl) (dnM 0) (Nat.le_refl _) fun i hi => mw0 i (hallM i hi))) cb_fine (by kernel_rfl) (relT (dv_li 0) (dv_li 0) (dv_li 0))
    case inr =>
      rw [eachF_bad0 hk hb hlt]
      unfold lstV
      rw [if_neg (by decide), if_pos hb]
      have dE : Dv (DB B (otB B k) nu0) (mE hK) (mvE (B.y k)) := dvD (t := 122) (by decide) (by decide) (d20 k) rfl
      have dD : Dv (DB B (otB B k) nu0) (mD hK) (B.y k).d := dvD (t := 120) (by decide) (by decide) (d20 k) rfl
      by_cases hown : mvE (B.y k) = 0
      case neg =>
        rw [mwE_bad rfl hown]
        exact fin_cb h k (l := endR ++ badOwn nM mE hK) (AllL.app (eR k) ⟨leY (dv_li 0) (d20 k) (by omega), ltY (d20 k) (dnM k) (by omega), eqN dE (dv_li 0) hown, trivial⟩)
          (good0 h k _ fun x hx => (by
            simp only [List.mem_cons, List.not_mem_nil, or_false] at hx
            rcases hx with rfl | rfl
            · exact semR h isB_pg (spB h k) (by kernel_rfl) (dnR k) (Nat.le_refl _) fun i hi => rw0 i (hall i hi)
            · exact semM h isB_pg (spB h k) (by kernel_rfl) (d20 k) (by omega) fun i hi => mw0 i (hlt i hi))) cb_mOwn (by kernel_rfl) (relT (dv_li 2) (d20 k) dE)
      case pos =>
        obtain ⟨q, rfl⟩ : ∃ q, k = q + 1 := by
          rcases k with _ | q
          · rw [mwE_0] at hb; exact absurd hown hb
          · exact ⟨q, rfl⟩
        have hday : ¬ (B.y q).d ≤ (B.y (q + 1)).d := fun e => hb (by rw [mwE_s, if_pos hown, if_pos e])
        rw [show mwE B.y (q + 1) = 9 by rw [mwE_s, if_pos hown, if_neg hday]]
        have dP : Dv (DB B (otB B (q + 1)) nu0) (bn 2 hK (li 1)) ((q : Nat) : Int) := by
          have := dv_bn (t := 2) (by decide) (d20 (q + 1)) (dv_li 1)
          rwa [b2w (by omega) (by omega)] at this
        have dDp : Dv (DB B (otB B (q + 1)) nu0) (mD (bn 2 hK (li 1))) (B.y q).d := dvD (t := 120) (by decide) (by decide) dP rfl
        exact fin_cb h (q + 1) (l := endR ++ badDay nM mE mD hK) (AllL.app (eR _) (AllL.app (a := okAt nM (mE hK) (mD hK) hK) ⟨leY (dv_li 0) (d20 _) (by omega), ltY (d20 _) (dnM _) (by omega), eqY dE (dv_li 0) hown, trivial⟩ ⟨ltY (dv_li 0) (d20 _) (by omega), leY (dv_li 0) dP (by omega), ltY dP (dnM _) (by omega), ltY dD dDp (by omega), trivial⟩))
          (good0 h _ _ fun x hx => (by
            simp only [List.mem_cons, List.not_mem_nil, or_false] at hx
            rcases hx with rfl | rfl
            · exact semR h isB_pg (spB h _) (by kernel_rfl) (dnR _) (Nat.le_refl _) fun i hi => rw0 i (hall i hi)
            · exact semM h isB_pg (spB h _) (by kernel_rfl) (d20 _) (by omega) fun i hi => mw0 i (hlt i hi))) cb_mDay (by kernel_rfl) (relT (dv_li 2) (d20 _) (dv_li 9))
end
end Sy
end Go.Proofs.Ytlmnhlmgbcpclaa
