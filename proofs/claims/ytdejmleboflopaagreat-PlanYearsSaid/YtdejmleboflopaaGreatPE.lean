/- GreatestNow of a right system: the contract. -/
import Derived.Test.YtdejmleboflopaaGreatPD
set_option linter.unusedVariables false
set_option linter.unusedSimpArgs false
namespace Go.Proofs.YtdejmleboflopaaGreat
open Go.RowKit
namespace Sy
open Go.RowKit

/-! The runs, by number. -/
section
variable (hole : Nat → Value) {N i : Nat} (h : 1 ≤ N ∧ N ≤ 4)
noncomputable abbrev rnd (hole : Nat → Value) (N : Nat) (h : 1 ≤ N ∧ N ≤ 4) (l : List Fact) (ok : ∀ f ∈ factsS N l, ∃ x y, Dv (DP hole) f.2.1 x ∧ Dv (DP hole) f.2.2.1 y ∧ cmpN f.1 x y = f.2.2.2) : Option (AX × St) := evCL hkNone csNone (pgS hole (factsS N l) ok) (evDS (pgS hole (factsS N l) ok) (spP N) 2000 60) 2000 (loopB Tryz.prog 12 7) (rndN N h)
theorem gnGoA (ok) : goesOn (headN N h) (leftN N h) hsN [(9, b1 1 hDr (iP 1))] (rnd hole N h (goodF N hDr) ok) = true := by
  obtain rfl | rfl | rfl | rfl : N = 1 ∨ N = 2 ∨ N = 3 ∨ N = 4 := by omega
  · exact gnGo1 hole ok
  · exact gnGo2 hole ok
  · exact gnGo3 hole ok
  · exact gnGo4 hole ok
theorem gnFullA (hi : i < N) (ok) : endsIt (headN N h) (leftN N h) hsN (.exit 0) [(9, hDr)] (rnd hole N h (fullAt hDr i) ok) = true := by
  obtain rfl | rfl | rfl | rfl : N = 1 ∨ N = 2 ∨ N = 3 ∨ N = 4 := by omega
  · obtain rfl : i = 0 := by omega
    · exact gnFull1_0 hole ok
  · obtain rfl | rfl : i = 0 ∨ i = 1 := by omega
    · exact gnFull2_0 hole ok
    · exact gnFull2_1 hole ok
  · obtain rfl | rfl | rfl : i = 0 ∨ i = 1 ∨ i = 2 := by omega
    · exact gnFull3_0 hole ok
    · exact gnFull3_1 hole ok
    · exact gnFull3_2 hole ok
  · obtain rfl | rfl | rfl | rfl : i = 0 ∨ i = 1 ∨ i = 2 ∨ i = 3 := by omega
    · exact gnFull4_0 hole ok
    · exact gnFull4_1 hole ok
    · exact gnFull4_2 hole ok
    · exact gnFull4_3 hole ok
theorem gnShortA (hi : i < N) (ok) : endsIt (headN N h) (leftN N h) hsN (.exit 0) [(9, hDr)] (rnd hole N h (shortAt N hDr i) ok) = true := by
  obtain rfl | rfl | rfl | rfl : N = 1 ∨ N = 2 ∨ N = 3 ∨ N = 4 := by omega
  · obtain rfl : i = 0 := by omega
    · exact gnShort1_0 hole ok
  · obtain rfl | rfl : i = 0 ∨ i = 1 := by omega
    · exact gnShort2_0 hole ok
    · exact gnShort2_1 hole ok
  · obtain rfl | rfl | rfl : i = 0 ∨ i = 1 ∨ i = 2 := by omega
    · exact gnShort3_0 hole ok
    · exact gnShort3_1 hole ok
    · exact gnShort3_2 hole ok
  · obtain rfl | rfl | rfl | rfl : i = 0 ∨ i = 1 ∨ i = 2 ∨ i = 3 := by omega
    · exact gnShort4_0 hole ok
    · exact gnShort4_1 hole ok
    · exact gnShort4_2 hole ok
    · exact gnShort4_3 hole ok
theorem gnRunA_true (ok) : fstO (fnRun (pgS hole (factsS N [(0, hP 31, iP 0, true)]) ok) (isLoop 7) (csOne (headN N h) (leftN N h) (.exit 0)) (evDS (pgS hole (factsS N [(0, hP 31, iP 0, true)]) ok) (spP N) 2000 60) 2000 12 [sysW N, begW N] (hpS N) 2) = some (.tuple #[iP 0, iP 12]) := by
  obtain rfl | rfl | rfl | rfl : N = 1 ∨ N = 2 ∨ N = 3 ∨ N = 4 := by omega
  · exact gnRun1_true hole ok
  · exact gnRun2_true hole ok
  · exact gnRun3_true hole ok
  · exact gnRun4_true hole ok
theorem gnRunA_false (ok) : fstO (fnRun (pgS hole (factsS N [(0, hP 31, iP 0, false)]) ok) (isLoop 7) (csOne (headN N h) (leftN N h) (.exit 0)) (evDS (pgS hole (factsS N [(0, hP 31, iP 0, false)]) ok) (spP N) 2000 60) 2000 12 [sysW N, begW N] (hpS N) 2) = some (.tuple #[b1 2 (hP 31) (iP 1), iP 0]) := by
  obtain rfl | rfl | rfl | rfl : N = 1 ∨ N = 2 ∨ N = 3 ∨ N = 4 := by omega
  · exact gnRun1_false hole ok
  · exact gnRun2_false hole ok
  · exact gnRun3_false hole ok
  · exact gnRun4_false hole ok
theorem gnHeadA : (leftN N h).df = [] ∧ (headN N h).df = [] ∧ (headN N h).nid ≤ (leftN N h).nid := by
  obtain rfl | rfl | rfl | rfl : N = 1 ∨ N = 2 ∨ N = 3 ∨ N = 4 := by omega
  · exact gnHead1
  · exact gnHead2
  · exact gnHead3
  · exact gnHead4
theorem gnCleanA : cleanS (headN N h) hsN := by
  obtain rfl | rfl | rfl | rfl : N = 1 ∨ N = 2 ∨ N = 3 ∨ N = 4 := by omega
  · exact gnClean1
  · exact gnClean2
  · exact gnClean3
  · exact gnClean4
theorem gnInitA : agt (headN N h).tm 9 = some (iP 0) := by
  obtain rfl | rfl | rfl | rfl : N = 1 ∨ N = 2 ∨ N = 3 ∨ N = 4 := by omega
  · exact gnInit1
  · exact gnInit2
  · exact gnInit3
  · exact gnInit4
theorem gnKeptA : ((leftN N h).tm.all fun x => kept (headN N h).kp x.1) = true := by
  obtain rfl | rfl | rfl | rfl : N = 1 ∨ N = 2 ∨ N = 3 ∨ N = 4 := by omega
  · exact gnKept1
  · exact gnKept2
  · exact gnKept3
  · exact gnKept4
end
/-! Windows. -/
def WinP (gs os : Nat) (n : Nat) (g : Nat → Int) (w : World) : Prop := ∃ c' e fr, w.heap[gs]? = some (.cells c' e fr) ∧ ∀ k, k < n → c'[os + k]? = some (.int .i64 (g k))
theorem winP_of {b off n : Nat} {g : Nat → Int} {w : World} (h0 : 0 < n) (hx : ∀ k, k < n → w.cell? ⟨b, off + k, none⟩ = some (.int .i64 (g k))) : WinP b off n g w := by
  have h := hx 0 h0
  have hcell : ∃ c e fr, w.heap[b]? = some (.cells c e fr) := by
    unfold World.cell? at h
    split at h
    · rename_i c e fr hb
      exact ⟨c, e, fr, hb⟩
    · cases h
  obtain ⟨c, e, fr, hb⟩ := hcell
  refine ⟨c, e, fr, hb, fun k hk => ?_⟩
  have h1 := hx k hk
  unfold World.cell? at h1
  rw [hb] at h1
  exact h1
theorem winP_obj {P : Pg} {M : Mp} {gs os n : Nat} {g : Nat → Int} {row : List Value} {w : World} (hl : row.length = n) (hd : ∀ (i : Nat) (v : Value), row[i]? = some v → Dv P.den v (g i)) (hw : WinP gs os n g w) (hpin : ∀ ob, P.den.pin ob) : ∃ ob, w.heap[gs]? = some ob ∧ ORel P M os (.win row) ob := by
  obtain ⟨c', e, fr, h1, h2⟩ := hw
  refine ⟨_, h1, c', e, fr, rfl, ?_, hpin _⟩
  have hlen : ((c'.toList.drop os).take row.length).length = row.length := by
    rw [List.length_take, List.length_drop]
    by_cases hz : row.length = 0
    · omega
    · have := h2 (n - 1) (by omega)
      have := (Array.getElem?_eq_some_iff.1 this).1
      simp; omega
  refine ⟨hlen.symm, fun i v v' hv hv' => ?_⟩
  have hi : i < row.length := (List.getElem?_eq_some_iff.1 hv).1
  rw [List.getElem?_take, if_pos hi, List.getElem?_drop, Array.getElem?_toList, h2 i (by omega)] at hv'
  cases hv'
  exact (hd i v hv).vrel
def mpP (g0 o0 g1 o1 : Nat) : Mp := fun id => if id = 0 then some (g0, o0) else if id = 1 then some (g1, o1) else none
theorem hpS_get {N : Nat} (id : Nat) (o : AObj) (h : (hpS N).get id = some o) : (id = 0 ∧ o = .win (rowS N)) ∨ (id = 1 ∧ o = .win (rowB N)) := by
  unfold hpS at h
  rw [T.get_node] at h
  by_cases h0 : id = 0
  · simp [h0] at h; exact .inl ⟨h0, h.symm⟩
  · simp only [h0, if_false] at h
    split at h
    · rw [T.get_node] at h
      by_cases h1 : id / 2 = 0
      · simp [h1] at h; exact .inr ⟨by omega, h.symm⟩
      · simp [h1, T.get_leaf] at h
    · simp [T.get_leaf] at h
theorem hpS_ro {N : Nat} (id : Nat) : wrt ((hpS N).get id) = false := by
  cases e : (hpS N).get id with
  | none => rfl
  | some o => rcases hpS_get id o e with ⟨_, rfl⟩ | ⟨_, rfl⟩ <;> rfl
theorem rowS_dv {nw : Int} {sc bg ot : Nat → Int} {N : Nat} (h4 : N ≤ 4) (i : Nat) (v : Value) (hv : (rowS N)[i]? = some v) : Dv (DSy nw sc bg ot) v (sc i) := by
  unfold rowS at hv
  rw [List.getElem?_map] at hv
  by_cases hi : i < 4 * N
  · rw [List.getElem?_range hi] at hv
    cases hv
    have := dSc (nw := nw) (sc := sc) (bg := bg) (ot := ot) (i := i / 4) (j := i % 4) (by omega) (by omega)
    unfold hSc at this
    rwa [show 1 + 4 * (i / 4) + i % 4 = 1 + i by omega, show 4 * (i / 4) + i % 4 = i by omega] at this
  · rw [List.getElem?_eq_none (by simp; omega)] at hv; cases hv
theorem rowB_dv {nw : Int} {sc bg ot : Nat → Int} {N : Nat} (h4 : N ≤ 4) (i : Nat) (v : Value) (hv : (rowB N)[i]? = some v) : Dv (DSy nw sc bg ot) v (bg i) := by
  unfold rowB at hv
  rw [List.getElem?_map] at hv
  by_cases hi : i < 2 * N
  · rw [List.getElem?_range hi] at hv
    cases hv
    have := dBg (nw := nw) (sc := sc) (bg := bg) (ot := ot) (i := i / 2) (j := i % 2) (by omega) (by omega)
    unfold hBg at this
    rwa [show 17 + 2 * (i / 2) + i % 2 = 17 + i by omega, show 2 * (i / 2) + i % 2 = i by omega] at this
  · rw [List.getElem?_eq_none (by simp; omega)] at hv; cases hv
theorem hpS_rel {P : Pg} {nw : Int} {sc bg ot : Nat → Int} (hd : P.den = DSy nw sc bg ot) {N gs os gb ob : Nat} {w : World} (h4 : N ≤ 4) (h1 : WinP gs os (4 * N) sc w) (h2 : WinP gb ob (2 * N) bg w) : HRel P 0 (mpP gs os gb ob) (hpS N).get w := by
  refine ⟨fun id o e => ?_, fun i j b r r' hi => by rw [hpS_ro i] at hi; cases hi⟩
  rcases hpS_get id o e with ⟨rfl, rfl⟩ | ⟨rfl, rfl⟩
  · obtain ⟨ob1, k1, k2⟩ := winP_obj (P := P) (M := mpP gs os gb ob) (row := rowS N) (by simp [rowS]) (fun i v hv => by rw [hd]; exact rowS_dv h4 i v hv) h1 (fun _ => by rw [hd]; trivial)
    exact ⟨gs, os, ob1, rfl, Nat.zero_le _, k1, k2⟩
  · obtain ⟨ob1, k1, k2⟩ := winP_obj (P := P) (M := mpP gs os gb ob) (row := rowB N) (by simp [rowB]) (fun i v hv => by rw [hd]; exact rowB_dv h4 i v hv) h2 (fun _ => by rw [hd]; trivial)
    exact ⟨gb, ob, ob1, rfl, Nat.zero_le _, k1, k2⟩

/-! The loop. -/
/-- a draw with which no flow is too great and no scale is short -/
def goodB (nw : Int) (sc bg : Nat → Int) (N : Nat) (d : Int) : Prop := (∀ i, i < N → fullB sc d i = false) ∧ ∀ i, i < N → shortB nw sc bg N d i = false
def otN (n : Int) (k : Nat) : Int := if k = 31 then n else 0
def otD (n d : Int) (k : Nat) : Int := if k = 30 then d else otN n k
theorem den_upd {nw : Int} {sc bg : Nat → Int} {n d : Int} : DSy nw sc bg (otD n d) = updD (DSy nw sc bg (otN n)) (hsN.map fun h => h.2) [d] := by
  unfold DSy DP updD
  congr 1
  funext k
  show holeS nw sc bg (otD n d) k = (if k = 30 then Value.int .i64 d else holeS nw sc bg (otN n) k)
  by_cases hk : k = 30
  · subst hk
    rw [if_pos rfl]
    unfold holeS otD
    rw [if_neg (by decide), if_neg (by decide), if_neg (by decide), if_pos rfl]
  · rw [if_neg hk]
    unfold holeS otD
    simp only [hk, if_false]
attribute [local irreducible] headN
theorem gn_loop {nw : Int} {sc bg : Nat → Int} {N n : Nat} (h : SysOk nw sc bg N) (hN : 1 ≤ N ∧ N ≤ 4) (hbad : ¬ goodB nw sc bg N n) (hl : ∀ d : Nat, d < n → goodB nw sc bg N d) (hn : n ≤ 20001) {l : List Fact} {ok} :
    CodeOkAt (pgS (holeS nw sc bg (otN n)) l ok) (csOne (headN N hN) (leftN N hN) (.exit 0)) (.loop (loopB Tryz.prog 12 7)) := by
  obtain ⟨d1, d2, d3⟩ := gnHeadA hN
  refine ok_csOne rfl rfl d3 (loop_num rfl rfl rfl d1 d2 rfl d3 (gnCleanA hN) (fun t v e => List.all_eq_true.1 (gnKeptA hN) _ (agt_mem e)) (fun xs => ∃ d : Nat, xs = [(d : Int)] ∧ d ≤ n)
    (fun xs => match xs with
      | [x] => n - x.toNat
      | _ => 0) [((0 : Nat) : Int)] ⟨0, rfl, Nat.zero_le _⟩ (fun t u j g e hj => ?_) (fun xs hI => ?_))
  · match j, hj with
    | 0, hj =>
      have hj : some ((9 : Nat), (30 : Nat)) = some (t, g) := hj
      cases hj
      rw [gnInitA hN] at e
      cases e
      exact ⟨0, rfl, .lit 0⟩
    | j + 1, hj => cases hj
  · obtain ⟨d, rfl, hdn⟩ := hI
    have hm : Tryz.prog.follows .mixedOrders = true := by kernel_rfl
    have dx : Dv (DSy nw sc bg (otD n d)) hDr (d : Int) := dOt (by decide)
    have dr : Dv (DSy nw sc bg (otN n)) (hP 31) (n : Int) := dOt (by decide)
    have mk : ∀ (l : List Fact) (okl : ∀ f ∈ l, OkF (DSy nw sc bg (otD n d)) f), ∀ f ∈ factsS N l, OkF (DSy nw sc bg (otD n d)) f := fun l okl => ok_app (okSys h) okl
    have rok : ∀ (l : List Fact) (ok'), CodeOkAt (pgS (holeS nw sc bg (otD n d)) l ok') (evCL hkNone csNone (pgS (holeS nw sc bg (otD n d)) l ok') (evDS (pgS (holeS nw sc bg (otD n d)) l ok') (spP N) 2000 60) 2000) (loopB Tryz.prog 12 7) := fun l ok' =>
      round_any hm (ok_spP (ot := otD n d) h (fun k hk => rfl)) _
    have ends : ∀ (l : List Fact) (okl), ¬ d < n → endsIt (headN N hN) (leftN N hN) hsN (.exit 0) [(9, hDr)] (rnd (holeS nw sc bg (otD n d)) N hN l (mk l okl)) = true → ∃ (P' : Pg) (rec : CodeF), P'.prog = Tryz.prog ∧ P'.den = updD (DSy nw sc bg (otN n)) (hsN.map fun h => h.2) [(d : Int)] ∧ CodeOkAt P' rec (loopB Tryz.prog 12 7) ∧
        ((∃ posts ys, goesOn (headN N hN) (leftN N hN) hsN posts (rec (loopB Tryz.prog 12 7) { headN N hN with tm := setHoles hsN (headN N hN).tm }) = true ∧ (∃ d : Nat, ys = [(d : Int)] ∧ d ≤ n) ∧ (match ys with
          | [x] => n - x.toNat
          | _ => 0) < n - (d : Int).toNat ∧ ∀ (j t h : Nat), hsN[j]? = some (t, h) → ∃ u y, (t, u) ∈ posts ∧ ys[j]? = some y ∧ Dv P'.den u y) ∨
         (∃ outs, endsIt (headN N hN) (leftN N hN) hsN (.exit 0) outs (rec (loopB Tryz.prog 12 7) { headN N hN with tm := setHoles hsN (headN N hN).tm }) = true ∧ ∀ t u, (t, u) ∈ outs → ∀ v, agt (leftN N hN).tm t = some v → ∃ z, Dv P'.den u z ∧ Dv (DSy nw sc bg (otN n)) v z)) := fun l okl hge hr => by
      refine ⟨pgS (holeS nw sc bg (otD n d)) (factsS N l) (mk l okl), _, rfl, den_upd, rok _ _, .inr ⟨[(9, hDr)], hr, fun t u hm v e => ?_⟩⟩
      simp only [List.mem_cons, List.not_mem_nil, or_false, Prod.mk.injEq] at hm
      obtain ⟨rfl, rfl⟩ := hm
      have e : some (hP 31) = some v := e
      cases e
      have : d = n := by omega
      subst this
      exact ⟨_, dx, dr⟩
    rcases ways nw sc bg N (d : Int) with ⟨g1, g2⟩ | ⟨i, g1, g2, g3⟩ | ⟨i, g1, g2, g3, g4⟩
    · have hlt : d < n := by
        rcases Nat.lt_or_ge d n with h | h
        · exact h
        · have : d = n := by omega
          subst this
          exact absurd ⟨g1, g2⟩ hbad
      refine ⟨pgS (holeS nw sc bg (otD n d)) (factsS N (goodF N hDr)) (mk _ (okGood h.n4 dx g1 g2)), _, rfl, den_upd, rok _ _, .inl ⟨[(9, b1 1 hDr (iP 1))], [((d + 1 : Nat) : Int)], gnGoA _ hN _, ⟨d + 1, rfl, hlt⟩, ?_, fun j t g hj => ?_⟩⟩
      · show n - ((d + 1 : Nat) : Int).toNat < n - (d : Int).toNat
        omega
      · match j, hj with
        | 0, hj =>
          have hj : some ((9 : Nat), (30 : Nat)) = some (t, g) := hj
          cases hj
          refine ⟨_, _, List.mem_cons_self, rfl, ?_⟩
          have : Dv (DSy nw sc bg (otD n d)) (b1 1 hDr (iP 1)) (binN 1 d 1) := .bin (t := 1) (by decide) dx (.lit 1)
          rwa [show binN 1 (d : Int) 1 = ((d + 1 : Nat) : Int) from by show IntKind.i64.wrap ((d : Int) + 1) = _; rw [IntWalk.i64_in _ (by omega)]; omega] at this
        | j + 1, hj => cases hj
    · refine ends (fullAt hDr i) (okFullAt h.n4 dx g1 g2 g3) (fun hlt => ?_) (gnFullA _ hN g1 _)
      have := (hl d hlt).1 i g1
      rw [g2] at this; cases this
    · refine ends (shortAt N hDr i) (okShortAt h.n4 dx g1 g2 g3 g4) (fun hlt => ?_) (gnShortA _ hN g1 _)
      have := (hl d hlt).2 i g1
      rw [g3] at this; cases this
theorem gn_any {nw : Int} {sc bg : Nat → Int} {N n gs os cap gb ob cb : Nat} {w : World} (h : SysOk nw sc bg N) (hbad : ¬ goodB nw sc bg N n) (hl : ∀ d : Nat, d < n → goodB nw sc bg N d) (hn : n ≤ 20001) (hw : WinP gs os (4 * N) sc w) (hwb : WinP gb ob (2 * N) bg w) :
    Calls Tryz.prog 12 #[.agg #[.slice (some ⟨gs, os, none⟩) N cap, .int .i64 nw], .slice (some ⟨gb, ob, none⟩) N cb] w fun e w' => e = .returned (.tuple #[.int .i64 (if n = 0 then 0 else (n : Int) - 1), .int .i64 (if n = 0 then 12 else 0)]) ∧ Below w.heap.size w w' := by
  have hN : 1 ≤ N ∧ N ≤ 4 := ⟨h.n1, h.n4⟩
  have hm : Tryz.prog.follows .mixedOrders = true := by kernel_rfl
  have dr : Dv (DSy nw sc bg (otN n)) (hP 31) (n : Int) := dOt (by decide)
  have run : ∀ {l : List Fact} {ok} {v : Value}, fstO (fnRun (pgS (holeS nw sc bg (otN n)) l ok) (isLoop 7) (csOne (headN N hN) (leftN N hN) (.exit 0)) (evDS (pgS (holeS nw sc bg (otN n)) l ok) (spP N) 2000 60) 2000 12 [sysW N, begW N] (hpS N) 2) = some v →
      Calls Tryz.prog 12 #[.agg #[.slice (some ⟨gs, os, none⟩) N cap, .int .i64 nw], .slice (some ⟨gb, ob, none⟩) N cb] w fun e w' => ∃ M' v', e = .returned v' ∧ VRel (pgS (holeS nw sc bg (otN n)) l ok) M' v v' ∧ Below w.heap.size w w' := fun {l ok v} hrun =>
    run_roL (P := pgS (holeS nw sc bg (otN n)) l ok) rfl hm (ok_spP h (fun _ _ => rfl)) gnOne (gn_loop h hN hbad hl hn) hrun
      (LRel.cons (LRel.agg (LRel.cons (.osl rfl (.lit (N : Int))) (LRel.cons (Dv.vrel (P := pgS (holeS nw sc bg (otN n)) l ok) dNew) (LRel.nil _)))) (LRel.cons (.osl rfl (.lit (N : Int))) (LRel.nil _)))
      (hpS_rel rfl h.n4 hw hwb) (fun id => hpS_ro id) (fun id hid => by unfold mpP; rw [if_neg (by omega), if_neg (by omega)])
  by_cases h0 : n = 0
  · rw [if_pos h0, if_pos h0]
    refine Calls.mono (run (gnRunA_true _ hN (ok_app (okSys h) (ok_one (eq_yes dr (.lit 0) (by omega)))))) ?_
    rintro e w' ⟨M', v', rfl, hvr, hb⟩
    refine ⟨?_, hb⟩
    cases hvr with
    | tup hs h1 =>
      have := LRel.eq (lrel_arr.2 ⟨hs, h1⟩) (fun v hv v' hr => by
        simp only [List.mem_cons, List.not_mem_nil, or_false] at hv
        rcases hv with rfl | rfl <;> (cases hr; rfl))
      rw [Array.toList_inj.1 this]
      rfl
  · rw [if_neg h0, if_neg h0]
    refine Calls.mono (run (gnRunA_false _ hN (ok_app (okSys h) (ok_one (eq_no dr (.lit 0) (by omega)))))) ?_
    rintro e w' ⟨M', v', rfl, hvr, hb⟩
    refine ⟨?_, hb⟩
    cases hvr with
    | @tup _ b' hsz hel =>
    have hL := lrel_arr.2 ⟨hsz, hel⟩
    obtain ⟨u0, p0, r0⟩ := hL.get (i := 0) rfl
    obtain ⟨u1, p1, r1⟩ := hL.get (i := 1) rfl
    have hb2 : b' = #[u0, u1] := by
      apply Array.ext'
      have h3 : b'.toList.length = 2 := by rw [← hL.1]; rfl
      match he : b'.toList, h3 with
      | [z0, z1], _ => rw [he] at p0 p1; simp at p0 p1; rw [p0, p1]
    subst hb2
    cases r1
    have d0 : Dv (DSy nw sc bg (otN n)) (b1 2 (hP 31) (iP 1)) (binN 2 n 1) := .bin (t := 2) (by decide) dr (.lit 1)
    rw [show binN 2 (n : Int) 1 = (n : Int) - 1 from IntWalk.i64_in _ (by omega)] at d0
    obtain ⟨x, rfl, k1⟩ := vrel_num r0 d0.num
    rw [← d0.unique _ k1]
end Sy
end Go.Proofs.YtdejmleboflopaaGreat
