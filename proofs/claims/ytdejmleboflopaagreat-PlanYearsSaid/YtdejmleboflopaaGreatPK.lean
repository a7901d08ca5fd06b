/- The reference's GreatestNow of a right system: the contract. -/
import Derived.Test.YtdejmleboflopaaGreatPJ
set_option linter.unusedVariables false
set_option linter.unusedSimpArgs false
namespace Go.Proofs.YtdejmleboflopaaGreat
open Go.RowKit
namespace Sy
open Go.RowKit

theorem bflZ_any (n d : Int) (w : World) (hd : 0 < d) : Calls Tryz.prog 75 #[.int .i64 n, .int .i64 d] w fun e w' => e = .returned (.int .i64 (flZ n d)) ∧ w = w' := by
  have hb0 : d ≠ 0 := by omega
  have hb1 : (d == 0) = false := by simpa using hb0
  by_cases h : n.tmod d < 0
  · go_enter Tryz.func75, Tryz.ntmps75
    go_wp2
    go_ret
    refine ⟨?_, rfl⟩
    rw [flZ, if_pos h]
    rfl
  · go_enter Tryz.func75, Tryz.ntmps75
    go_wp2
    go_ret
    refine ⟨?_, rfl⟩
    rw [flZ, if_neg (by omega)]
    rfl
theorem bceZ_any (n d : Int) (w : World) (hd : 0 < d) : Calls Tryz.prog 76 #[.int .i64 n, .int .i64 d] w fun e w' => e = .returned (.int .i64 (ceZ n d)) ∧ w = w' := by
  obtain ⟨m, hm⟩ : ∃ m, IntKind.i64.wrap (-n) = m := ⟨_, rfl⟩
  go_enter Tryz.func76, Tryz.ntmps76
  go_wp2_with (go_at_call 75; refine Calls.mono (bflZ_any _ _ _ hd) ?_; rintro e w2 ⟨rfl, rfl⟩)
  go_ret
  refine ⟨?_, rfl⟩
  rw [ceZ, hm]
  rfl
theorem ok_spR {nw : Int} {sc bg ot : Nat → Int} {hole : Nat → Value} {N : Nat} (h : SysOk nw sc bg N) (hh : ∀ n, n < 25 → hole n = holeS nw sc bg ot n) {l ok} : CallOk (pgS hole l ok) (spR N) := by
  have hv : ∀ d ∈ volsP N, ∃ z, Dv (DP hole) d z ∧ 0 < z := fun d hd => by
    obtain ⟨i, hi, rfl⟩ := List.mem_map.1 hd
    have hi := List.mem_range.1 hi
    have n4 := h.n4
    refine ⟨sc (4 * i + 0), .hole ?_, by have := h.v0 i hi; omega⟩
    show hole _ = _
    rw [hh _ (by omega)]
    have d : Dv (DSy nw sc bg ot) (hSc i 0) (sc (4 * i + 0)) := dSc (by omega) (by decide)
    cases d with
    | hole e => exact e
  exact ok_spOr (ok_spP h hh) (ok_spOr (ok_spDivs (g := flZ) rfl (by decide) (fun _ _ => rfl) hv (fun n d w hd => still_callP (bflZ_any n d w hd))) (ok_spDivs (g := ceZ) rfl (by decide) (fun _ _ => rfl) hv (fun n d w hd => still_callP (bceZ_any n d w hd))))
section
variable (hole : Nat → Value) {N i : Nat} (h : 1 ≤ N ∧ N ≤ 4)
noncomputable abbrev rndQ (hole : Nat → Value) (N : Nat) (h : 1 ≤ N ∧ N ≤ 4) (l : List Fact) (ok : ∀ f ∈ factsS N l, ∃ x y, Dv (DP hole) f.2.1 x ∧ Dv (DP hole) f.2.2.1 y ∧ cmpN f.1 x y = f.2.2.2) : Option (AX × St) := evCL hkNone csNone (pgS hole (factsS N l) ok) (evDS (pgS hole (factsS N l) ok) (spR N) 2000 60) 2000 (loopB Tryz.prog 15 3) (rndR N h)
theorem rgGoA (ok) : goesOn (headR N h) (leftR N h) hsR [(5, hDn)] (rndQ hole N h (goodF N hDn) ok) = true := by
  obtain rfl | rfl | rfl | rfl : N = 1 ∨ N = 2 ∨ N = 3 ∨ N = 4 := by omega
  · exact rgGo1 hole ok
  · exact rgGo2 hole ok
  · exact rgGo3 hole ok
  · exact rgGo4 hole ok
theorem rgFullA (hi : i < N) (ok) : endsIt (headR N h) (leftR N h) hsR (.exit 0) [(5, hDr)] (rndQ hole N h (fullAt hDn i) ok) = true := by
  obtain rfl | rfl | rfl | rfl : N = 1 ∨ N = 2 ∨ N = 3 ∨ N = 4 := by omega
  · obtain rfl : i = 0 := by omega
    · exact rgFull1_0 hole ok
  · obtain rfl | rfl : i = 0 ∨ i = 1 := by omega
    · exact rgFull2_0 hole ok
    · exact rgFull2_1 hole ok
  · obtain rfl | rfl | rfl : i = 0 ∨ i = 1 ∨ i = 2 := by omega
    · exact rgFull3_0 hole ok
    · exact rgFull3_1 hole ok
    · exact rgFull3_2 hole ok
  · obtain rfl | rfl | rfl | rfl : i = 0 ∨ i = 1 ∨ i = 2 ∨ i = 3 := by omega
    · exact rgFull4_0 hole ok
    · exact rgFull4_1 hole ok
    · exact rgFull4_2 hole ok
    · exact rgFull4_3 hole ok
theorem rgShortA (hi : i < N) (ok) : endsIt (headR N h) (leftR N h) hsR (.exit 0) [(5, hDr)] (rndQ hole N h (shortAt N hDn i) ok) = true := by
  obtain rfl | rfl | rfl | rfl : N = 1 ∨ N = 2 ∨ N = 3 ∨ N = 4 := by omega
  · obtain rfl : i = 0 := by omega
    · exact rgShort1_0 hole ok
  · obtain rfl | rfl : i = 0 ∨ i = 1 := by omega
    · exact rgShort2_0 hole ok
    · exact rgShort2_1 hole ok
  · obtain rfl | rfl | rfl : i = 0 ∨ i = 1 ∨ i = 2 := by omega
    · exact rgShort3_0 hole ok
    · exact rgShort3_1 hole ok
    · exact rgShort3_2 hole ok
  · obtain rfl | rfl | rfl | rfl : i = 0 ∨ i = 1 ∨ i = 2 ∨ i = 3 := by omega
    · exact rgShort4_0 hole ok
    · exact rgShort4_1 hole ok
    · exact rgShort4_2 hole ok
    · exact rgShort4_3 hole ok
theorem rgRunA (ok) : fstO (fnRun (pgS hole (sysF N) ok) (isLoop 3) (csOne (headR N h) (leftR N h) (.exit 0)) (evDS (pgS hole (sysF N) ok) (spR N) 2000 60) 2000 15 [sysW N, begW N] (hpS N) 2) = some (hP 31) := by
  obtain rfl | rfl | rfl | rfl : N = 1 ∨ N = 2 ∨ N = 3 ∨ N = 4 := by omega
  · exact rgRun1 hole ok
  · exact rgRun2 hole ok
  · exact rgRun3 hole ok
  · exact rgRun4 hole ok
theorem rgHeadA : (leftR N h).df = [] ∧ (headR N h).df = [] ∧ (headR N h).nid ≤ (leftR N h).nid := by
  obtain rfl | rfl | rfl | rfl : N = 1 ∨ N = 2 ∨ N = 3 ∨ N = 4 := by omega
  · exact rgHead1
  · exact rgHead2
  · exact rgHead3
  · exact rgHead4
theorem rgCleanA : cleanS (headR N h) hsR := by
  obtain rfl | rfl | rfl | rfl : N = 1 ∨ N = 2 ∨ N = 3 ∨ N = 4 := by omega
  · exact rgClean1
  · exact rgClean2
  · exact rgClean3
  · exact rgClean4
theorem rgInitA : agt (headR N h).tm 5 = some (iP (-1)) := by
  obtain rfl | rfl | rfl | rfl : N = 1 ∨ N = 2 ∨ N = 3 ∨ N = 4 := by omega
  · exact rgInit1
  · exact rgInit2
  · exact rgInit3
  · exact rgInit4
theorem rgKeptA : ((leftR N h).tm.all fun x => kept (headR N h).kp x.1) = true := by
  obtain rfl | rfl | rfl | rfl : N = 1 ∨ N = 2 ∨ N = 3 ∨ N = 4 := by omega
  · exact rgKept1
  · exact rgKept2
  · exact rgKept3
  · exact rgKept4
end
theorem den_updR {nw : Int} {sc bg : Nat → Int} {n d : Int} : DSy nw sc bg (otD n d) = updD (DSy nw sc bg (otN n)) (hsR.map fun h => h.2) [d] := den_upd
attribute [local irreducible] headR
theorem rg_loop {nw : Int} {sc bg : Nat → Int} {N n : Nat} (h : SysOk nw sc bg N) (hN : 1 ≤ N ∧ N ≤ 4) (hbad : ¬ goodB nw sc bg N n) (hl : ∀ d : Nat, d < n → goodB nw sc bg N d) (hn : n ≤ 20001) {l : List Fact} {ok} :
    CodeOkAt (pgS (holeS nw sc bg (otN ((n : Int) - 1))) l ok) (csOne (headR N hN) (leftR N hN) (.exit 0)) (.loop (loopB Tryz.prog 15 3)) := by
  obtain ⟨d1, d2, d3⟩ := rgHeadA hN
  refine ok_csOne rfl rfl d3 (loop_num rfl rfl rfl d1 d2 rfl d3 (rgCleanA hN) (fun t v e => List.all_eq_true.1 (rgKeptA hN) _ (agt_mem e)) (fun xs => ∃ d : Nat, xs = [(d : Int) - 1] ∧ d ≤ n)
    (fun xs => match xs with
      | [x] => n - (x + 1).toNat
      | _ => 0) [((0 : Nat) : Int) - 1] ⟨0, rfl, Nat.zero_le _⟩ (fun t u j g e hj => ?_) (fun xs hI => ?_))
  · match j, hj with
    | 0, hj =>
      have hj : some ((5 : Nat), (30 : Nat)) = some (t, g) := hj
      cases hj
      rw [rgInitA hN] at e
      cases e
      exact ⟨-1, rfl, .lit (-1)⟩
    | j + 1, hj => cases hj
  · obtain ⟨d, rfl, hdn⟩ := hI
    have hm : Tryz.prog.follows .mixedOrders = true := by kernel_rfl
    have dr0 : Dv (DSy nw sc bg (otD ((n : Int) - 1) ((d : Int) - 1))) hDr ((d : Int) - 1) := dOt (by decide)
    have dx : Dv (DSy nw sc bg (otD ((n : Int) - 1) ((d : Int) - 1))) hDn (d : Int) := by
      have : Dv (DSy nw sc bg (otD ((n : Int) - 1) ((d : Int) - 1))) hDn (binN 1 ((d : Int) - 1) 1) := .bin (t := 1) (by decide) dr0 (.lit 1)
      rwa [show binN 1 ((d : Int) - 1) 1 = (d : Int) from by show IntKind.i64.wrap ((d : Int) - 1 + 1) = _; rw [Int.sub_add_cancel]; exact IntWalk.i64_in _ (by omega)] at this
    have dr : Dv (DSy nw sc bg (otN ((n : Int) - 1))) (hP 31) ((n : Int) - 1) := dOt (by decide)
    have mk : ∀ (l : List Fact) (okl : ∀ f ∈ l, OkF (DSy nw sc bg (otD ((n : Int) - 1) ((d : Int) - 1))) f), ∀ f ∈ factsS N l, OkF (DSy nw sc bg (otD ((n : Int) - 1) ((d : Int) - 1))) f := fun l okl => ok_app (okSys h) okl
    have rok : ∀ (l : List Fact) (ok'), CodeOkAt (pgS (holeS nw sc bg (otD ((n : Int) - 1) ((d : Int) - 1))) l ok') (evCL hkNone csNone (pgS (holeS nw sc bg (otD ((n : Int) - 1) ((d : Int) - 1))) l ok') (evDS (pgS (holeS nw sc bg (otD ((n : Int) - 1) ((d : Int) - 1))) l ok') (spR N) 2000 60) 2000) (loopB Tryz.prog 15 3) := fun l ok' =>
      round_any hm (ok_spR (ot := otD ((n : Int) - 1) ((d : Int) - 1)) h (fun k hk => rfl)) _
    have ends : ∀ (l : List Fact) (okl), ¬ d < n → endsIt (headR N hN) (leftR N hN) hsR (.exit 0) [(5, hDr)] (rndQ (holeS nw sc bg (otD ((n : Int) - 1) ((d : Int) - 1))) N hN l (mk l okl)) = true → ∃ (P' : Pg) (rec : CodeF), P'.prog = Tryz.prog ∧ P'.den = updD (DSy nw sc bg (otN ((n : Int) - 1))) (hsR.map fun h => h.2) [(d : Int) - 1] ∧ CodeOkAt P' rec (loopB Tryz.prog 15 3) ∧
        ((∃ posts ys, goesOn (headR N hN) (leftR N hN) hsR posts (rec (loopB Tryz.prog 15 3) { headR N hN with tm := setHoles hsR (headR N hN).tm }) = true ∧ (∃ d : Nat, ys = [(d : Int) - 1] ∧ d ≤ n) ∧ (match ys with
          | [x] => n - (x + 1).toNat
          | _ => 0) < n - ((d : Int) - 1 + 1).toNat ∧ ∀ (j t h : Nat), hsR[j]? = some (t, h) → ∃ u y, (t, u) ∈ posts ∧ ys[j]? = some y ∧ Dv P'.den u y) ∨
         (∃ outs, endsIt (headR N hN) (leftR N hN) hsR (.exit 0) outs (rec (loopB Tryz.prog 15 3) { headR N hN with tm := setHoles hsR (headR N hN).tm }) = true ∧ ∀ t u, (t, u) ∈ outs → ∀ v, agt (leftR N hN).tm t = some v → ∃ z, Dv P'.den u z ∧ Dv (DSy nw sc bg (otN ((n : Int) - 1))) v z)) := fun l okl hge hr => by
      refine ⟨pgS (holeS nw sc bg (otD ((n : Int) - 1) ((d : Int) - 1))) (factsS N l) (mk l okl), _, rfl, den_updR, rok _ _, .inr ⟨[(5, hDr)], hr, fun t u hm v e => ?_⟩⟩
      simp only [List.mem_cons, List.not_mem_nil, or_false, Prod.mk.injEq] at hm
      obtain ⟨rfl, rfl⟩ := hm
      have e : some (hP 31) = some v := e
      cases e
      have : d = n := by omega
      subst this
      exact ⟨_, dr0, dr⟩
    rcases ways nw sc bg N (d : Int) with ⟨g1, g2⟩ | ⟨i, g1, g2, g3⟩ | ⟨i, g1, g2, g3, g4⟩
    · have hlt : d < n := by
        rcases Nat.lt_or_ge d n with h | h
        · exact h
        · have : d = n := by omega
          subst this
          exact absurd ⟨g1, g2⟩ hbad
      refine ⟨pgS (holeS nw sc bg (otD ((n : Int) - 1) ((d : Int) - 1))) (factsS N (goodF N hDn)) (mk _ (okGood h.n4 dx g1 g2)), _, rfl, den_updR, rok _ _, .inl ⟨[(5, hDn)], [((d + 1 : Nat) : Int) - 1], rgGoA _ hN _, ⟨d + 1, rfl, hlt⟩, ?_, fun j t g hj => ?_⟩⟩
      · show n - (((d + 1 : Nat) : Int) - 1 + 1).toNat < n - ((d : Int) - 1 + 1).toNat
        omega
      · match j, hj with
        | 0, hj =>
          have hj : some ((5 : Nat), (30 : Nat)) = some (t, g) := hj
          cases hj
          refine ⟨_, _, List.mem_cons_self, rfl, ?_⟩
          rwa [show ((d + 1 : Nat) : Int) - 1 = (d : Int) by omega]
        | j + 1, hj => cases hj
    · refine ends (fullAt hDn i) (okFullAt h.n4 dx g1 g2 g3) (fun hlt => ?_) (rgFullA _ hN g1 _)
      have := (hl d hlt).1 i g1
      rw [g2] at this; cases this
    · refine ends (shortAt N hDn i) (okShortAt h.n4 dx g1 g2 g3 g4) (fun hlt => ?_) (rgShortA _ hN g1 _)
      have := (hl d hlt).2 i g1
      rw [g3] at this; cases this
theorem rg_any {nw : Int} {sc bg : Nat → Int} {N n gs os cap gb ob cb : Nat} {w : World} (h : SysOk nw sc bg N) (hbad : ¬ goodB nw sc bg N n) (hl : ∀ d : Nat, d < n → goodB nw sc bg N d) (hn : n ≤ 20001) (hw : WinP gs os (4 * N) sc w) (hwb : WinP gb ob (2 * N) bg w) :
    Calls Tryz.prog 15 #[.agg #[.slice (some ⟨gs, os, none⟩) N cap, .int .i64 nw], .slice (some ⟨gb, ob, none⟩) N cb] w fun e w' => e = .returned (.int .i64 ((n : Int) - 1)) ∧ Below w.heap.size w w' := by
  have hN : 1 ≤ N ∧ N ≤ 4 := ⟨h.n1, h.n4⟩
  have hm : Tryz.prog.follows .mixedOrders = true := by kernel_rfl
  have dr : Dv (DSy nw sc bg (otN ((n : Int) - 1))) (hP 31) ((n : Int) - 1) := dOt (by decide)
  refine Calls.mono (run_roL (P := pgS (holeS nw sc bg (otN ((n : Int) - 1))) (sysF N) (okSys h)) (M := mpP gs os gb ob) rfl hm (ok_spR (ot := otN ((n : Int) - 1)) h (fun _ _ => rfl)) rgOne (rg_loop h hN hbad hl hn) (rgRunA _ hN _)
      (args' := #[.agg #[.slice (some ⟨gs, os, none⟩) N cap, .int .i64 nw], .slice (some ⟨gb, ob, none⟩) N cb])
      (LRel.cons (LRel.agg (LRel.cons (.osl rfl (.lit (N : Int))) (LRel.cons (Dv.vrel (P := pgS (holeS nw sc bg (otN ((n : Int) - 1))) (sysF N) (okSys h)) dNew) (LRel.nil _)))) (LRel.cons (.osl rfl (.lit (N : Int))) (LRel.nil _)))
      (hpS_rel rfl h.n4 hw hwb) (fun id => hpS_ro id) (fun id hid => by unfold mpP; rw [if_neg (by omega), if_neg (by omega)])) ?_
  rintro e w' ⟨M', v', rfl, hvr, hb⟩
  obtain ⟨x, rfl, k1⟩ := vrel_num hvr dr.num
  rw [← dr.unique _ k1]
  exact ⟨rfl, hb⟩
end Sy
end Go.Proofs.YtdejmleboflopaaGreat
