/- What is wrong with ages: the program and the reference say the same. -/
import Derived.Test.YtdejmleboflopaaGreatPM
import Derived.Test.YtdejmleboflopaaGreatPQ
set_option linter.unusedVariables false
set_option linter.unusedSimpArgs false
namespace Go.Proofs.YtdejmleboflopaaGreat
open Go.RowKit
namespace Sy
open Go.RowKit

section
variable (hole : Nat → Value) {N i k : Nat} (hN : 1 ≤ N ∧ N ≤ 4)
include hN
theorem ae_len (ok) : fstO (evDS (pgS hole (gLen N) ok) spCk 2000 60 (.fn 34) ([sysW N, begH]) (hpE N) 1) = some (iP 10) := by
  obtain rfl | rfl | rfl | rfl : N = 1 ∨ N = 2 ∨ N = 3 ∨ N = 4 := by omega
  · exact aeLen1 hole ok
  · exact aeLen2 hole ok
  · exact aeLen3 hole ok
  · exact aeLen4 hole ok
theorem re_len (ok) : fstO (evDS (pgS hole (gLen N) ok) spNone 2000 60 (.fn 14) ([sysW N, begH]) (hpE N) 1) = some (iP 10) := by
  obtain rfl | rfl | rfl | rfl : N = 1 ∨ N = 2 ∨ N = 3 ∨ N = 4 := by omega
  · exact reLen1 hole ok
  · exact reLen2 hole ok
  · exact reLen3 hole ok
  · exact reLen4 hole ok
theorem ae_good (ok) : fstO (evDS (pgS hole (agE N) ok) spCk 2000 60 (.fn 34) ([sysW N, begW N]) (hpS N) 2) = some (iP 0) := by
  obtain rfl | rfl | rfl | rfl : N = 1 ∨ N = 2 ∨ N = 3 ∨ N = 4 := by omega
  · exact aeOk1 hole ok
  · exact aeOk2 hole ok
  · exact aeOk3 hole ok
  · exact aeOk4 hole ok
theorem re_good (ok) : fstO (evDS (pgS hole (agP N) ok) spNone 2000 60 (.fn 14) ([sysW N, begW N]) (hpS N) 2) = some (iP 0) := by
  obtain rfl | rfl | rfl | rfl : N = 1 ∨ N = 2 ∨ N = 3 ∨ N = 4 := by omega
  · exact reOk1 hole ok
  · exact reOk2 hole ok
  · exact reOk3 hole ok
  · exact reOk4 hole ok
theorem ae_bad (hi : i < N) (ok) : fstO (evDS (pgS hole (eE [] (agE N) i) ok) spCk 2000 60 (.fn 34) ([sysW N, begW N]) (hpS N) 2) = some (bgT i) := by
  obtain rfl | rfl | rfl | rfl : N = 1 ∨ N = 2 ∨ N = 3 ∨ N = 4 := by omega
  · obtain rfl : i = 0 := by omega
    · exact ae1_0 hole ok
  · obtain rfl | rfl : i = 0 ∨ i = 1 := by omega
    · exact ae2_0 hole ok
    · exact ae2_1 hole ok
  · obtain rfl | rfl | rfl : i = 0 ∨ i = 1 ∨ i = 2 := by omega
    · exact ae3_0 hole ok
    · exact ae3_1 hole ok
    · exact ae3_2 hole ok
  · obtain rfl | rfl | rfl | rfl : i = 0 ∨ i = 1 ∨ i = 2 ∨ i = 3 := by omega
    · exact ae4_0 hole ok
    · exact ae4_1 hole ok
    · exact ae4_2 hole ok
    · exact ae4_3 hole ok
theorem re_bad (hi : i < N) (hk : k < 5) (ok) : fstO (evDS (pgS hole (eE (agP i) (bgG i) k) ok) spNone 2000 60 (.fn 14) ([sysW N, begW N]) (hpS N) 2) = some (iP (agC k)) := by
  obtain rfl | rfl | rfl | rfl : N = 1 ∨ N = 2 ∨ N = 3 ∨ N = 4 := by omega
  · obtain rfl : i = 0 := by omega
    · obtain rfl | rfl | rfl | rfl | rfl : k = 0 ∨ k = 1 ∨ k = 2 ∨ k = 3 ∨ k = 4 := by omega
      · exact re1_0_0 hole ok
      · exact re1_0_1 hole ok
      · exact re1_0_2 hole ok
      · exact re1_0_3 hole ok
      · exact re1_0_4 hole ok
  · obtain rfl | rfl : i = 0 ∨ i = 1 := by omega
    · obtain rfl | rfl | rfl | rfl | rfl : k = 0 ∨ k = 1 ∨ k = 2 ∨ k = 3 ∨ k = 4 := by omega
      · exact re2_0_0 hole ok
      · exact re2_0_1 hole ok
      · exact re2_0_2 hole ok
      · exact re2_0_3 hole ok
      · exact re2_0_4 hole ok
    · obtain rfl | rfl | rfl | rfl | rfl : k = 0 ∨ k = 1 ∨ k = 2 ∨ k = 3 ∨ k = 4 := by omega
      · exact re2_1_0 hole ok
      · exact re2_1_1 hole ok
      · exact re2_1_2 hole ok
      · exact re2_1_3 hole ok
      · exact re2_1_4 hole ok
  · obtain rfl | rfl | rfl : i = 0 ∨ i = 1 ∨ i = 2 := by omega
    · obtain rfl | rfl | rfl | rfl | rfl : k = 0 ∨ k = 1 ∨ k = 2 ∨ k = 3 ∨ k = 4 := by omega
      · exact re3_0_0 hole ok
      · exact re3_0_1 hole ok
      · exact re3_0_2 hole ok
      · exact re3_0_3 hole ok
      · exact re3_0_4 hole ok
    · obtain rfl | rfl | rfl | rfl | rfl : k = 0 ∨ k = 1 ∨ k = 2 ∨ k = 3 ∨ k = 4 := by omega
      · exact re3_1_0 hole ok
      · exact re3_1_1 hole ok
      · exact re3_1_2 hole ok
      · exact re3_1_3 hole ok
      · exact re3_1_4 hole ok
    · obtain rfl | rfl | rfl | rfl | rfl : k = 0 ∨ k = 1 ∨ k = 2 ∨ k = 3 ∨ k = 4 := by omega
      · exact re3_2_0 hole ok
      · exact re3_2_1 hole ok
      · exact re3_2_2 hole ok
      · exact re3_2_3 hole ok
      · exact re3_2_4 hole ok
  · obtain rfl | rfl | rfl | rfl : i = 0 ∨ i = 1 ∨ i = 2 ∨ i = 3 := by omega
    · obtain rfl | rfl | rfl | rfl | rfl : k = 0 ∨ k = 1 ∨ k = 2 ∨ k = 3 ∨ k = 4 := by omega
      · exact re4_0_0 hole ok
      · exact re4_0_1 hole ok
      · exact re4_0_2 hole ok
      · exact re4_0_3 hole ok
      · exact re4_0_4 hole ok
    · obtain rfl | rfl | rfl | rfl | rfl : k = 0 ∨ k = 1 ∨ k = 2 ∨ k = 3 ∨ k = 4 := by omega
      · exact re4_1_0 hole ok
      · exact re4_1_1 hole ok
      · exact re4_1_2 hole ok
      · exact re4_1_3 hole ok
      · exact re4_1_4 hole ok
    · obtain rfl | rfl | rfl | rfl | rfl : k = 0 ∨ k = 1 ∨ k = 2 ∨ k = 3 ∨ k = 4 := by omega
      · exact re4_2_0 hole ok
      · exact re4_2_1 hole ok
      · exact re4_2_2 hole ok
      · exact re4_2_3 hole ok
      · exact re4_2_4 hole ok
    · obtain rfl | rfl | rfl | rfl | rfl : k = 0 ∨ k = 1 ∨ k = 2 ∨ k = 3 ∨ k = 4 := by omega
      · exact re4_3_0 hole ok
      · exact re4_3_1 hole ok
      · exact re4_3_2 hole ok
      · exact re4_3_3 hole ok
      · exact re4_3_4 hole ok
end
def bgV (bg : Nat → Int) (i : Nat) : Int := rangeE (bg (2 * i + 0)) (bg (2 * i + 1)) 100000
theorem bg_zero {bg : Nat → Int} {i : Nat} (h : bgV bg i = 0) : 0 ≤ bg (2 * i + 0) ∧ bg (2 * i + 0) ≤ 100000 ∧ 0 ≤ bg (2 * i + 1) ∧ bg (2 * i + 1) ≤ 100000 ∧ bg (2 * i + 0) ≤ bg (2 * i + 1) := by
  rw [bgV, rangeE_if] at h
  revert h
  repeat' split
  all_goals (intro hz; first | omega | exact absurd hz (by decide))
/-- ages are right -/
structure AgR (bg : Nat → Int) (N : Nat) : Prop where
  a0 : ∀ i, i < N → 0 ≤ bg (2 * i + 0)
  a1 : ∀ i, i < N → bg (2 * i + 0) ≤ 100000
  b0 : ∀ i, i < N → 0 ≤ bg (2 * i + 1)
  b1 : ∀ i, i < N → bg (2 * i + 1) ≤ 100000
  ab : ∀ i, i < N → bg (2 * i + 0) ≤ bg (2 * i + 1)
abbrev holeA (nw : Int) (sc bg : Nat → Int) : Nat → Value := holeS nw sc bg (fun _ => 0)
theorem dBgT {nw : Int} {sc bg : Nat → Int} {i : Nat} (h : i < 4) : Dv (DP (holeA nw sc bg)) (bgT i) (bgV bg i) :=
  app3P (D := DP (holeA nw sc bg)) (t := 113) (by decide) (dBg h (by decide)) (dBg h (by decide)) (.lit 100000)
theorem num_of {P : Pg} {prog : Program} {f : Nat} {args' : Array Value} {w : World} {y : Int} {t : Value} (ht : Dv P.den t y) (h : Calls prog f args' w fun e w' => ∃ M' v', e = .returned v' ∧ VRel P M' t v' ∧ Below w.heap.size w w') : Calls prog f args' w fun e w' => e = .returned (iP y) ∧ Below w.heap.size w w' :=
  Calls.mono h (by
    rintro e w' ⟨M', v', rfl, hv, hb⟩
    obtain ⟨z, rfl, dz⟩ := vrel_num hv ht.num
    rw [ht.unique _ dz]
    exact ⟨rfl, hb⟩)
/-- ages that are not looked into -/
theorem agFar {f : Nat} {nw : Int} {sc : Nat → Int} {sb : Option Addr} {gs os N cap m cb : Nat} {w : World} {v : Value} {args : List Value} {args' : Array Value} (h4 : N ≤ 4) (hw : WinP gs os (4 * N) sc w) (hm : m ≠ N)
    (hargs : ∀ P M, P.den = DP (holeQ (.slice none 0 0) (.slice sb m cb) nw sc (fun _ => 0) (fun k => if k = 43 then (m : Int) else 0)) → M 0 = some (gs, os) → LRel P M args args'.toList) {sp : CallF} (hsp : ∀ hole l ok, CallOk (pgS hole l ok) sp)
    (hrun : ∀ hole ok, fstO (evDS (pgS hole (gLen N) ok) sp 2000 60 (.fn f) args (hpE N) 1) = some v) (ha : flat v = true) : Calls Tryz.prog f args' w fun e w' => e = .returned v ∧ Below w.heap.size w w' := by
  have hl : ∀ f ∈ gLen N, OkF (DP (holeQ (.slice none 0 0) (.slice sb m cb) nw sc (fun _ => 0) (fun k => if k = 43 then (m : Int) else 0))) f := fun f hf => by
    simp only [gLen, List.mem_cons, List.not_mem_nil, or_false] at hf
    subst hf
    exact eq_no (x := (m : Int)) (dQ (n := 43) (by decide) (by decide)) (.lit (N : Int)) (by omega)
  exact lit_of ha (run_ro (P := pgS (holeQ (.slice none 0 0) (.slice sb m cb) nw sc (fun _ => 0) (fun k => if k = 43 then (m : Int) else 0)) (gLen N) hl) (M := fun id => if id = 0 then some (gs, os) else none) rfl (by kernel_rfl) (hsp _ _ _) (hrun _ hl) (hargs _ _ rfl rfl)
    ⟨fun id o e => (by
      obtain ⟨rfl, rfl⟩ := hpE_get id o e
      obtain ⟨ob1, k1, k2⟩ := winP_obj (P := pgS (holeQ (.slice none 0 0) (.slice sb m cb) nw sc (fun _ => 0) (fun k => if k = 43 then (m : Int) else 0)) (gLen N) hl) (M := fun id => if id = 0 then some (gs, os) else none) (row := rowS N) (by simp [rowS]) (fun i u hu => (by
        unfold rowS at hu
        rw [List.getElem?_map] at hu
        by_cases hi : i < 4 * N
        · rw [List.getElem?_range hi] at hu
          cases hu
          have := dQsc (v := .slice none 0 0) (u := .slice sb m cb) (nw := nw) (sc := sc) (bg := fun _ => 0) (ot := fun k => if k = 43 then (m : Int) else 0) (i := i / 4) (j := i % 4) (by omega) (by omega)
          unfold hSc at this
          rwa [show 1 + 4 * (i / 4) + i % 4 = 1 + i by omega, show 4 * (i / 4) + i % 4 = i by omega] at this
        · rw [List.getElem?_eq_none (by simp; omega)] at hu; cases hu)) hw (fun _ => trivial)
      exact ⟨gs, os, ob1, rfl, Nat.zero_le _, k1, k2⟩), fun i j b r r' hi => by rw [hpE_ro i] at hi; cases hi⟩ (fun id => hpE_ro id) (fun id hid => if_neg (by omega)))
/-- as many ages as scales -/
theorem agWin {f : Nat} {nw : Int} {sc bg : Nat → Int} {gs os gb ob N : Nat} {w : World} {l : List Fact} {v : Value} {args : List Value} {args' : Array Value} (h4 : N ≤ 4) (hw : WinP gs os (4 * N) sc w) (hwb : WinP gb ob (2 * N) bg w) (hl : ∀ f ∈ l, OkF (DP (holeA nw sc bg)) f)
    (hargs : ∀ P M, P.den = DP (holeA nw sc bg) → M 0 = some (gs, os) → M 1 = some (gb, ob) → LRel P M args args'.toList) {sp : CallF} (hsp : CallOk (pgS (holeA nw sc bg) l hl) sp)
    (hrun : fstO (evDS (pgS (holeA nw sc bg) l hl) sp 2000 60 (.fn f) args (hpS N) 2) = some v) : RawC (pgS (holeA nw sc bg) l hl) f args' w v :=
  run_ro (P := pgS (holeA nw sc bg) l hl) (M := mpP gs os gb ob) rfl (by kernel_rfl) hsp hrun (hargs _ _ rfl rfl rfl)
    (hpS_rel rfl h4 hw hwb) (fun id => hpS_ro id) (fun id hid => by unfold mpP; rw [if_neg (by omega), if_neg (by omega)])
theorem age_bad {nw : Int} {sc bg : Nat → Int} {i : Nat} (i4 : i < 4) (hp : ∀ f ∈ agP i, OkF (DP (holeA nw sc bg)) f) (hz : bgV bg i ≠ 0) : ∃ j, j < 5 ∧ (∀ f ∈ eE (agP i) (bgG i) j, OkF (DP (holeA nw sc bg)) f) ∧ bgV bg i = agC j := by
  have dbg : ∀ a j, a < 4 → j < 2 → Dv (DP (holeA nw sc bg)) (hBg a j) (bg (2 * a + j)) := fun a j h1 h2 => dBg h1 h2
  have hi := i4
  rcases comb (D := DP (holeA nw sc bg)) (Q := ∃ j, j < 5 ∧ (∀ f ∈ eE (agP i) (bgG i) j, OkF (DP (holeA nw sc bg)) f) ∧ bgV bg i = agC j) (F := agP i) (G := bgG i) hp (fun f hf => by
      simp only [bgG, List.mem_cons, List.not_mem_nil, or_false] at hf
      rcases hf with rfl | rfl | rfl | rfl | rfl
      · exact ⟨_, _, .lit 0, (dbg i 0 hi (by decide))⟩
      · exact ⟨_, _, (dbg i 0 hi (by decide)), .lit 100000⟩
      · exact ⟨_, _, .lit 0, (dbg i 1 hi (by decide))⟩
      · exact ⟨_, _, (dbg i 1 hi (by decide)), .lit 100000⟩
      · exact ⟨_, _, (dbg i 1 hi (by decide)), (dbg i 0 hi (by decide))⟩) (fun j hj hok => by
      refine ⟨j, hj, hok, ?_⟩
      have hj : j < 5 := hj
      obtain rfl | rfl | rfl | rfl | rfl : j = 0 ∨ j = 1 ∨ j = 2 ∨ j = 3 ∨ j = 4 := by omega
      · have n0 := of_nle (hok (2, iP 0, hBg i 0, false) (by simp [eE, bgG, negF])) (.lit 0) (dbg i 0 hi (by decide))
        rw [bgV, rangeE_if]
        show _ = (2 : Int)
        repeat' split
        all_goals omega
      · have c0 := of_le (hok (2, iP 0, hBg i 0, true) (by simp [eE, bgG])) (.lit 0) (dbg i 0 hi (by decide))
        have n1 := of_nle (hok (2, hBg i 0, iP 100000, false) (by simp [eE, bgG, negF])) (dbg i 0 hi (by decide)) (.lit 100000)
        rw [bgV, rangeE_if]
        show _ = (2 : Int)
        repeat' split
        all_goals omega
      · have c0 := of_le (hok (2, iP 0, hBg i 0, true) (by simp [eE, bgG])) (.lit 0) (dbg i 0 hi (by decide))
        have c1 := of_le (hok (2, hBg i 0, iP 100000, true) (by simp [eE, bgG])) (dbg i 0 hi (by decide)) (.lit 100000)
        have n2 := of_nle (hok (2, iP 0, hBg i 1, false) (by simp [eE, bgG, negF])) (.lit 0) (dbg i 1 hi (by decide))
        rw [bgV, rangeE_if]
        show _ = (2 : Int)
        repeat' split
        all_goals omega
      · have c0 := of_le (hok (2, iP 0, hBg i 0, true) (by simp [eE, bgG])) (.lit 0) (dbg i 0 hi (by decide))
        have c1 := of_le (hok (2, hBg i 0, iP 100000, true) (by simp [eE, bgG])) (dbg i 0 hi (by decide)) (.lit 100000)
        have c2 := of_le (hok (2, iP 0, hBg i 1, true) (by simp [eE, bgG])) (.lit 0) (dbg i 1 hi (by decide))
        have n3 := of_nle (hok (2, hBg i 1, iP 100000, false) (by simp [eE, bgG, negF])) (dbg i 1 hi (by decide)) (.lit 100000)
        rw [bgV, rangeE_if]
        show _ = (2 : Int)
        repeat' split
        all_goals omega
      · have c0 := of_le (hok (2, iP 0, hBg i 0, true) (by simp [eE, bgG])) (.lit 0) (dbg i 0 hi (by decide))
        have c1 := of_le (hok (2, hBg i 0, iP 100000, true) (by simp [eE, bgG])) (dbg i 0 hi (by decide)) (.lit 100000)
        have c2 := of_le (hok (2, iP 0, hBg i 1, true) (by simp [eE, bgG])) (.lit 0) (dbg i 1 hi (by decide))
        have c3 := of_le (hok (2, hBg i 1, iP 100000, true) (by simp [eE, bgG])) (dbg i 1 hi (by decide)) (.lit 100000)
        have n4 := of_lt (hok (1, hBg i 1, hBg i 0, true) (by simp [eE, bgG, negF])) (dbg i 1 hi (by decide)) (dbg i 0 hi (by decide))
        rw [bgV, rangeE_if]
        show _ = (9 : Int)
        repeat' split
        all_goals omega
      ) with hq | hok
  · exact hq
  · exact absurd (by
      have c0 := of_le (hok (2, iP 0, hBg i 0, true) (by simp [bgG])) (.lit 0) (dbg i 0 hi (by decide))
      have c1 := of_le (hok (2, hBg i 0, iP 100000, true) (by simp [bgG])) (dbg i 0 hi (by decide)) (.lit 100000)
      have c2 := of_le (hok (2, iP 0, hBg i 1, true) (by simp [bgG])) (.lit 0) (dbg i 1 hi (by decide))
      have c3 := of_le (hok (2, hBg i 1, iP 100000, true) (by simp [bgG])) (dbg i 1 hi (by decide)) (.lit 100000)
      have c4 := of_nlt (hok (1, hBg i 1, hBg i 0, false) (by simp [bgG])) (dbg i 1 hi (by decide)) (dbg i 0 hi (by decide))
      rw [bgV, rangeE_if]
      repeat' split
      all_goals omega) hz
theorem okBgG {nw : Int} {sc bg : Nat → Int} {i : Nat} (hi : i < 4) (hz : bgV bg i = 0) : ∀ f ∈ bgG i, OkF (DP (holeA nw sc bg)) f := by
  have dbg : ∀ a j, a < 4 → j < 2 → Dv (DP (holeA nw sc bg)) (hBg a j) (bg (2 * a + j)) := fun a j h1 h2 => dBg h1 h2
  obtain ⟨a1, a2, a3, a4, a5⟩ := bg_zero hz
  intro f hf
  simp only [bgG, List.mem_cons, List.not_mem_nil, or_false] at hf
  rcases hf with rfl | rfl | rfl | rfl | rfl
  · exact le_yes (.lit 0) (dbg i 0 hi (by decide)) (by omega)
  · exact le_yes (dbg i 0 hi (by decide)) (.lit 100000) (by omega)
  · exact le_yes (.lit 0) (dbg i 1 hi (by decide)) (by omega)
  · exact le_yes (dbg i 1 hi (by decide)) (.lit 100000) (by omega)
  · exact lt_no (dbg i 1 hi (by decide)) (dbg i 0 hi (by decide)) (by omega)
theorem okAgP {nw : Int} {sc bg : Nat → Int} {n : Nat} (h4 : n ≤ 4) (hz : ∀ i, i < n → bgV bg i = 0) : ∀ f ∈ agP n, OkF (DP (holeA nw sc bg)) f := fun f hf => by
  obtain ⟨i, hi, hf⟩ := List.mem_flatMap.1 hf
  have hi := List.mem_range.1 hi
  exact okBgG (by omega) (hz i hi) f hf
abbrev AgAns (nw : Int) (sc bg : Nat → Int) (N m : Nat) (e : Int) : Prop := ∀ {sb : Option Addr} {gs os cap gb ob cb : Nat} {w : World}, WinP gs os (4 * N) sc w → (0 < m → sb = some ⟨gb, ob, none⟩) → (0 < m → WinP gb ob (2 * m) bg w) →
    (Calls Tryz.prog 34 #[.agg #[.slice (some ⟨gs, os, none⟩) N cap, .int .i64 nw], .slice sb m cb] w fun r w' => r = .returned (iP e) ∧ Below w.heap.size w w') ∧
    (Calls Tryz.prog 14 #[.agg #[.slice (some ⟨gs, os, none⟩) N cap, .int .i64 nw], .slice sb m cb] w fun r w' => r = .returned (iP e) ∧ Below w.heap.size w w')
/-- what is wrong with ages, for a right number of scales -/
theorem ages_err (nw : Int) (sc bg : Nat → Int) {N : Nat} (m : Nat) (hN : 1 ≤ N ∧ N ≤ 4) : ∃ e : Int, (AgR bg N ∧ m = N ∧ e = 0 ∨ 0 < e ∧ e < 40) ∧ AgAns nw sc bg N m e := by
  by_cases hm : m = N
  · subst hm
    have dT : ∀ i, i < m → Dv (DP (holeA nw sc bg)) (bgT i) (bgV bg i) := fun i hi => dBgT (by omega)
    have lr : ∀ (gs os cap gb ob cb : Nat) (P : Pg) (M : Mp), P.den = DP (holeA nw sc bg) → M 0 = some (gs, os) → M 1 = some (gb, ob) → LRel P M [sysW m, begW m] (#[.agg #[.slice (some ⟨gs, os, none⟩) m cap, .int .i64 nw], .slice (some ⟨gb, ob, none⟩) m cb] : Array Value).toList := fun gs os cap gb ob cb P M hd h0 h1 =>
      LRel.cons (LRel.agg (LRel.cons (.osl h0 (.lit (m : Int))) (LRel.cons (Dv.vrel (P := P) (by rw [hd]; exact dNew)) (LRel.nil _)))) (LRel.cons (.osl h1 (.lit (m : Int))) (LRel.nil _))
    rcases comb (D := DP (holeA nw sc bg)) (Q := ∃ e : Int, (AgR bg m ∧ m = m ∧ e = 0 ∨ 0 < e ∧ e < 40) ∧ AgAns nw sc bg m m e) (F := []) (G := agE m) (fun f h => by simp at h) (fun f hf => by
      obtain ⟨i, hi, rfl⟩ := List.mem_map.1 hf
      exact ⟨_, _, dT i (List.mem_range.1 hi), .lit 0⟩) (fun i hk hok => by
      have hi : i < m := by simpa [agE] using hk
      have hs : ∀ j, j < i → bgV bg j = 0 := fun j hj => of_eq (hok (0, bgT j, iP 0, true) (List.mem_append.2 (.inr (List.mem_append.2 (.inl (by
        rw [agE, ← List.map_take, List.take_range]
        exact List.mem_map.2 ⟨j, List.mem_range.2 (by omega), rfl⟩)))))) (dT j (by omega)) (.lit 0)
      have hz : bgV bg i ≠ 0 := of_ne (hok (0, bgT i, iP 0, false) (List.mem_append.2 (.inr (List.mem_append.2 (.inr (by simp [agE, negF, hi])))))) (dT i hi) (.lit 0)
      obtain ⟨j, hj, hl, e⟩ := age_bad (nw := nw) (sc := sc) (by omega) (okAgP (by omega) hs) hz
      have dt := dT i hi
      rw [e] at dt
      refine ⟨agC j, .inr (by unfold agC; split <;> exact ⟨by decide, by decide⟩), fun {sb gs os cap gb ob cb w} hw hb hwb => ?_⟩
      rw [hb (by omega)]
      exact ⟨num_of (P := pgS (holeA nw sc bg) (eE [] (agE m) i) hok) dt (agWin hN.2 hw (hwb (by omega)) hok (lr gs os cap gb ob cb) (ok_spCk rfl rfl) (ae_bad _ hN hi hok)), lit_of rfl (agWin hN.2 hw (hwb (by omega)) hl (lr gs os cap gb ob cb) ok_spNone (re_bad _ hN hi hj hl))⟩) with hq | hok
    · exact hq
    have hs : ∀ j, j < m → bgV bg j = 0 := fun j hj => of_eq (hok (0, bgT j, iP 0, true) (List.mem_map.2 ⟨j, List.mem_range.2 hj, rfl⟩)) (dT j hj) (.lit 0)
    have hb := fun i hi => bg_zero (hs i hi)
    refine ⟨0, .inl ⟨⟨fun i hi => (hb i hi).1, fun i hi => (hb i hi).2.1, fun i hi => (hb i hi).2.2.1, fun i hi => (hb i hi).2.2.2.1, fun i hi => (hb i hi).2.2.2.2⟩, rfl, rfl⟩, fun {sb gs os cap gb ob cb w} hw hb hwb => ?_⟩
    rw [hb (by omega)]
    exact ⟨lit_of rfl (agWin hN.2 hw (hwb (by omega)) hok (lr gs os cap gb ob cb) (ok_spCk rfl rfl) (ae_good _ hN hok)), lit_of rfl (agWin hN.2 hw (hwb (by omega)) (okAgP hN.2 hs) (lr gs os cap gb ob cb) ok_spNone (re_good _ hN (okAgP hN.2 hs)))⟩
  · refine ⟨10, .inr ⟨by decide, by decide⟩, fun {sb gs os cap gb ob cb w} hw hb hwb => ⟨?_, ?_⟩⟩
    · exact agFar (nw := nw) (sb := sb) (m := m) (cb := cb) (cap := cap) hN.2 hw hm (fun P M hd h0 => LRel.cons (LRel.agg (LRel.cons (.osl h0 (.lit (N : Int))) (LRel.cons (Dv.vrel (P := P) (by rw [hd]; exact dQ (n := 0) (by decide) (by decide))) (LRel.nil _)))) (LRel.cons (.hsl (k := 42) (by rw [hd]; rfl) (by rw [hd]; exact dQ (n := 43) (by decide) (by decide))) (LRel.nil _))) (fun _ _ _ => ok_spCk rfl rfl) (fun hole ok => ae_len hole hN ok) rfl
    · exact agFar (nw := nw) (sb := sb) (m := m) (cb := cb) (cap := cap) hN.2 hw hm (fun P M hd h0 => LRel.cons (LRel.agg (LRel.cons (.osl h0 (.lit (N : Int))) (LRel.cons (Dv.vrel (P := P) (by rw [hd]; exact dQ (n := 0) (by decide) (by decide))) (LRel.nil _)))) (LRel.cons (.hsl (k := 42) (by rw [hd]; rfl) (by rw [hd]; exact dQ (n := 43) (by decide) (by decide))) (LRel.nil _))) (fun _ _ _ => ok_spNone) (fun hole ok => re_len hole hN ok) rfl
end Sy
end Go.Proofs.YtdejmleboflopaaGreat
