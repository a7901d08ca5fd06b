/- PlanNow of any system and ages. -/
import Derived.Test.YtdejmleboflopaaGreatPW
import Derived.Test.YtdejmleboflopaaGreatPG
set_option linter.unusedVariables false
set_option linter.unusedSimpArgs false
namespace Go.Proofs.YtdejmleboflopaaGreat
open Go.RowKit
namespace Sy
open Go.RowKit

section
variable (hole : Nat → Value) {N k : Nat} (hN : 1 ≤ N ∧ N ≤ 4)
theorem nE1_run (hk : k < 4) (ok) : fstO (evDS (pgS hole (eE [] gE1 k) ok) (spE) 2000 60 (.fn 4) (argsE1) (.leaf) 0) = some (.bool true) := by
  obtain rfl | rfl | rfl | rfl : k = 0 ∨ k = 1 ∨ k = 2 ∨ k = 3 := by omega
  · exact nE1_0 hole ok
  · exact nE1_1 hole ok
  · exact nE1_2 hole ok
  · exact nE1_3 hole ok
include hN
theorem nE2_run (hk : k < 2 + 9 * N + 1) (ok) : fstO (evDS (pgS hole (eE [(1, iP 6, hLb, false)] (gE2 N) k) ok) (spE) 2000 60 (.fn 4) (argsE2 N) (hpE N) 1) = some (.bool true) := by
  obtain rfl | rfl | rfl | rfl : N = 1 ∨ N = 2 ∨ N = 3 ∨ N = 4 := by omega
  · obtain rfl | rfl | rfl | rfl | rfl | rfl | rfl | rfl | rfl | rfl | rfl | rfl : k = 0 ∨ k = 1 ∨ k = 2 ∨ k = 3 ∨ k = 4 ∨ k = 5 ∨ k = 6 ∨ k = 7 ∨ k = 8 ∨ k = 9 ∨ k = 10 ∨ k = 11 := by omega
    · exact nE2_1_0 hole ok
    · exact nE2_1_1 hole ok
    · exact nE2_1_2 hole ok
    · exact nE2_1_3 hole ok
    · exact nE2_1_4 hole ok
    · exact nE2_1_5 hole ok
    · exact nE2_1_6 hole ok
    · exact nE2_1_7 hole ok
    · exact nE2_1_8 hole ok
    · exact nE2_1_9 hole ok
    · exact nE2_1_10 hole ok
    · exact nE2_1_11 hole ok
  · obtain rfl | rfl | rfl | rfl | rfl | rfl | rfl | rfl | rfl | rfl | rfl | rfl | rfl | rfl | rfl | rfl | rfl | rfl | rfl | rfl | rfl : k = 0 ∨ k = 1 ∨ k = 2 ∨ k = 3 ∨ k = 4 ∨ k = 5 ∨ k = 6 ∨ k = 7 ∨ k = 8 ∨ k = 9 ∨ k = 10 ∨ k = 11 ∨ k = 12 ∨ k = 13 ∨ k = 14 ∨ k = 15 ∨ k = 16 ∨ k = 17 ∨ k = 18 ∨ k = 19 ∨ k = 20 := by omega
    · exact nE2_2_0 hole ok
    · exact nE2_2_1 hole ok
    · exact nE2_2_2 hole ok
    · exact nE2_2_3 hole ok
    · exact nE2_2_4 hole ok
    · exact nE2_2_5 hole ok
    · exact nE2_2_6 hole ok
    · exact nE2_2_7 hole ok
    · exact nE2_2_8 hole ok
    · exact nE2_2_9 hole ok
    · exact nE2_2_10 hole ok
    · exact nE2_2_11 hole ok
    · exact nE2_2_12 hole ok
    · exact nE2_2_13 hole ok
    · exact nE2_2_14 hole ok
    · exact nE2_2_15 hole ok
    · exact nE2_2_16 hole ok
    · exact nE2_2_17 hole ok
    · exact nE2_2_18 hole ok
    · exact nE2_2_19 hole ok
    · exact nE2_2_20 hole ok
  · obtain rfl | rfl | rfl | rfl | rfl | rfl | rfl | rfl | rfl | rfl | rfl | rfl | rfl | rfl | rfl | rfl | rfl | rfl | rfl | rfl | rfl | rfl | rfl | rfl | rfl | rfl | rfl | rfl | rfl | rfl : k = 0 ∨ k = 1 ∨ k = 2 ∨ k = 3 ∨ k = 4 ∨ k = 5 ∨ k = 6 ∨ k = 7 ∨ k = 8 ∨ k = 9 ∨ k = 10 ∨ k = 11 ∨ k = 12 ∨ k = 13 ∨ k = 14 ∨ k = 15 ∨ k = 16 ∨ k = 17 ∨ k = 18 ∨ k = 19 ∨ k = 20 ∨ k = 21 ∨ k = 22 ∨ k = 23 ∨ k = 24 ∨ k = 25 ∨ k = 26 ∨ k = 27 ∨ k = 28 ∨ k = 29 := by omega
    · exact nE2_3_0 hole ok
    · exact nE2_3_1 hole ok
    · exact nE2_3_2 hole ok
    · exact nE2_3_3 hole ok
    · exact nE2_3_4 hole ok
    · exact nE2_3_5 hole ok
    · exact nE2_3_6 hole ok
    · exact nE2_3_7 hole ok
    · exact nE2_3_8 hole ok
    · exact nE2_3_9 hole ok
    · exact nE2_3_10 hole ok
    · exact nE2_3_11 hole ok
    · exact nE2_3_12 hole ok
    · exact nE2_3_13 hole ok
    · exact nE2_3_14 hole ok
    · exact nE2_3_15 hole ok
    · exact nE2_3_16 hole ok
    · exact nE2_3_17 hole ok
    · exact nE2_3_18 hole ok
    · exact nE2_3_19 hole ok
    · exact nE2_3_20 hole ok
    · exact nE2_3_21 hole ok
    · exact nE2_3_22 hole ok
    · exact nE2_3_23 hole ok
    · exact nE2_3_24 hole ok
    · exact nE2_3_25 hole ok
    · exact nE2_3_26 hole ok
    · exact nE2_3_27 hole ok
    · exact nE2_3_28 hole ok
    · exact nE2_3_29 hole ok
  · obtain rfl | rfl | rfl | rfl | rfl | rfl | rfl | rfl | rfl | rfl | rfl | rfl | rfl | rfl | rfl | rfl | rfl | rfl | rfl | rfl | rfl | rfl | rfl | rfl | rfl | rfl | rfl | rfl | rfl | rfl | rfl | rfl | rfl | rfl | rfl | rfl | rfl | rfl | rfl : k = 0 ∨ k = 1 ∨ k = 2 ∨ k = 3 ∨ k = 4 ∨ k = 5 ∨ k = 6 ∨ k = 7 ∨ k = 8 ∨ k = 9 ∨ k = 10 ∨ k = 11 ∨ k = 12 ∨ k = 13 ∨ k = 14 ∨ k = 15 ∨ k = 16 ∨ k = 17 ∨ k = 18 ∨ k = 19 ∨ k = 20 ∨ k = 21 ∨ k = 22 ∨ k = 23 ∨ k = 24 ∨ k = 25 ∨ k = 26 ∨ k = 27 ∨ k = 28 ∨ k = 29 ∨ k = 30 ∨ k = 31 ∨ k = 32 ∨ k = 33 ∨ k = 34 ∨ k = 35 ∨ k = 36 ∨ k = 37 ∨ k = 38 := by omega
    · exact nE2_4_0 hole ok
    · exact nE2_4_1 hole ok
    · exact nE2_4_2 hole ok
    · exact nE2_4_3 hole ok
    · exact nE2_4_4 hole ok
    · exact nE2_4_5 hole ok
    · exact nE2_4_6 hole ok
    · exact nE2_4_7 hole ok
    · exact nE2_4_8 hole ok
    · exact nE2_4_9 hole ok
    · exact nE2_4_10 hole ok
    · exact nE2_4_11 hole ok
    · exact nE2_4_12 hole ok
    · exact nE2_4_13 hole ok
    · exact nE2_4_14 hole ok
    · exact nE2_4_15 hole ok
    · exact nE2_4_16 hole ok
    · exact nE2_4_17 hole ok
    · exact nE2_4_18 hole ok
    · exact nE2_4_19 hole ok
    · exact nE2_4_20 hole ok
    · exact nE2_4_21 hole ok
    · exact nE2_4_22 hole ok
    · exact nE2_4_23 hole ok
    · exact nE2_4_24 hole ok
    · exact nE2_4_25 hole ok
    · exact nE2_4_26 hole ok
    · exact nE2_4_27 hole ok
    · exact nE2_4_28 hole ok
    · exact nE2_4_29 hole ok
    · exact nE2_4_30 hole ok
    · exact nE2_4_31 hole ok
    · exact nE2_4_32 hole ok
    · exact nE2_4_33 hole ok
    · exact nE2_4_34 hole ok
    · exact nE2_4_35 hole ok
    · exact nE2_4_36 hole ok
    · exact nE2_4_37 hole ok
    · exact nE2_4_38 hole ok
theorem nE3_run (hk : k < 5 * N) (ok) : fstO (evDS (pgS hole (eE (sysG N) (gE3 N) k) ok) (spE) 2000 60 (.fn 4) (argsE3 N) (hpS N) 2) = some (.bool true) := by
  obtain rfl | rfl | rfl | rfl : N = 1 ∨ N = 2 ∨ N = 3 ∨ N = 4 := by omega
  · obtain rfl | rfl | rfl | rfl | rfl : k = 0 ∨ k = 1 ∨ k = 2 ∨ k = 3 ∨ k = 4 := by omega
    · exact nE3_1_0 hole ok
    · exact nE3_1_1 hole ok
    · exact nE3_1_2 hole ok
    · exact nE3_1_3 hole ok
    · exact nE3_1_4 hole ok
  · obtain rfl | rfl | rfl | rfl | rfl | rfl | rfl | rfl | rfl | rfl : k = 0 ∨ k = 1 ∨ k = 2 ∨ k = 3 ∨ k = 4 ∨ k = 5 ∨ k = 6 ∨ k = 7 ∨ k = 8 ∨ k = 9 := by omega
    · exact nE3_2_0 hole ok
    · exact nE3_2_1 hole ok
    · exact nE3_2_2 hole ok
    · exact nE3_2_3 hole ok
    · exact nE3_2_4 hole ok
    · exact nE3_2_5 hole ok
    · exact nE3_2_6 hole ok
    · exact nE3_2_7 hole ok
    · exact nE3_2_8 hole ok
    · exact nE3_2_9 hole ok
  · obtain rfl | rfl | rfl | rfl | rfl | rfl | rfl | rfl | rfl | rfl | rfl | rfl | rfl | rfl | rfl : k = 0 ∨ k = 1 ∨ k = 2 ∨ k = 3 ∨ k = 4 ∨ k = 5 ∨ k = 6 ∨ k = 7 ∨ k = 8 ∨ k = 9 ∨ k = 10 ∨ k = 11 ∨ k = 12 ∨ k = 13 ∨ k = 14 := by omega
    · exact nE3_3_0 hole ok
    · exact nE3_3_1 hole ok
    · exact nE3_3_2 hole ok
    · exact nE3_3_3 hole ok
    · exact nE3_3_4 hole ok
    · exact nE3_3_5 hole ok
    · exact nE3_3_6 hole ok
    · exact nE3_3_7 hole ok
    · exact nE3_3_8 hole ok
    · exact nE3_3_9 hole ok
    · exact nE3_3_10 hole ok
    · exact nE3_3_11 hole ok
    · exact nE3_3_12 hole ok
    · exact nE3_3_13 hole ok
    · exact nE3_3_14 hole ok
  · obtain rfl | rfl | rfl | rfl | rfl | rfl | rfl | rfl | rfl | rfl | rfl | rfl | rfl | rfl | rfl | rfl | rfl | rfl | rfl | rfl : k = 0 ∨ k = 1 ∨ k = 2 ∨ k = 3 ∨ k = 4 ∨ k = 5 ∨ k = 6 ∨ k = 7 ∨ k = 8 ∨ k = 9 ∨ k = 10 ∨ k = 11 ∨ k = 12 ∨ k = 13 ∨ k = 14 ∨ k = 15 ∨ k = 16 ∨ k = 17 ∨ k = 18 ∨ k = 19 := by omega
    · exact nE3_4_0 hole ok
    · exact nE3_4_1 hole ok
    · exact nE3_4_2 hole ok
    · exact nE3_4_3 hole ok
    · exact nE3_4_4 hole ok
    · exact nE3_4_5 hole ok
    · exact nE3_4_6 hole ok
    · exact nE3_4_7 hole ok
    · exact nE3_4_8 hole ok
    · exact nE3_4_9 hole ok
    · exact nE3_4_10 hole ok
    · exact nE3_4_11 hole ok
    · exact nE3_4_12 hole ok
    · exact nE3_4_13 hole ok
    · exact nE3_4_14 hole ok
    · exact nE3_4_15 hole ok
    · exact nE3_4_16 hole ok
    · exact nE3_4_17 hole ok
    · exact nE3_4_18 hole ok
    · exact nE3_4_19 hole ok
theorem nZf_run (ok) : fstO (evDS (pgS hole (sysF N) ok) (spMz N (ansF 0 16)) 2000 60 (.fn 4) (argsE3 N) (hpS N) 2) = some (.bool true) := by
  obtain rfl | rfl | rfl | rfl : N = 1 ∨ N = 2 ∨ N = 3 ∨ N = 4 := by omega
  · exact nZf_1 hole ok
  · exact nZf_2 hole ok
  · exact nZf_3 hole ok
  · exact nZf_4 hole ok
theorem nPf_run (ok) : fstO (evDS (pgS hole (factsS N (posF false)) ok) (spMp N (ansF 0 16)) 2000 60 (.fn 4) (argsE3 N) (hpS N) 2) = some (.bool true) := by
  obtain rfl | rfl | rfl | rfl : N = 1 ∨ N = 2 ∨ N = 3 ∨ N = 4 := by omega
  · exact nPf_1 hole ok
  · exact nPf_2 hole ok
  · exact nPf_3 hole ok
  · exact nPf_4 hole ok
theorem nZs_run (ok) : fstO (evDS (pgS hole (sysF N) ok) (spMz N (shA)) 2000 60 (.fn 4) (argsE3 N) (hpS N) 2) = some (.bool true) := by
  obtain rfl | rfl | rfl | rfl : N = 1 ∨ N = 2 ∨ N = 3 ∨ N = 4 := by omega
  · exact nZs_1 hole ok
  · exact nZs_2 hole ok
  · exact nZs_3 hole ok
  · exact nZs_4 hole ok
theorem nPs_run (ok) : fstO (evDS (pgS hole (factsS N (posF false)) ok) (spMp N (shA)) 2000 60 (.fn 4) (argsE3 N) (hpS N) 2) = some (.bool true) := by
  obtain rfl | rfl | rfl | rfl : N = 1 ∨ N = 2 ∨ N = 3 ∨ N = 4 := by omega
  · exact nPs_1 hole ok
  · exact nPs_2 hole ok
  · exact nPs_3 hole ok
  · exact nPs_4 hole ok
theorem nT_run (ok) : fstO (evDS (pgS hole (factsS N (posF true)) ok) (spMt N) 2000 60 (.fn 4) (argsE3 N) (hpS N) 2) = some (.bool true) := by
  obtain rfl | rfl | rfl | rfl : N = 1 ∨ N = 2 ∨ N = 3 ∨ N = 4 := by omega
  · exact nT_1 hole ok
  · exact nT_2 hole ok
  · exact nT_3 hole ok
  · exact nT_4 hole ok
end
theorem ok_or {D : Dn} (g : Fact) (h : ∃ x y, Dv D g.2.1 x ∧ Dv D g.2.2.1 y) : OkF D g ∨ OkF D (negF g) := by
  obtain ⟨x, y, hx, hy⟩ := h
  by_cases hc : cmpN g.1 x y = g.2.2.2
  · exact .inl ⟨x, y, hx, hy, hc⟩
  · refine .inr ⟨x, y, hx, hy, ?_⟩
    show cmpN g.1 x y = !g.2.2.2
    cases h1 : cmpN g.1 x y <;> cases h2 : g.2.2.2 <;> simp_all
theorem comb {D : Dn} {Q : Prop} {F G : List Fact} (p : ∀ f ∈ F, OkF D f) (hd : ∀ g ∈ G, ∃ x y, Dv D g.2.1 x ∧ Dv D g.2.2.1 y) (he : ∀ k, k < G.length → (∀ f ∈ eE F G k, OkF D f) → Q) : Q ∨ ∀ f ∈ G, OkF D f := by
  have key : ∀ n, n ≤ G.length → Q ∨ ∀ f ∈ G.take n, OkF D f := by
    intro n
    induction n with
    | zero => intro _; exact .inr (fun f h => by simp at h)
    | succ n ih =>
      intro hn
      rcases ih (by omega) with q | h
      · exact .inl q
      · have hg : G[n]? = some G[n] := List.getElem?_eq_getElem (by omega)
        rcases ok_or G[n] (hd _ (List.getElem_mem _)) with h1 | h1
        · refine .inr (fun f hf => ?_)
          rw [List.take_add_one, hg] at hf
          rcases List.mem_append.1 hf with h2 | h2
          · exact h f h2
          · simp at h2; subst h2; exact h1
        · refine .inl (he n (by omega) ?_)
          unfold eE
          rw [show G.getD n f0 = G[n] by rw [List.getD_eq_getElem?_getD, hg]; rfl]
          exact ok_app p (ok_app h (ok_one h1))
  rcases key G.length (Nat.le_refl _) with q | h
  · exact .inl q
  · rw [List.take_length] at h; exact .inr h
theorem of_le {D : Dn} {a b : Value} {x y : Int} (h : OkF D (2, a, b, true)) (ha : Dv D a x) (hb : Dv D b y) : x ≤ y := by
  obtain ⟨x', y', p, q, e⟩ := h
  have := ha.unique _ p
  have := hb.unique _ q
  subst_vars
  exact of_decide_eq_true e
theorem of_nlt {D : Dn} {a b : Value} {x y : Int} (h : OkF D (1, a, b, false)) (ha : Dv D a x) (hb : Dv D b y) : y ≤ x := by
  obtain ⟨x', y', p, q, e⟩ := h
  have := ha.unique _ p
  have := hb.unique _ q
  subst_vars
  have := of_decide_eq_false e
  omega
theorem of_eq {D : Dn} {a b : Value} {x y : Int} (h : OkF D (0, a, b, true)) (ha : Dv D a x) (hb : Dv D b y) : x = y := by
  obtain ⟨x', y', p, q, e⟩ := h
  have := ha.unique _ p
  have := hb.unique _ q
  subst_vars
  exact of_decide_eq_true e
theorem of_ne {D : Dn} {a b : Value} {x y : Int} (h : OkF D (0, a, b, false)) (ha : Dv D a x) (hb : Dv D b y) : x ≠ y := by
  obtain ⟨x', y', p, q, e⟩ := h
  have := ha.unique _ p
  have := hb.unique _ q
  subst_vars
  exact of_decide_eq_false e
abbrev LawN (nw : Int) (sa : Option Addr) (n cap : Nat) (sb : Option Addr) (m cb : Nat) (w : World) : Prop :=
  Calls Tryz.prog 4 #[.agg #[.slice sa n cap, .int .i64 nw], .slice sb m cb] w fun e w' => e = .returned (.bool true) ∧ Below w.heap.size w w'
section
variable {v u : Value} {nw : Int} {sc bg ot : Nat → Int}
def valS (nw : Int) (sc bg ot : Nat → Int) (n : Nat) : Int := if n = 0 then nw else if n < 17 then sc (n - 1) else if n < 25 then bg (n - 17) else ot n
theorem dQ {n : Nat} (h0 : n ≠ 40) (h2 : n ≠ 42) : Dv (DP (holeQ v u nw sc bg ot)) (hP n) (valS nw sc bg ot n) := by
  refine .hole ?_
  show holeQ v u nw sc bg ot n = _
  unfold holeQ
  rw [if_neg h0, if_neg h2]
  rfl
theorem dQsc {i j : Nat} (hi : i < 4) (hj : j < 4) : Dv (DP (holeQ v u nw sc bg ot)) (hSc i j) (sc (4 * i + j)) := by
  have := dQ (v := v) (u := u) (nw := nw) (sc := sc) (bg := bg) (ot := ot) (n := 1 + 4 * i + j) (by omega) (by omega)
  unfold valS at this
  rwa [if_neg (by omega), if_pos (by omega), show 1 + 4 * i + j - 1 = 4 * i + j by omega] at this
end
theorem ok_spE {P : Pg} (hp : P.prog = Tryz.prog) : CallOk P spE := ok_spTrue (by rw [hp]; exact awakeP)
theorem true_of {P : Pg} {prog : Program} {f : Nat} {args' : Array Value} {w : World} (h : Calls prog f args' w fun e w' => ∃ M' v', e = .returned v' ∧ VRel P M' (.bool true) v' ∧ Below w.heap.size w w') : Calls prog f args' w fun e w' => e = .returned (.bool true) ∧ Below w.heap.size w w' :=
  Calls.mono h (by rintro e w' ⟨M', v', rfl, hv, hb⟩; cases hv; exact ⟨rfl, hb⟩)
/-- a slice that is not looked into -/
theorem far1 {nw : Int} {sa sb : Option Addr} {n cap m cb : Nat} {w : World} {ot : Nat → Int} (h41 : ot 41 = n) (h43 : ot 43 = m) {sc bg : Nat → Int} {l : List Fact} {ok} (hrun : fstO (evDS (pgS (holeQ (.slice sa n cap) (.slice sb m cb) nw sc bg ot) l ok) spE 2000 60 (.fn 4) argsE1 .leaf 0) = some (.bool true)) : LawN nw sa n cap sb m cb w :=
  run_true (P := pgS (holeQ (.slice sa n cap) (.slice sb m cb) nw sc bg ot) l ok) rfl (by kernel_rfl) (ok_spE rfl) hrun (fun M => by
    have d1 : Dv (DP (holeQ (.slice sa n cap) (.slice sb m cb) nw sc bg ot)) hLs n := by have := dQ (v := .slice sa n cap) (u := .slice sb m cb) (nw := nw) (sc := sc) (bg := bg) (ot := ot) (n := 41) (by decide) (by decide); rwa [show valS nw sc bg ot 41 = n from h41] at this
    have d2 : Dv (DP (holeQ (.slice sa n cap) (.slice sb m cb) nw sc bg ot)) hLb m := by have := dQ (v := .slice sa n cap) (u := .slice sb m cb) (nw := nw) (sc := sc) (bg := bg) (ot := ot) (n := 43) (by decide) (by decide); rwa [show valS nw sc bg ot 43 = m from h43] at this
    exact LRel.cons (LRel.agg (LRel.cons (.hsl (k := 40) rfl d1) (LRel.cons (Dv.vrel (P := pgS (holeQ (.slice sa n cap) (.slice sb m cb) nw sc bg ot) l ok) (dQ (n := 0) (by decide) (by decide))) (LRel.nil _)))) (LRel.cons (.hsl (k := 42) rfl d2) (LRel.nil _))) w
theorem hpE_get {N : Nat} (id : Nat) (o : AObj) (h : (hpE N).get id = some o) : id = 0 ∧ o = .win (rowS N) := by
  unfold hpE at h
  rw [T.get_node] at h
  by_cases hi : id = 0
  · subst hi; simp at h; exact ⟨rfl, h.symm⟩
  · simp [hi, T.get_leaf] at h
theorem far2 {nw : Int} {gs os : Nat} {sb : Option Addr} {N cap m cb : Nat} {w : World} {ot : Nat → Int} (h43 : ot 43 = m) (h4 : N ≤ 4) {sc bg : Nat → Int} (hw : WinP gs os (4 * N) sc w) {v : Value} {l : List Fact} {ok} (hrun : fstO (evDS (pgS (holeQ v (.slice sb m cb) nw sc bg ot) l ok) spE 2000 60 (.fn 4) (argsE2 N) (hpE N) 1) = some (.bool true)) : LawN nw (some ⟨gs, os, none⟩) N cap sb m cb w := by
  have ro : ∀ id, wrt ((hpE N).get id) = false := fun id => by
    cases e : (hpE N).get id with
    | none => rfl
    | some o => obtain ⟨_, rfl⟩ := hpE_get id o e; rfl
  have d2 : Dv (DP (holeQ v (.slice sb m cb) nw sc bg ot)) hLb m := by have := dQ (v := v) (u := .slice sb m cb) (nw := nw) (sc := sc) (bg := bg) (ot := ot) (n := 43) (by decide) (by decide); rwa [show valS nw sc bg ot 43 = m from h43] at this
  refine true_of (run_ro (P := pgS (holeQ v (.slice sb m cb) nw sc bg ot) l ok) (M := fun id => if id = 0 then some (gs, os) else none) rfl (by kernel_rfl) (ok_spE rfl) hrun (args' := #[.agg #[.slice (some ⟨gs, os, none⟩) N cap, .int .i64 nw], .slice sb m cb])
    (LRel.cons (LRel.agg (LRel.cons (.osl rfl (.lit (N : Int))) (LRel.cons (Dv.vrel (P := pgS (holeQ v (.slice sb m cb) nw sc bg ot) l ok) (dQ (n := 0) (by decide) (by decide))) (LRel.nil _)))) (LRel.cons (.hsl (k := 42) rfl d2) (LRel.nil _)))
    ⟨fun id o e => ?_, fun i j b r r' hi => by rw [ro i] at hi; cases hi⟩ ro (fun id hid => if_neg (by omega)))
  obtain ⟨rfl, rfl⟩ := hpE_get id o e
  obtain ⟨ob1, k1, k2⟩ := winP_obj (P := pgS (holeQ v (.slice sb m cb) nw sc bg ot) l ok) (M := fun id => if id = 0 then some (gs, os) else none) (row := rowS N) (by simp [rowS]) (fun i u hu => by
    unfold rowS at hu
    rw [List.getElem?_map] at hu
    by_cases hi : i < 4 * N
    · rw [List.getElem?_range hi] at hu
      cases hu
      have := dQsc (v := v) (u := .slice sb m cb) (nw := nw) (sc := sc) (bg := bg) (ot := ot) (i := i / 4) (j := i % 4) (by omega) (by omega)
      unfold hSc at this
      rwa [show 1 + 4 * (i / 4) + i % 4 = 1 + i by omega, show 4 * (i / 4) + i % 4 = i by omega] at this
    · rw [List.getElem?_eq_none (by simp; omega)] at hu; cases hu) hw (fun _ => trivial)
  exact ⟨gs, os, ob1, rfl, Nat.zero_le _, k1, k2⟩
theorem near {nw : Int} {gs os gb ob : Nat} {N cap cb : Nat} {w : World} {ot sc bg : Nat → Int} (h4 : N ≤ 4) (hw : WinP gs os (4 * N) sc w) (hwb : WinP gb ob (2 * N) bg w) {l : List Fact} {ok} {sp : CallF} (hsp : CallOk (pgS (holeS nw sc bg ot) l ok) sp) (hrun : fstO (evDS (pgS (holeS nw sc bg ot) l ok) sp 2000 60 (.fn 4) (argsE3 N) (hpS N) 2) = some (.bool true)) : LawN nw (some ⟨gs, os, none⟩) N cap (some ⟨gb, ob, none⟩) N cb w :=
  true_of (run_ro (P := pgS (holeS nw sc bg ot) l ok) (M := mpP gs os gb ob) rfl (by kernel_rfl) hsp hrun (args' := #[.agg #[.slice (some ⟨gs, os, none⟩) N cap, .int .i64 nw], .slice (some ⟨gb, ob, none⟩) N cb])
    (LRel.cons (LRel.agg (LRel.cons (.osl rfl (.lit (N : Int))) (LRel.cons (Dv.vrel (P := pgS (holeS nw sc bg ot) l ok) dNew) (LRel.nil _)))) (LRel.cons (.osl rfl (.lit (N : Int))) (LRel.nil _)))
    (hpS_rel rfl h4 hw hwb) (fun id => hpS_ro id) (fun id hid => by unfold mpP; rw [if_neg (by omega), if_neg (by omega)]))
/-- the least of those that are not right -/
theorem least_bad {nw : Int} {sc bg : Nat → Int} {N : Nat} (h : SysOk nw sc bg N) : ∃ n : Nat, n ≤ 20001 ∧ ¬ goodB nw sc bg N n ∧ ∀ d : Nat, d < n → goodB nw sc bg N d := by
  have hb : ¬ goodB nw sc bg N (20001 : Nat) := fun hg => by
    have h1 := h.n1
    have := hg.1 0 (by omega)
    have v1 := h.v1 0 (by omega)
    have h0 := h.h0 0 (by omega)
    have h1' := h.h1 0 (by omega)
    unfold fullB flN at this
    have := of_decide_eq_false this
    rw [show binN 1 ((20001 : Nat) : Int) (sc (4 * 0 + 2)) = 20001 + sc (4 * 0 + 2) from IntWalk.i64_in _ (by omega)] at this
    omega
  have key : ∀ k : Nat, (∀ d : Nat, d < k → goodB nw sc bg N d) ∨ ∃ n : Nat, n < k ∧ ¬ goodB nw sc bg N n ∧ ∀ d : Nat, d < n → goodB nw sc bg N d := by
    intro k
    induction k with
    | zero => exact .inl fun d hd => absurd hd (Nat.not_lt_zero _)
    | succ k ih =>
      rcases ih with h | ⟨n, h1, h2, h3⟩
      · by_cases hk : goodB nw sc bg N k
        · refine .inl fun d hd => ?_
          by_cases e : d = k
          · subst e; exact hk
          · exact h d (by omega)
        · exact .inr ⟨k, Nat.lt_succ_self _, hk, h⟩
      · exact .inr ⟨n, by omega, h2, h3⟩
  rcases key 20001 with h | ⟨n, h1, h2, h3⟩
  · exact ⟨20001, Nat.le_refl _, hb, h⟩
  · exact ⟨n, by omega, h2, h3⟩
def otM (n a : Int) (k : Nat) : Int := if k = 31 then n else if k = 33 then a else 0
theorem now_right {nw : Int} {sc bg : Nat → Int} {N gs os cap gb ob cb : Nat} {w : World} (h : SysOk nw sc bg N) (hw : WinP gs os (4 * N) sc w) (hwb : WinP gb ob (2 * N) bg w) : LawN nw (some ⟨gs, os, none⟩) N cap (some ⟨gb, ob, none⟩) N cb w := by
  have hN : 1 ≤ N ∧ N ≤ 4 := ⟨h.n1, h.n4⟩
  obtain ⟨n, hn, hbad, hl⟩ := least_bad h
  have gn := fun gs os cap gb ob cb w hw hwb => gn_any (gs := gs) (os := os) (cap := cap) (gb := gb) (ob := ob) (cb := cb) (w := w) h hbad hl hn hw hwb
  have dn : ∀ a, Dv (DSy nw sc bg (otM n a)) (hP 31) (n : Int) := fun a => dOt (by decide)
  have da : ∀ a, Dv (DSy nw sc bg (otM n a)) (hP 33) a := fun a => dOt (by decide)
  have keyF : ∀ (a c : Int) (l ok), ∀ M, VRel (pgS (holeS nw sc bg (otM n a)) l ok) M (.tuple #[.agg #[iP 0, iP 0], iP c]) (.tuple #[.agg #[.int .i64 0, .int .i64 0], .int .i64 c]) := fun a c l ok M => LRel.tup (LRel.cons (LRel.agg (LRel.cons (.int .i64 0) (LRel.cons (.int .i64 0) (LRel.nil M)))) (LRel.cons (.int .i64 c) (LRel.nil M)))
  have keyS : ∀ (a : Int) (l ok), ∀ M, VRel (pgS (holeS nw sc bg (otM n a)) l ok) M shA (.tuple #[.agg #[.int .i64 0, .int .i64 a], .int .i64 0]) := fun a l ok M => LRel.tup (LRel.cons (LRel.agg (LRel.cons (.int .i64 0) (LRel.cons (Dv.vrel (P := pgS (holeS nw sc bg (otM n a)) l ok) (da a)) (LRel.nil M)))) (LRel.cons (.int .i64 0) (LRel.nil M)))
  by_cases h0 : n = 0
  · subst h0
    obtain ⟨a, c, hans, key⟩ := fs_any h (d := 0) (by decide) (by decide)
    have okG : ∀ (a' : Int) (l ok), CallOk (pgS (holeS nw sc bg (otM (0 : Nat) a')) l ok) (spGN 12 N (.tuple #[iP 0, iP 12])) := fun a' l ok => ok_spGN rfl rfl h.n4 (fun gs os cap gb ob cb w k1 k2 => Calls.mono (gn gs os cap gb ob cb w k1 k2) (by
      rintro e w' ⟨rfl, hb⟩
      exact ⟨⟨_, rfl, fun M => LRel.tup (LRel.cons (.int .i64 0) (LRel.cons (.int .i64 12) (LRel.nil M)))⟩, hb⟩))
    rcases hans with ⟨hg, _, _⟩ | ⟨_, rfl, rfl⟩ | ⟨_, a0, a3, rfl⟩
    · exact absurd hg hbad
    · exact near (ot := otM (0 : Nat) 0) h.n4 hw hwb (ok_spOr (ok_spE rfl) (ok_spOr (okG 0 _ _) (ok_spFS rfl rfl h.n4 (.lit 0) (fun gs os cap gb ob cb gx ox cx w k1 k2 k3 => Calls.mono (key k1 k2 k3) (by rintro e w' ⟨rfl, hb⟩; exact ⟨⟨_, rfl, keyF 0 16 _ _⟩, hb⟩))))) (nZf_run _ hN (okSys h))
    · exact near (ot := otM (0 : Nat) a) h.n4 hw hwb (ok_spOr (ok_spE rfl) (ok_spOr (okG a _ _) (ok_spFS rfl rfl h.n4 (.lit 0) (fun gs os cap gb ob cb gx ox cx w k1 k2 k3 => Calls.mono (key k1 k2 k3) (by rintro e w' ⟨rfl, hb⟩; exact ⟨⟨_, rfl, keyS a _ _⟩, hb⟩))))) (nZs_run _ hN (okSys h))
  · have dT : ∀ a, Dv (DSy nw sc bg (otM n a)) nT ((n : Int) - 1) := fun a => by
      have : Dv (DSy nw sc bg (otM n a)) nT (binN 2 n 1) := .bin (t := 2) (by decide) (dn a) (.lit 1)
      rwa [show binN 2 (n : Int) 1 = (n : Int) - 1 from IntWalk.i64_in _ (by omega)] at this
    have dT1 : ∀ a, Dv (DSy nw sc bg (otM n a)) (b1 1 nT (iP 1)) (n : Int) := fun a => by
      have : Dv (DSy nw sc bg (otM n a)) (b1 1 nT (iP 1)) (binN 1 ((n : Int) - 1) 1) := .bin (t := 1) (by decide) (dT a) (.lit 1)
      rwa [show binN 1 ((n : Int) - 1) 1 = (n : Int) from by show IntKind.i64.wrap ((n : Int) - 1 + 1) = _; rw [Int.sub_add_cancel]; exact IntWalk.i64_in _ (by omega)] at this
    have okG : ∀ (a' : Int) (l ok), CallOk (pgS (holeS nw sc bg (otM n a')) l ok) (spGN 12 N (.tuple #[nT, iP 0])) := fun a' l ok => ok_spGN rfl rfl h.n4 (fun gs os cap gb ob cb w k1 k2 => Calls.mono (gn gs os cap gb ob cb w k1 k2) (by
      rintro e w' ⟨rfl, hb⟩
      rw [if_neg h0, if_neg h0]
      exact ⟨⟨_, rfl, fun M => LRel.tup (LRel.cons (Dv.vrel (P := pgS (holeS nw sc bg (otM n a')) l ok) (dT a')) (LRel.cons (.int .i64 0) (LRel.nil M)))⟩, hb⟩))
    have hg1 : goodB nw sc bg N ((n : Int) - 1) := by
      have := hl (n - 1) (by omega)
      rwa [show ((n - 1 : Nat) : Int) = (n : Int) - 1 by omega] at this
    obtain ⟨a1, c1, hans1, key1⟩ := fs_any h (d := (n : Int) - 1) (by omega) (by omega)
    obtain ⟨rfl, rfl⟩ : a1 = 0 ∧ c1 = 12 := by
      rcases hans1 with ⟨_, e1, e2⟩ | ⟨hb, _⟩ | ⟨hb, _⟩
      · exact ⟨e1, e2⟩
      · exact absurd hg1 hb
      · exact absurd hg1 hb
    have ok1 : ∀ (a' : Int) (l ok), CallOk (pgS (holeS nw sc bg (otM n a')) l ok) (spF N nT (ansF 0 12)) := fun a' l ok => ok_spFS rfl rfl h.n4 (dT a') (fun gs os cap gb ob cb gx ox cx w k1 k2 k3 => Calls.mono (key1 k1 k2 k3) (by rintro e w' ⟨rfl, hb⟩; exact ⟨⟨_, rfl, keyF a' 12 _ _⟩, hb⟩))
    have okP : ∀ (a' : Int) (c : Bool), decide ((n : Int) - 1 = 20000) = c → ∀ f ∈ factsS N (posF c), OkF (DSy nw sc bg (otM n a')) f := fun a' c hc => ok_app (okSys h) (fun f hf => by
      simp only [posF, List.mem_cons, List.not_mem_nil, or_false] at hf
      rcases hf with rfl | rfl | rfl
      · exact le_yes (.lit 0) (dT a') (by omega)
      · exact le_yes (dT a') (.lit 20000) (by omega)
      · exact ⟨_, _, dT a', .lit 20000, hc⟩)
    by_cases hmx : (n : Int) - 1 = 20000
    · exact near (ot := otM n 0) h.n4 hw hwb (ok_spOr (ok_spE rfl) (ok_spOr (okG 0 _ _) (ok1 0 _ _))) (nT_run _ hN (okP 0 true (decide_eq_true hmx)))
    · obtain ⟨a, c, hans, key⟩ := fs_any h (d := (n : Int)) (by omega) (by omega)
      rcases hans with ⟨hg, _, _⟩ | ⟨_, rfl, rfl⟩ | ⟨_, a0, a3, rfl⟩
      · exact absurd hg hbad
      · exact near (ot := otM n 0) h.n4 hw hwb (ok_spOr (ok_spE rfl) (ok_spOr (okG 0 _ _) (ok_spOr (ok1 0 _ _) (ok_spFS rfl rfl h.n4 (dT1 0) (fun gs os cap gb ob cb gx ox cx w k1 k2 k3 => Calls.mono (key k1 k2 k3) (by rintro e w' ⟨rfl, hb⟩; exact ⟨⟨_, rfl, keyF 0 16 _ _⟩, hb⟩)))))) (nPf_run _ hN (okP 0 false (decide_eq_false hmx)))
      · exact near (ot := otM n a) h.n4 hw hwb (ok_spOr (ok_spE rfl) (ok_spOr (okG a _ _) (ok_spOr (ok1 a _ _) (ok_spFS rfl rfl h.n4 (dT1 a) (fun gs os cap gb ob cb gx ox cx w k1 k2 k3 => Calls.mono (key k1 k2 k3) (by rintro e w' ⟨rfl, hb⟩; exact ⟨⟨_, rfl, keyS a _ _⟩, hb⟩)))))) (nPs_run _ hN (okP a false (decide_eq_false hmx)))
theorem flat_len {g : Nat → List Fact} {k : Nat} (hg : ∀ i, (g i).length = k) : ∀ n, ((List.range n).flatMap g).length = k * n := fun n => by
  rw [List.length_flatMap]
  induction n with
  | zero => rfl
  | succ n ih => rw [List.range_succ, List.map_append, List.sum_append, ih]; simp [hg, Nat.mul_succ]
theorem now_any (nw : Int) (sa sb : Option Addr) (n cap gs os m cb gb ob : Nat) (sc bg : Nat → Int) (w : World) (hs : 0 < n → sa = some ⟨gs, os, none⟩) (hb : 0 < m → sb = some ⟨gb, ob, none⟩) (hw : 0 < n → WinP gs os (4 * n) sc w) (hwb : 0 < m → WinP gb ob (2 * m) bg w) : LawN nw sa n cap sb m cb w := by
  let ot : Nat → Int := fun k => if k = 41 then n else if k = 43 then m else 0
  let D := DP (holeQ (.slice sa n cap) (.slice sb m cb) nw sc bg ot)
  have dq : ∀ k, k ≠ 40 → k ≠ 42 → Dv D (hP k) (valS nw sc bg ot k) := fun k h1 h2 => dQ h1 h2
  have dLs : Dv D hLs (n : Int) := dq 41 (by decide) (by decide)
  have dLb : Dv D hLb (m : Int) := dq 43 (by decide) (by decide)
  rcases comb (D := D) (Q := LawN nw sa n cap sb m cb w) (F := []) (G := gE1) (fun f h => by simp at h) (fun f hf => by
    simp only [gE1, List.mem_cons, List.not_mem_nil, or_false] at hf
    rcases hf with rfl | rfl | rfl | rfl
    · exact ⟨_, _, dLs, .lit 6⟩
    · exact ⟨_, _, .lit 6, dLb⟩
    · exact ⟨_, _, dLs, .lit 0⟩
    · exact ⟨_, _, .lit 4, dLs⟩) (fun k hk hok => far1 (ot := ot) rfl rfl (nE1_run _ hk hok)) with hq | h1
  · exact hq
  have e1 := of_nlt (h1 (1, iP 6, hLb, false) (by simp [gE1])) (.lit 6) dLb
  have e2 := of_ne (h1 (0, hLs, iP 0, false) (by simp [gE1])) dLs (.lit 0)
  have e3 := of_nlt (h1 (1, iP 4, hLs, false) (by simp [gE1])) (.lit 4) dLs
  have n0 : 0 < n := by omega
  have hN : 1 ≤ n ∧ n ≤ 4 := by omega
  have hw := hw n0
  rw [hs n0]
  let D2 := DP (holeQ (.slice (some ⟨gs, os, none⟩) n cap) (.slice sb m cb) nw sc bg ot)
  have dsc : ∀ i j, i < n → j < 4 → Dv D2 (hSc i j) (sc (4 * i + j)) := fun i j hi hj => dQsc (by omega) hj
  have dnw : Dv D2 hNew nw := dQ (n := 0) (by decide) (by decide)
  have dLb2 : Dv D2 hLb (m : Int) := dQ (n := 43) (by decide) (by decide)
  have l9 : ((List.range n).flatMap scG).length = 9 * n := flat_len (g := scG) (k := 9) (fun i => rfl) n
  have l5 : ((List.range n).flatMap bgG).length = 5 * n := flat_len (g := bgG) (k := 5) (fun i => rfl) n
  rcases comb (D := D2) (Q := LawN nw (some ⟨gs, os, none⟩) n cap sb m cb w) (F := [(1, iP 6, hLb, false)]) (G := gE2 n) (ok_one (lt_no (.lit 6) dLb2 (by omega))) (fun f hf => by
    rcases List.mem_append.1 hf with hf | hf
    · rcases List.mem_append.1 hf with hf | hf
      · simp only [List.mem_cons, List.not_mem_nil, or_false] at hf
        rcases hf with rfl | rfl
        · exact ⟨_, _, .lit 0, dnw⟩
        · exact ⟨_, _, dnw, .lit 100000⟩
      · obtain ⟨i, hi, hf⟩ := List.mem_flatMap.1 hf
        have hi := List.mem_range.1 hi
        simp only [scG, List.mem_cons, List.not_mem_nil, or_false] at hf
        rcases hf with rfl | rfl | rfl | rfl | rfl | rfl | rfl | rfl | rfl
        · exact ⟨_, _, .lit 1, dsc i 0 hi (by decide)⟩
        · exact ⟨_, _, dsc i 0 hi (by decide), .lit 20000⟩
        · exact ⟨_, _, .lit 0, dsc i 1 hi (by decide)⟩
        · exact ⟨_, _, dsc i 1 hi (by decide), dsc i 0 hi (by decide)⟩
        · exact ⟨_, _, .lit 0, dsc i 2 hi (by decide)⟩
        · exact ⟨_, _, dsc i 2 hi (by decide), dsc i 0 hi (by decide)⟩
        · exact ⟨_, _, dsc i 2 hi (by decide), dsc i 1 hi (by decide)⟩
        · exact ⟨_, _, .lit 0, dsc i 3 hi (by decide)⟩
        · exact ⟨_, _, dsc i 3 hi (by decide), .lit 100000⟩
    · simp only [List.mem_cons, List.not_mem_nil, or_false] at hf
      subst hf
      exact ⟨_, _, dLb2, .lit (n : Int)⟩) (fun k hk hok => far2 (ot := ot) rfl hN.2 hw (nE2_run _ hN (by
        have : (gE2 n).length = 2 + 9 * n + 1 := by simp [gE2, sysG, l9]; omega
        omega) hok)) with hq | h2
  · exact hq
  have em : (m : Int) = (n : Int) := of_eq (h2 (0, hLb, iP n, true) (List.mem_append.2 (.inr (by simp)))) dLb2 (.lit (n : Int))
  obtain rfl : m = n := by omega
  have hwb := hwb n0
  rw [hb n0]
  have inG : ∀ i, i < m → ∀ f ∈ scG i, f ∈ gE2 m := fun i hi f hf => List.mem_append.2 (.inl (List.mem_append.2 (.inr (List.mem_flatMap.2 ⟨i, List.mem_range.2 hi, hf⟩))))
  have w0 := of_le (h2 (2, iP 0, hNew, true) (by simp [gE2, sysG])) (.lit 0) dnw
  have w1 := of_le (h2 (2, hNew, iP 100000, true) (by simp [gE2, sysG])) dnw (.lit 100000)
  have v0 : ∀ i, i < m → 1 ≤ sc (4 * i + 0) := fun i hi => of_le (h2 (2, iP 1, hSc i 0, true) (inG i hi _ (by simp [scG]))) (.lit 1) (dsc i 0 hi (by decide))
  have v1 : ∀ i, i < m → sc (4 * i + 0) ≤ 20000 := fun i hi => of_le (h2 (2, hSc i 0, iP 20000, true) (inG i hi _ (by simp [scG]))) (dsc i 0 hi (by decide)) (.lit 20000)
  have l0 : ∀ i, i < m → 0 ≤ sc (4 * i + 1) := fun i hi => of_le (h2 (2, iP 0, hSc i 1, true) (inG i hi _ (by simp [scG]))) (.lit 0) (dsc i 1 hi (by decide))
  have l1 : ∀ i, i < m → sc (4 * i + 1) ≤ sc (4 * i + 0) := fun i hi => of_le (h2 (2, hSc i 1, hSc i 0, true) (inG i hi _ (by simp [scG]))) (dsc i 1 hi (by decide)) (dsc i 0 hi (by decide))
  have h0 : ∀ i, i < m → 0 ≤ sc (4 * i + 2) := fun i hi => of_le (h2 (2, iP 0, hSc i 2, true) (inG i hi _ (by simp [scG]))) (.lit 0) (dsc i 2 hi (by decide))
  have h1' : ∀ i, i < m → sc (4 * i + 2) ≤ sc (4 * i + 0) := fun i hi => of_le (h2 (2, hSc i 2, hSc i 0, true) (inG i hi _ (by simp [scG]))) (dsc i 2 hi (by decide)) (dsc i 0 hi (by decide))
  have lh : ∀ i, i < m → sc (4 * i + 1) ≤ sc (4 * i + 2) := fun i hi => of_nlt (h2 (1, hSc i 2, hSc i 1, false) (inG i hi _ (by simp [scG]))) (dsc i 2 hi (by decide)) (dsc i 1 hi (by decide))
  have s0 : ∀ i, i < m → 0 ≤ sc (4 * i + 3) := fun i hi => of_le (h2 (2, iP 0, hSc i 3, true) (inG i hi _ (by simp [scG]))) (.lit 0) (dsc i 3 hi (by decide))
  have s1 : ∀ i, i < m → sc (4 * i + 3) ≤ 100000 := fun i hi => of_le (h2 (2, hSc i 3, iP 100000, true) (inG i hi _ (by simp [scG]))) (dsc i 3 hi (by decide)) (.lit 100000)
  have eS : ∀ {i j : Nat}, i < m → j < 4 → Dv (DSy nw sc bg ot) (hSc i j) (sc (4 * i + j)) := fun hi hj => dSc (by omega) hj
  have eB : ∀ {i j : Nat}, i < m → j < 2 → Dv (DSy nw sc bg ot) (hBg i j) (bg (2 * i + j)) := fun hi hj => dBg (by omega) hj
  have okG : ∀ f ∈ sysG m, OkF (DSy nw sc bg ot) f := ok_app (fun f hf => by
      simp only [List.mem_cons, List.not_mem_nil, or_false] at hf
      rcases hf with rfl | rfl
      · exact le_yes (.lit 0) dNew w0
      · exact le_yes dNew (.lit 100000) w1) (fun f hf => by
      obtain ⟨i, hi, hf⟩ := List.mem_flatMap.1 hf
      have hi := List.mem_range.1 hi
      simp only [scG, List.mem_cons, List.not_mem_nil, or_false] at hf
      rcases hf with rfl | rfl | rfl | rfl | rfl | rfl | rfl | rfl | rfl
      · exact le_yes (.lit 1) (eS hi (by decide)) (v0 i hi)
      · exact le_yes (eS hi (by decide)) (.lit 20000) (v1 i hi)
      · exact le_yes (.lit 0) (eS hi (by decide)) (l0 i hi)
      · exact le_yes (eS hi (by decide)) (eS hi (by decide)) (l1 i hi)
      · exact le_yes (.lit 0) (eS hi (by decide)) (h0 i hi)
      · exact le_yes (eS hi (by decide)) (eS hi (by decide)) (h1' i hi)
      · exact lt_no (eS hi (by decide)) (eS hi (by decide)) (Int.not_lt.2 (lh i hi))
      · exact le_yes (.lit 0) (eS hi (by decide)) (s0 i hi)
      · exact le_yes (eS hi (by decide)) (.lit 100000) (s1 i hi))
  rcases comb (D := DSy nw sc bg ot) (Q := LawN nw (some ⟨gs, os, none⟩) m cap (some ⟨gb, ob, none⟩) m cb w) (F := sysG m) (G := gE3 m) okG (fun f hf => by
    obtain ⟨i, hi, hf⟩ := List.mem_flatMap.1 hf
    have hi := List.mem_range.1 hi
    simp only [bgG, List.mem_cons, List.not_mem_nil, or_false] at hf
    rcases hf with rfl | rfl | rfl | rfl | rfl
    · exact ⟨_, _, .lit 0, eB hi (by decide)⟩
    · exact ⟨_, _, eB hi (by decide), .lit 100000⟩
    · exact ⟨_, _, .lit 0, eB hi (by decide)⟩
    · exact ⟨_, _, eB hi (by decide), .lit 100000⟩
    · exact ⟨_, _, eB hi (by decide), eB hi (by decide)⟩) (fun k hk hok => near hN.2 hw hwb (ok_spE rfl) (nE3_run _ hN (by
      have : (gE3 m).length = 5 * m := l5
      omega) hok)) with hq | h3
  · exact hq
  have inB : ∀ i, i < m → ∀ f ∈ bgG i, f ∈ gE3 m := fun i hi f hf => List.mem_flatMap.2 ⟨i, List.mem_range.2 hi, hf⟩
  exact now_right ⟨hN.1, hN.2, w0, w1, v0, v1, l0, l1, h0, h1', lh, s0, s1,
    fun i hi => of_le (h3 (2, iP 0, hBg i 0, true) (inB i hi _ (by simp [bgG]))) (.lit 0) (eB hi (by decide)),
    fun i hi => of_le (h3 (2, hBg i 0, iP 100000, true) (inB i hi _ (by simp [bgG]))) (eB hi (by decide)) (.lit 100000),
    fun i hi => of_le (h3 (2, iP 0, hBg i 1, true) (inB i hi _ (by simp [bgG]))) (.lit 0) (eB hi (by decide)),
    fun i hi => of_le (h3 (2, hBg i 1, iP 100000, true) (inB i hi _ (by simp [bgG]))) (eB hi (by decide)) (.lit 100000),
    fun i hi => of_nlt (h3 (1, hBg i 1, hBg i 0, false) (inB i hi _ (by simp [bgG]))) (eB hi (by decide)) (eB hi (by decide))⟩ hw hwb
end Sy
end Go.Proofs.YtdejmleboflopaaGreat
