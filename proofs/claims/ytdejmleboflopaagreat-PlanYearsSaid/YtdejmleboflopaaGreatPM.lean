/- What is wrong with a system: the program and the reference say the same. -/
import Derived.Test.YtdejmleboflopaaGreatPH
import Derived.Test.YtdejmleboflopaaGreatPL
set_option linter.unusedVariables false
set_option linter.unusedSimpArgs false
namespace Go.Proofs.YtdejmleboflopaaGreat
open Go.RowKit
namespace Sy
open Go.RowKit

section
variable (hole : Nat → Value) {N i k : Nat} (hN : 1 ≤ N ∧ N ≤ 4)
include hN
theorem cs_good (ok) : fstO (evDS (pgS hole (sysE N) ok) spCk 2000 60 (.fn 62) ([sysW N]) (hpE N) 1) = some (.tuple #[iP (0), iP 0]) := by
  obtain rfl | rfl | rfl | rfl : N = 1 ∨ N = 2 ∨ N = 3 ∨ N = 4 := by omega
  · exact csOk1 hole ok
  · exact csOk2 hole ok
  · exact csOk3 hole ok
  · exact csOk4 hole ok
theorem se_good (ok) : fstO (evDS (pgS hole (sysG N) ok) spNone 2000 60 (.fn 13) ([sysW N]) (hpE N) 1) = some (iP 0) := by
  obtain rfl | rfl | rfl | rfl : N = 1 ∨ N = 2 ∨ N = 3 ∨ N = 4 := by omega
  · exact seOk1 hole ok
  · exact seOk2 hole ok
  · exact seOk3 hole ok
  · exact seOk4 hole ok
theorem cs_bad (hk : k < 1 + N) (ok) : fstO (evDS (pgS hole (eE [] (sysE N) k) ok) spCk 2000 60 (.fn 62) ([sysW N]) (hpE N) 1) = some (.tuple #[iP (csI k), csT k]) := by
  obtain rfl | rfl | rfl | rfl : N = 1 ∨ N = 2 ∨ N = 3 ∨ N = 4 := by omega
  · obtain rfl | rfl : k = 0 ∨ k = 1 := by omega
    · exact cs1_0 hole ok
    · exact cs1_1 hole ok
  · obtain rfl | rfl | rfl : k = 0 ∨ k = 1 ∨ k = 2 := by omega
    · exact cs2_0 hole ok
    · exact cs2_1 hole ok
    · exact cs2_2 hole ok
  · obtain rfl | rfl | rfl | rfl : k = 0 ∨ k = 1 ∨ k = 2 ∨ k = 3 := by omega
    · exact cs3_0 hole ok
    · exact cs3_1 hole ok
    · exact cs3_2 hole ok
    · exact cs3_3 hole ok
  · obtain rfl | rfl | rfl | rfl | rfl : k = 0 ∨ k = 1 ∨ k = 2 ∨ k = 3 ∨ k = 4 := by omega
    · exact cs4_0 hole ok
    · exact cs4_1 hole ok
    · exact cs4_2 hole ok
    · exact cs4_3 hole ok
    · exact cs4_4 hole ok
theorem sh_bad (hk : k < 2) (ok) : fstO (evDS (pgS hole (eE [] hdG k) ok) spNone 2000 60 (.fn 13) ([sysW N]) (hpE N) 1) = some (iP 2) := by
  obtain rfl | rfl | rfl | rfl : N = 1 ∨ N = 2 ∨ N = 3 ∨ N = 4 := by omega
  · obtain rfl | rfl : k = 0 ∨ k = 1 := by omega
    · exact sh1_0 hole ok
    · exact sh1_1 hole ok
  · obtain rfl | rfl : k = 0 ∨ k = 1 := by omega
    · exact sh2_0 hole ok
    · exact sh2_1 hole ok
  · obtain rfl | rfl : k = 0 ∨ k = 1 := by omega
    · exact sh3_0 hole ok
    · exact sh3_1 hole ok
  · obtain rfl | rfl : k = 0 ∨ k = 1 := by omega
    · exact sh4_0 hole ok
    · exact sh4_1 hole ok
theorem se_bad (hi : i < N) (hk : k < 9) (ok) : fstO (evDS (pgS hole (eE (sysP i) (scG i) k) ok) spNone 2000 60 (.fn 13) ([sysW N]) (hpE N) 1) = some (iP (csC k)) := by
  obtain rfl | rfl | rfl | rfl : N = 1 ∨ N = 2 ∨ N = 3 ∨ N = 4 := by omega
  · obtain rfl : i = 0 := by omega
    · obtain rfl | rfl | rfl | rfl | rfl | rfl | rfl | rfl | rfl : k = 0 ∨ k = 1 ∨ k = 2 ∨ k = 3 ∨ k = 4 ∨ k = 5 ∨ k = 6 ∨ k = 7 ∨ k = 8 := by omega
      · exact se1_0_0 hole ok
      · exact se1_0_1 hole ok
      · exact se1_0_2 hole ok
      · exact se1_0_3 hole ok
      · exact se1_0_4 hole ok
      · exact se1_0_5 hole ok
      · exact se1_0_6 hole ok
      · exact se1_0_7 hole ok
      · exact se1_0_8 hole ok
  · obtain rfl | rfl : i = 0 ∨ i = 1 := by omega
    · obtain rfl | rfl | rfl | rfl | rfl | rfl | rfl | rfl | rfl : k = 0 ∨ k = 1 ∨ k = 2 ∨ k = 3 ∨ k = 4 ∨ k = 5 ∨ k = 6 ∨ k = 7 ∨ k = 8 := by omega
      · exact se2_0_0 hole ok
      · exact se2_0_1 hole ok
      · exact se2_0_2 hole ok
      · exact se2_0_3 hole ok
      · exact se2_0_4 hole ok
      · exact se2_0_5 hole ok
      · exact se2_0_6 hole ok
      · exact se2_0_7 hole ok
      · exact se2_0_8 hole ok
    · obtain rfl | rfl | rfl | rfl | rfl | rfl | rfl | rfl | rfl : k = 0 ∨ k = 1 ∨ k = 2 ∨ k = 3 ∨ k = 4 ∨ k = 5 ∨ k = 6 ∨ k = 7 ∨ k = 8 := by omega
      · exact se2_1_0 hole ok
      · exact se2_1_1 hole ok
      · exact se2_1_2 hole ok
      · exact se2_1_3 hole ok
      · exact se2_1_4 hole ok
      · exact se2_1_5 hole ok
      · exact se2_1_6 hole ok
      · exact se2_1_7 hole ok
      · exact se2_1_8 hole ok
  · obtain rfl | rfl | rfl : i = 0 ∨ i = 1 ∨ i = 2 := by omega
    · obtain rfl | rfl | rfl | rfl | rfl | rfl | rfl | rfl | rfl : k = 0 ∨ k = 1 ∨ k = 2 ∨ k = 3 ∨ k = 4 ∨ k = 5 ∨ k = 6 ∨ k = 7 ∨ k = 8 := by omega
      · exact se3_0_0 hole ok
      · exact se3_0_1 hole ok
      · exact se3_0_2 hole ok
      · exact se3_0_3 hole ok
      · exact se3_0_4 hole ok
      · exact se3_0_5 hole ok
      · exact se3_0_6 hole ok
      · exact se3_0_7 hole ok
      · exact se3_0_8 hole ok
    · obtain rfl | rfl | rfl | rfl | rfl | rfl | rfl | rfl | rfl : k = 0 ∨ k = 1 ∨ k = 2 ∨ k = 3 ∨ k = 4 ∨ k = 5 ∨ k = 6 ∨ k = 7 ∨ k = 8 := by omega
      · exact se3_1_0 hole ok
      · exact se3_1_1 hole ok
      · exact se3_1_2 hole ok
      · exact se3_1_3 hole ok
      · exact se3_1_4 hole ok
      · exact se3_1_5 hole ok
      · exact se3_1_6 hole ok
      · exact se3_1_7 hole ok
      · exact se3_1_8 hole ok
    · obtain rfl | rfl | rfl | rfl | rfl | rfl | rfl | rfl | rfl : k = 0 ∨ k = 1 ∨ k = 2 ∨ k = 3 ∨ k = 4 ∨ k = 5 ∨ k = 6 ∨ k = 7 ∨ k = 8 := by omega
      · exact se3_2_0 hole ok
      · exact se3_2_1 hole ok
      · exact se3_2_2 hole ok
      · exact se3_2_3 hole ok
      · exact se3_2_4 hole ok
      · exact se3_2_5 hole ok
      · exact se3_2_6 hole ok
      · exact se3_2_7 hole ok
      · exact se3_2_8 hole ok
  · obtain rfl | rfl | rfl | rfl : i = 0 ∨ i = 1 ∨ i = 2 ∨ i = 3 := by omega
    · obtain rfl | rfl | rfl | rfl | rfl | rfl | rfl | rfl | rfl : k = 0 ∨ k = 1 ∨ k = 2 ∨ k = 3 ∨ k = 4 ∨ k = 5 ∨ k = 6 ∨ k = 7 ∨ k = 8 := by omega
      · exact se4_0_0 hole ok
      · exact se4_0_1 hole ok
      · exact se4_0_2 hole ok
      · exact se4_0_3 hole ok
      · exact se4_0_4 hole ok
      · exact se4_0_5 hole ok
      · exact se4_0_6 hole ok
      · exact se4_0_7 hole ok
      · exact se4_0_8 hole ok
    · obtain rfl | rfl | rfl | rfl | rfl | rfl | rfl | rfl | rfl : k = 0 ∨ k = 1 ∨ k = 2 ∨ k = 3 ∨ k = 4 ∨ k = 5 ∨ k = 6 ∨ k = 7 ∨ k = 8 := by omega
      · exact se4_1_0 hole ok
      · exact se4_1_1 hole ok
      · exact se4_1_2 hole ok
      · exact se4_1_3 hole ok
      · exact se4_1_4 hole ok
      · exact se4_1_5 hole ok
      · exact se4_1_6 hole ok
      · exact se4_1_7 hole ok
      · exact se4_1_8 hole ok
    · obtain rfl | rfl | rfl | rfl | rfl | rfl | rfl | rfl | rfl : k = 0 ∨ k = 1 ∨ k = 2 ∨ k = 3 ∨ k = 4 ∨ k = 5 ∨ k = 6 ∨ k = 7 ∨ k = 8 := by omega
      · exact se4_2_0 hole ok
      · exact se4_2_1 hole ok
      · exact se4_2_2 hole ok
      · exact se4_2_3 hole ok
      · exact se4_2_4 hole ok
      · exact se4_2_5 hole ok
      · exact se4_2_6 hole ok
      · exact se4_2_7 hole ok
      · exact se4_2_8 hole ok
    · obtain rfl | rfl | rfl | rfl | rfl | rfl | rfl | rfl | rfl : k = 0 ∨ k = 1 ∨ k = 2 ∨ k = 3 ∨ k = 4 ∨ k = 5 ∨ k = 6 ∨ k = 7 ∨ k = 8 := by omega
      · exact se4_3_0 hole ok
      · exact se4_3_1 hole ok
      · exact se4_3_2 hole ok
      · exact se4_3_3 hole ok
      · exact se4_3_4 hole ok
      · exact se4_3_5 hole ok
      · exact se4_3_6 hole ok
      · exact se4_3_7 hole ok
      · exact se4_3_8 hole ok
end
/-- a system is right -/
structure SysR (nw : Int) (sc : Nat → Int) (N : Nat) : Prop where
  n1 : 1 ≤ N
  n4 : N ≤ 4
  w0 : 0 ≤ nw
  w1 : nw ≤ 100000
  v0 : ∀ i, i < N → 1 ≤ sc (4 * i + 0)
  v1 : ∀ i, i < N → sc (4 * i + 0) ≤ 20000
  l0 : ∀ i, i < N → 0 ≤ sc (4 * i + 1)
  l1 : ∀ i, i < N → sc (4 * i + 1) ≤ sc (4 * i + 0)
  h0 : ∀ i, i < N → 0 ≤ sc (4 * i + 2)
  h1 : ∀ i, i < N → sc (4 * i + 2) ≤ sc (4 * i + 0)
  lh : ∀ i, i < N → sc (4 * i + 1) ≤ sc (4 * i + 2)
  s0 : ∀ i, i < N → 0 ≤ sc (4 * i + 3)
  s1 : ∀ i, i < N → sc (4 * i + 3) ≤ 100000
/-- the error of a scale -/
def scV (sc : Nat → Int) (i : Nat) : Int := firstL [numE (sc (4 * i + 0)) 1 20000, rangeE (sc (4 * i + 1)) (sc (4 * i + 2)) (sc (4 * i + 0)), numE (sc (4 * i + 3)) 0 100000]
def hdV (nw a b : Int) : Int := firstL [a, b, numE nw 0 100000]
theorem numE_if (n lo hi : Int) : numE n lo hi = if lo ≤ n ∧ n ≤ hi then 0 else 2 := by
  unfold numE inB
  by_cases a : lo ≤ n <;> by_cases b : n ≤ hi <;> simp [a, b]
theorem rangeE_if (lo hi m : Int) : rangeE lo hi m = if 0 ≤ lo ∧ lo ≤ m ∧ 0 ≤ hi ∧ hi ≤ m then (if hi < lo then 9 else 0) else 2 := by
  unfold rangeE inB
  by_cases a : 0 ≤ lo <;> by_cases b : lo ≤ m <;> by_cases c : 0 ≤ hi <;> by_cases d : hi ≤ m <;> simp [a, b, c, d]
theorem firstL_if (a b c : Int) : firstL [a, b, c] = if a = 0 then (if b = 0 then c else b) else a := by
  simp only [firstL]
  by_cases h1 : a = 0 <;> by_cases h2 : b = 0 <;> by_cases h3 : c = 0 <;> simp [h1, h2, h3]
theorem scV_if (sc : Nat → Int) (i : Nat) : scV sc i = if ¬ (1 ≤ sc (4 * i + 0) ∧ sc (4 * i + 0) ≤ 20000) then 2 else if ¬ (0 ≤ sc (4 * i + 1) ∧ sc (4 * i + 1) ≤ sc (4 * i + 0) ∧ 0 ≤ sc (4 * i + 2) ∧ sc (4 * i + 2) ≤ sc (4 * i + 0)) then 2 else if sc (4 * i + 2) < sc (4 * i + 1) then 9 else if 0 ≤ sc (4 * i + 3) ∧ sc (4 * i + 3) ≤ 100000 then 0 else 2 := by
  unfold scV
  rw [firstL_if, numE_if, rangeE_if, numE_if]
  generalize sc (4 * i + 0) = V
  generalize sc (4 * i + 1) = lo
  generalize sc (4 * i + 2) = hi
  generalize sc (4 * i + 3) = ls
  by_cases a : 1 ≤ V ∧ V ≤ 20000 <;> by_cases b : 0 ≤ lo ∧ lo ≤ V ∧ 0 ≤ hi ∧ hi ≤ V <;> by_cases c : hi < lo <;> simp [a, b, c]
theorem of_nle {D : Dn} {a b : Value} {x y : Int} (h : OkF D (2, a, b, false)) (ha : Dv D a x) (hb : Dv D b y) : y < x := by
  obtain ⟨x', y', p, q, e⟩ := h
  have := ha.unique _ p
  have := hb.unique _ q
  subst_vars
  have := of_decide_eq_false e
  omega
theorem of_lt {D : Dn} {a b : Value} {x y : Int} (h : OkF D (1, a, b, true)) (ha : Dv D a x) (hb : Dv D b y) : x < y := by
  obtain ⟨x', y', p, q, e⟩ := h
  have := ha.unique _ p
  have := hb.unique _ q
  subst_vars
  exact of_decide_eq_true e
theorem lit_of {P : Pg} {prog : Program} {f : Nat} {args' : Array Value} {w : World} {v : Value} (ha : flat v = true) (h : Calls prog f args' w fun e w' => ∃ M' v', e = .returned v' ∧ VRel P M' v v' ∧ Below w.heap.size w w') : Calls prog f args' w fun e w' => e = .returned v ∧ Below w.heap.size w w' :=
  Calls.mono h (by rintro e w' ⟨M', v', rfl, hv, hb⟩; exact ⟨by rw [flat_eq ha hv], hb⟩)
theorem pair_of {P : Pg} {prog : Program} {f : Nat} {args' : Array Value} {w : World} {a y : Int} {t : Value} (ht : Dv P.den t y) (h : Calls prog f args' w fun e w' => ∃ M' v', e = .returned v' ∧ VRel P M' (.tuple #[iP a, t]) v' ∧ Below w.heap.size w w') : Calls prog f args' w fun e w' => e = .returned (.tuple #[iP a, iP y]) ∧ Below w.heap.size w w' :=
  Calls.mono h (by
    rintro e w' ⟨M', v', rfl, hv, hb⟩
    refine ⟨?_, hb⟩
    cases hv with
    | @tup _ a' hsz hel =>
      have hL : LRel P M' [iP a, t] a'.toList := lrel_arr.2 ⟨hsz, hel⟩
      obtain ⟨v0, p0, s0⟩ := hL.get (i := 0) rfl
      obtain ⟨v1, p1, s1⟩ := hL.get (i := 1) rfl
      have hla : a'.toList.length = 2 := by rw [← hL.1]; rfl
      have ha' : a' = #[v0, v1] := by
        apply Array.ext'
        match he : a'.toList, hla with
        | [z0, z1], _ => rw [he] at p0 p1; simp at p0 p1; rw [p0, p1]
      subst ha'
      obtain ⟨z, rfl, dz⟩ := vrel_num s1 ht.num
      rw [ht.unique _ dz, flat_eq (v := iP a) rfl s0]
      rfl)
theorem okCk {hole : Nat → Value} {l ok} {f : Nat} (h : f = f) : CallOk (pgS hole l ok) spCk := ok_spCk rfl rfl
abbrev RawC (P : Pg) (f : Nat) (args' : Array Value) (w : World) (v : Value) : Prop := Calls Tryz.prog f args' w fun e w' => ∃ M' v', e = .returned v' ∧ VRel P M' v v' ∧ Below w.heap.size w w'
abbrev holeO (nw : Int) (sa : Option Addr) (n cap : Nat) : Nat → Value := holeQ (.slice sa n cap) (.slice none 0 0) nw (fun _ => 0) (fun _ => 0) (fun k => if k = 41 then (n : Int) else 0)
theorem dO {nw : Int} {sa : Option Addr} {n cap : Nat} : Dv (DP (holeO nw sa n cap)) hLs n := dQ (v := .slice sa n cap) (n := 41) (by decide) (by decide)
theorem dOw {nw : Int} {sa : Option Addr} {n cap : Nat} : Dv (DP (holeO nw sa n cap)) hNew nw := dQ (v := .slice sa n cap) (n := 0) (by decide) (by decide)
/-- a system whose scales are not looked into -/
theorem sysO {f : Nat} {nw : Int} {sa : Option Addr} {n cap : Nat} {w : World} {l : List Fact} {v : Value} (hl : ∀ f ∈ l, OkF (DP (holeO nw sa n cap)) f) {sp : CallF} (hsp : CallOk (pgS (holeO nw sa n cap) l hl) sp)
    (hrun : fstO (evDS (pgS (holeO nw sa n cap) l hl) sp 2000 60 (.fn f) argE .leaf 0) = some v) : RawC (pgS (holeO nw sa n cap) l hl) f #[.agg #[.slice sa n cap, .int .i64 nw]] w v :=
  run_ro (P := pgS (holeO nw sa n cap) l hl) (M := fun _ => none) rfl (by kernel_rfl) hsp hrun (args' := #[.agg #[.slice sa n cap, .int .i64 nw]])
    (LRel.cons (LRel.agg (LRel.cons (.hsl (k := 40) rfl dO) (LRel.cons (Dv.vrel (P := pgS (holeO nw sa n cap) l hl) dOw) (LRel.nil _)))) (LRel.nil _))
    ⟨fun id o e => (by rw [T.get_leaf] at e; cases e), fun i j b r r' hi => by rw [T.get_leaf] at hi; cases hi⟩ (fun id => by rw [T.get_leaf]; rfl) (fun id _ => rfl)
theorem hpE_ro {N : Nat} (id : Nat) : wrt ((hpE N).get id) = false := by
  cases e : (hpE N).get id with
  | none => rfl
  | some o => obtain ⟨_, rfl⟩ := hpE_get id o e; rfl
abbrev holeN (nw : Int) (sc : Nat → Int) : Nat → Value := holeS nw sc (fun _ => 0) (fun _ => 0)
/-- a system of up to four scales -/
theorem sysN {f : Nat} {nw : Int} {sc : Nat → Int} {gs os N cap : Nat} {w : World} {l : List Fact} {v : Value} (h4 : N ≤ 4) (hw : WinP gs os (4 * N) sc w) (hl : ∀ f ∈ l, OkF (DP (holeN nw sc)) f) {sp : CallF} (hsp : CallOk (pgS (holeN nw sc) l hl) sp)
    (hrun : fstO (evDS (pgS (holeN nw sc) l hl) sp 2000 60 (.fn f) [sysW N] (hpE N) 1) = some v) : RawC (pgS (holeN nw sc) l hl) f #[.agg #[.slice (some ⟨gs, os, none⟩) N cap, .int .i64 nw]] w v :=
  run_ro (P := pgS (holeN nw sc) l hl) (M := fun id => if id = 0 then some (gs, os) else none) rfl (by kernel_rfl) hsp hrun (args' := #[.agg #[.slice (some ⟨gs, os, none⟩) N cap, .int .i64 nw]])
    (LRel.cons (LRel.agg (LRel.cons (.osl rfl (.lit (N : Int))) (LRel.cons (Dv.vrel (P := pgS (holeN nw sc) l hl) dNew) (LRel.nil _)))) (LRel.nil _))
    ⟨fun id o e => (by
      obtain ⟨rfl, rfl⟩ := hpE_get id o e
      obtain ⟨ob1, k1, k2⟩ := winP_obj (P := pgS (holeN nw sc) l hl) (M := fun id => if id = 0 then some (gs, os) else none) (row := rowS N) (by simp [rowS]) (fun i v hv => rowS_dv h4 i v hv) hw (fun _ => trivial)
      exact ⟨gs, os, ob1, rfl, Nat.zero_le _, k1, k2⟩), fun i j b r r' hi => by rw [hpE_ro i] at hi; cases hi⟩ (fun id => hpE_ro id) (fun id hid => if_neg (by omega))
abbrev SysAns (nw : Int) (sc : Nat → Int) (n : Nat) (k e : Int) : Prop := ∀ {sa : Option Addr} {gs os cap : Nat} {w : World}, (0 < n → sa = some ⟨gs, os, none⟩) → (0 < n → WinP gs os (4 * n) sc w) →
    (Calls Tryz.prog 62 #[.agg #[.slice sa n cap, .int .i64 nw]] w fun r w' => r = .returned (.tuple #[iP k, iP e]) ∧ Below w.heap.size w w') ∧
    (Calls Tryz.prog 13 #[.agg #[.slice sa n cap, .int .i64 nw]] w fun r w' => r = .returned (iP e) ∧ Below w.heap.size w w')
theorem dHd {D : Dn} (hi : D.int = intP) {nw a b : Int} (h : Dv D hNew nw) : Dv D (hdT a b) (hdV nw a b) := by
  have : D.int 104 [a, b, D.int 103 [nw, 0, 100000]] = hdV nw a b := by rw [hi]; rfl
  rw [← this]
  exact app3P (by decide) (.lit a) (.lit b) (app3P (by decide) h (.lit 0) (.lit 100000))
theorem hdV_if (nw a b : Int) : hdV nw a b = if a = 0 then (if b = 0 then (if 0 ≤ nw ∧ nw ≤ 100000 then 0 else 2) else b) else a := by
  unfold hdV
  rw [firstL_if, numE_if]
theorem dScT {nw : Int} {sc : Nat → Int} {i : Nat} (h : i < 4) : Dv (DP (holeN nw sc)) (scT i) (scV sc i) := by
  have d : ∀ j, j < 4 → Dv (DP (holeN nw sc)) (hSc i j) (sc (4 * i + j)) := fun j hj => dSc h hj
  exact app3P (D := DP (holeN nw sc)) (t := 104) (by decide) (app3P (t := 103) (by decide) (d 0 (by decide)) (.lit 1) (.lit 20000)) (app3P (t := 113) (by decide) (d 1 (by decide)) (d 2 (by decide)) (d 0 (by decide))) (app3P (t := 103) (by decide) (d 3 (by decide)) (.lit 0) (.lit 100000))
abbrev SysQ (nw : Int) (sc : Nat → Int) (n : Nat) : Prop := ∃ k e : Int, (SysR nw sc n ∧ k = 0 ∧ e = 0 ∨ 0 < e ∧ e < 40) ∧ SysAns nw sc n k e
theorem sys_none (nw : Int) (sc : Nat → Int) : SysQ nw sc 0 := by
  refine ⟨0, 10, .inr ⟨by decide, by decide⟩, fun {sa gs os cap w} _ _ => ?_⟩
  have e : hdV nw 10 0 = 10 := by rw [hdV_if]; rfl
  have dh : Dv (DP (holeO nw sa 0 cap)) (hdT 10 0) 10 := by have := dHd (a := 10) (b := 0) (D := DP (holeO nw sa 0 cap)) rfl dOw; rwa [e] at this
  have hl : ∀ f ∈ gNo, OkF (DP (holeO nw sa 0 cap)) f := fun f hf => by
    have d1 : Dv (DP (holeO nw sa 0 cap)) hLs (0 : Nat) := dO
    simp only [gNo, List.mem_cons, List.not_mem_nil, or_false] at hf
    rcases hf with rfl | rfl | rfl | rfl
    · exact eq_yes d1 (.lit 0) rfl
    · exact lt_no (.lit 0) d1 (by decide)
    · exact le_yes d1 (.lit 4) (by decide)
    · exact eq_no dh (.lit 0) (by decide)
  exact ⟨pair_of (P := pgS (holeO nw sa 0 cap) gNo hl) dh (sysO hl (ok_spCk rfl rfl) (csNo _ hl)), lit_of rfl (sysO hl ok_spNone (seNo _ hl))⟩
theorem sys_many (nw : Int) (sc : Nat → Int) {n : Nat} (h : 4 < n) : SysQ nw sc n := by
  refine ⟨0, 8, .inr ⟨by decide, by decide⟩, fun {sa gs os cap w} _ _ => ?_⟩
  have e : hdV nw 0 8 = 8 := by rw [hdV_if]; rfl
  have dh : Dv (DP (holeO nw sa n cap)) (hdT 0 8) 8 := by have := dHd (a := 0) (b := 8) (D := DP (holeO nw sa n cap)) rfl dOw; rwa [e] at this
  have hl : ∀ f ∈ gMany, OkF (DP (holeO nw sa n cap)) f := fun f hf => by
    have d1 : Dv (DP (holeO nw sa n cap)) hLs n := dO
    simp only [gMany, List.mem_cons, List.not_mem_nil, or_false] at hf
    rcases hf with rfl | rfl | rfl | rfl | rfl
    · exact eq_no d1 (.lit 0) (by omega)
    · exact lt_yes (.lit 0) d1 (by omega)
    · exact lt_yes (.lit 4) d1 (by omega)
    · exact le_no d1 (.lit 4) (by omega)
    · exact eq_no dh (.lit 0) (by decide)
  exact ⟨pair_of (P := pgS (holeO nw sa n cap) gMany hl) dh (sysO hl (ok_spCk rfl rfl) (csMany _ hl)), lit_of rfl (sysO hl ok_spNone (seMany _ hl))⟩
/-- a scale that is wrong: the reference's answer -/
theorem scale_bad {nw : Int} {sc : Nat → Int} {i : Nat} (i4 : i < 4) (hp : ∀ f ∈ sysP i, OkF (DP (holeN nw sc)) f) (hz : scV sc i ≠ 0) : ∃ j, j < 9 ∧ (∀ f ∈ eE (sysP i) (scG i) j, OkF (DP (holeN nw sc)) f) ∧ scV sc i = csC j := by
  have dsc : ∀ a j, a < 4 → j < 4 → Dv (DP (holeN nw sc)) (hSc a j) (sc (4 * a + j)) := fun a j h1 h2 => dSc h1 h2
  have hi := i4
  rcases comb (D := DP (holeN nw sc)) (Q := ∃ j, j < 9 ∧ (∀ f ∈ eE (sysP i) (scG i) j, OkF (DP (holeN nw sc)) f) ∧ scV sc i = csC j) (F := sysP i) (G := scG i) hp (fun f hf => by
      simp only [scG, List.mem_cons, List.not_mem_nil, or_false] at hf
      rcases hf with rfl | rfl | rfl | rfl | rfl | rfl | rfl | rfl | rfl
      · exact ⟨_, _, .lit 1, (dsc i 0 hi (by decide))⟩
      · exact ⟨_, _, (dsc i 0 hi (by decide)), .lit 20000⟩
      · exact ⟨_, _, .lit 0, (dsc i 1 hi (by decide))⟩
      · exact ⟨_, _, (dsc i 1 hi (by decide)), (dsc i 0 hi (by decide))⟩
      · exact ⟨_, _, .lit 0, (dsc i 2 hi (by decide))⟩
      · exact ⟨_, _, (dsc i 2 hi (by decide)), (dsc i 0 hi (by decide))⟩
      · exact ⟨_, _, (dsc i 2 hi (by decide)), (dsc i 1 hi (by decide))⟩
      · exact ⟨_, _, .lit 0, (dsc i 3 hi (by decide))⟩
      · exact ⟨_, _, (dsc i 3 hi (by decide)), .lit 100000⟩) (fun j hj hok => by
      refine ⟨j, hj, hok, ?_⟩
      have hj : j < 9 := hj
      obtain rfl | rfl | rfl | rfl | rfl | rfl | rfl | rfl | rfl : j = 0 ∨ j = 1 ∨ j = 2 ∨ j = 3 ∨ j = 4 ∨ j = 5 ∨ j = 6 ∨ j = 7 ∨ j = 8 := by omega
      · have n0 := of_nle (hok (2, iP 1, hSc i 0, false) (by simp [eE, scG, negF])) (.lit 1) (dsc i 0 hi (by decide))
        rw [scV_if]
        show _ = (2 : Int)
        repeat' split
        all_goals omega
      · have c0 := of_le (hok (2, iP 1, hSc i 0, true) (by simp [eE, scG])) (.lit 1) (dsc i 0 hi (by decide))
        have n1 := of_nle (hok (2, hSc i 0, iP 20000, false) (by simp [eE, scG, negF])) (dsc i 0 hi (by decide)) (.lit 20000)
        rw [scV_if]
        show _ = (2 : Int)
        repeat' split
        all_goals omega
      · have c0 := of_le (hok (2, iP 1, hSc i 0, true) (by simp [eE, scG])) (.lit 1) (dsc i 0 hi (by decide))
        have c1 := of_le (hok (2, hSc i 0, iP 20000, true) (by simp [eE, scG])) (dsc i 0 hi (by decide)) (.lit 20000)
        have n2 := of_nle (hok (2, iP 0, hSc i 1, false) (by simp [eE, scG, negF])) (.lit 0) (dsc i 1 hi (by decide))
        rw [scV_if]
        show _ = (2 : Int)
        repeat' split
        all_goals omega
      · have c0 := of_le (hok (2, iP 1, hSc i 0, true) (by simp [eE, scG])) (.lit 1) (dsc i 0 hi (by decide))
        have c1 := of_le (hok (2, hSc i 0, iP 20000, true) (by simp [eE, scG])) (dsc i 0 hi (by decide)) (.lit 20000)
        have c2 := of_le (hok (2, iP 0, hSc i 1, true) (by simp [eE, scG])) (.lit 0) (dsc i 1 hi (by decide))
        have n3 := of_nle (hok (2, hSc i 1, hSc i 0, false) (by simp [eE, scG, negF])) (dsc i 1 hi (by decide)) (dsc i 0 hi (by decide))
        rw [scV_if]
        show _ = (2 : Int)
        repeat' split
        all_goals omega
      · have c0 := of_le (hok (2, iP 1, hSc i 0, true) (by simp [eE, scG])) (.lit 1) (dsc i 0 hi (by decide))
        have c1 := of_le (hok (2, hSc i 0, iP 20000, true) (by simp [eE, scG])) (dsc i 0 hi (by decide)) (.lit 20000)
        have c2 := of_le (hok (2, iP 0, hSc i 1, true) (by simp [eE, scG])) (.lit 0) (dsc i 1 hi (by decide))
        have c3 := of_le (hok (2, hSc i 1, hSc i 0, true) (by simp [eE, scG])) (dsc i 1 hi (by decide)) (dsc i 0 hi (by decide))
        have n4 := of_nle (hok (2, iP 0, hSc i 2, false) (by simp [eE, scG, negF])) (.lit 0) (dsc i 2 hi (by decide))
        rw [scV_if]
        show _ = (2 : Int)
        repeat' split
        all_goals omega
      · have c0 := of_le (hok (2, iP 1, hSc i 0, true) (by simp [eE, scG])) (.lit 1) (dsc i 0 hi (by decide))
        have c1 := of_le (hok (2, hSc i 0, iP 20000, true) (by simp [eE, scG])) (dsc i 0 hi (by decide)) (.lit 20000)
        have c2 := of_le (hok (2, iP 0, hSc i 1, true) (by simp [eE, scG])) (.lit 0) (dsc i 1 hi (by decide))
        have c3 := of_le (hok (2, hSc i 1, hSc i 0, true) (by simp [eE, scG])) (dsc i 1 hi (by decide)) (dsc i 0 hi (by decide))
        have c4 := of_le (hok (2, iP 0, hSc i 2, true) (by simp [eE, scG])) (.lit 0) (dsc i 2 hi (by decide))
        have n5 := of_nle (hok (2, hSc i 2, hSc i 0, false) (by simp [eE, scG, negF])) (dsc i 2 hi (by decide)) (dsc i 0 hi (by decide))
        rw [scV_if]
        show _ = (2 : Int)
        repeat' split
        all_goals omega
      · have c0 := of_le (hok (2, iP 1, hSc i 0, true) (by simp [eE, scG])) (.lit 1) (dsc i 0 hi (by decide))
        have c1 := of_le (hok (2, hSc i 0, iP 20000, true) (by simp [eE, scG])) (dsc i 0 hi (by decide)) (.lit 20000)
        have c2 := of_le (hok (2, iP 0, hSc i 1, true) (by simp [eE, scG])) (.lit 0) (dsc i 1 hi (by decide))
        have c3 := of_le (hok (2, hSc i 1, hSc i 0, true) (by simp [eE, scG])) (dsc i 1 hi (by decide)) (dsc i 0 hi (by decide))
        have c4 := of_le (hok (2, iP 0, hSc i 2, true) (by simp [eE, scG])) (.lit 0) (dsc i 2 hi (by decide))
        have c5 := of_le (hok (2, hSc i 2, hSc i 0, true) (by simp [eE, scG])) (dsc i 2 hi (by decide)) (dsc i 0 hi (by decide))
        have n6 := of_lt (hok (1, hSc i 2, hSc i 1, true) (by simp [eE, scG, negF])) (dsc i 2 hi (by decide)) (dsc i 1 hi (by decide))
        rw [scV_if]
        show _ = (9 : Int)
        repeat' split
        all_goals omega
      · have c0 := of_le (hok (2, iP 1, hSc i 0, true) (by simp [eE, scG])) (.lit 1) (dsc i 0 hi (by decide))
        have c1 := of_le (hok (2, hSc i 0, iP 20000, true) (by simp [eE, scG])) (dsc i 0 hi (by decide)) (.lit 20000)
        have c2 := of_le (hok (2, iP 0, hSc i 1, true) (by simp [eE, scG])) (.lit 0) (dsc i 1 hi (by decide))
        have c3 := of_le (hok (2, hSc i 1, hSc i 0, true) (by simp [eE, scG])) (dsc i 1 hi (by decide)) (dsc i 0 hi (by decide))
        have c4 := of_le (hok (2, iP 0, hSc i 2, true) (by simp [eE, scG])) (.lit 0) (dsc i 2 hi (by decide))
        have c5 := of_le (hok (2, hSc i 2, hSc i 0, true) (by simp [eE, scG])) (dsc i 2 hi (by decide)) (dsc i 0 hi (by decide))
        have c6 := of_nlt (hok (1, hSc i 2, hSc i 1, false) (by simp [eE, scG])) (dsc i 2 hi (by decide)) (dsc i 1 hi (by decide))
        have n7 := of_nle (hok (2, iP 0, hSc i 3, false) (by simp [eE, scG, negF])) (.lit 0) (dsc i 3 hi (by decide))
        rw [scV_if]
        show _ = (2 : Int)
        repeat' split
        all_goals omega
      · have c0 := of_le (hok (2, iP 1, hSc i 0, true) (by simp [eE, scG])) (.lit 1) (dsc i 0 hi (by decide))
        have c1 := of_le (hok (2, hSc i 0, iP 20000, true) (by simp [eE, scG])) (dsc i 0 hi (by decide)) (.lit 20000)
        have c2 := of_le (hok (2, iP 0, hSc i 1, true) (by simp [eE, scG])) (.lit 0) (dsc i 1 hi (by decide))
        have c3 := of_le (hok (2, hSc i 1, hSc i 0, true) (by simp [eE, scG])) (dsc i 1 hi (by decide)) (dsc i 0 hi (by decide))
        have c4 := of_le (hok (2, iP 0, hSc i 2, true) (by simp [eE, scG])) (.lit 0) (dsc i 2 hi (by decide))
        have c5 := of_le (hok (2, hSc i 2, hSc i 0, true) (by simp [eE, scG])) (dsc i 2 hi (by decide)) (dsc i 0 hi (by decide))
        have c6 := of_nlt (hok (1, hSc i 2, hSc i 1, false) (by simp [eE, scG])) (dsc i 2 hi (by decide)) (dsc i 1 hi (by decide))
        have c7 := of_le (hok (2, iP 0, hSc i 3, true) (by simp [eE, scG])) (.lit 0) (dsc i 3 hi (by decide))
        have n8 := of_nle (hok (2, hSc i 3, iP 100000, false) (by simp [eE, scG, negF])) (dsc i 3 hi (by decide)) (.lit 100000)
        rw [scV_if]
        show _ = (2 : Int)
        repeat' split
        all_goals omega
      ) with hq | hok
  · exact hq
  · exact absurd (by
      have c0 := of_le (hok (2, iP 1, hSc i 0, true) (by simp [scG])) (.lit 1) (dsc i 0 hi (by decide))
      have c1 := of_le (hok (2, hSc i 0, iP 20000, true) (by simp [scG])) (dsc i 0 hi (by decide)) (.lit 20000)
      have c2 := of_le (hok (2, iP 0, hSc i 1, true) (by simp [scG])) (.lit 0) (dsc i 1 hi (by decide))
      have c3 := of_le (hok (2, hSc i 1, hSc i 0, true) (by simp [scG])) (dsc i 1 hi (by decide)) (dsc i 0 hi (by decide))
      have c4 := of_le (hok (2, iP 0, hSc i 2, true) (by simp [scG])) (.lit 0) (dsc i 2 hi (by decide))
      have c5 := of_le (hok (2, hSc i 2, hSc i 0, true) (by simp [scG])) (dsc i 2 hi (by decide)) (dsc i 0 hi (by decide))
      have c6 := of_nlt (hok (1, hSc i 2, hSc i 1, false) (by simp [scG])) (dsc i 2 hi (by decide)) (dsc i 1 hi (by decide))
      have c7 := of_le (hok (2, iP 0, hSc i 3, true) (by simp [scG])) (.lit 0) (dsc i 3 hi (by decide))
      have c8 := of_le (hok (2, hSc i 3, iP 100000, true) (by simp [scG])) (dsc i 3 hi (by decide)) (.lit 100000)
      rw [scV_if]
      repeat' split
      all_goals omega) hz
theorem sc_zero {sc : Nat → Int} {i : Nat} (h : scV sc i = 0) : (1 ≤ sc (4 * i + 0) ∧ sc (4 * i + 0) ≤ 20000) ∧ (0 ≤ sc (4 * i + 1) ∧ sc (4 * i + 1) ≤ sc (4 * i + 0) ∧ 0 ≤ sc (4 * i + 2) ∧ sc (4 * i + 2) ≤ sc (4 * i + 0)) ∧ sc (4 * i + 1) ≤ sc (4 * i + 2) ∧ 0 ≤ sc (4 * i + 3) ∧ sc (4 * i + 3) ≤ 100000 := by
  rw [scV_if] at h
  revert h
  repeat' split
  all_goals (intro hz; first | omega | exact absurd hz (by decide))
theorem okScG {nw : Int} {sc : Nat → Int} {i : Nat} (hi : i < 4) (hz : scV sc i = 0) : ∀ f ∈ scG i, OkF (DP (holeN nw sc)) f := by
  have dsc : ∀ a j, a < 4 → j < 4 → Dv (DP (holeN nw sc)) (hSc a j) (sc (4 * a + j)) := fun a j h1 h2 => dSc h1 h2
  obtain ⟨⟨a1, a2⟩, ⟨a3, a4, a5, a6⟩, a7, a8, a9⟩ := sc_zero hz
  intro f hf
  simp only [scG, List.mem_cons, List.not_mem_nil, or_false] at hf
  rcases hf with rfl | rfl | rfl | rfl | rfl | rfl | rfl | rfl | rfl
  · exact le_yes (.lit 1) (dsc i 0 hi (by decide)) (by omega)
  · exact le_yes (dsc i 0 hi (by decide)) (.lit 20000) (by omega)
  · exact le_yes (.lit 0) (dsc i 1 hi (by decide)) (by omega)
  · exact le_yes (dsc i 1 hi (by decide)) (dsc i 0 hi (by decide)) (by omega)
  · exact le_yes (.lit 0) (dsc i 2 hi (by decide)) (by omega)
  · exact le_yes (dsc i 2 hi (by decide)) (dsc i 0 hi (by decide)) (by omega)
  · exact lt_no (dsc i 2 hi (by decide)) (dsc i 1 hi (by decide)) (by omega)
  · exact le_yes (.lit 0) (dsc i 3 hi (by decide)) (by omega)
  · exact le_yes (dsc i 3 hi (by decide)) (.lit 100000) (by omega)
theorem okHdG {nw : Int} {sc : Nat → Int} (h : 0 ≤ nw ∧ nw ≤ 100000) : ∀ f ∈ hdG, OkF (DP (holeN nw sc)) f := fun f hf => by
  simp only [hdG, List.mem_cons, List.not_mem_nil, or_false] at hf
  rcases hf with rfl | rfl
  · exact le_yes (.lit 0) dNew h.1
  · exact le_yes dNew (.lit 100000) h.2
theorem okSysP {nw : Int} {sc : Nat → Int} {n : Nat} (h4 : n ≤ 4) (h : 0 ≤ nw ∧ nw ≤ 100000) (hz : ∀ i, i < n → scV sc i = 0) : ∀ f ∈ sysP n, OkF (DP (holeN nw sc)) f :=
  ok_app (okHdG h) (fun f hf => by
    obtain ⟨i, hi, hf⟩ := List.mem_flatMap.1 hf
    have hi := List.mem_range.1 hi
    exact okScG (by omega) (hz i hi) f hf)
theorem sysR_of {nw : Int} {sc : Nat → Int} {n : Nat} (hN : 1 ≤ n ∧ n ≤ 4) (h : 0 ≤ nw ∧ nw ≤ 100000) (hz : ∀ i, i < n → scV sc i = 0) : SysR nw sc n := by
  have hz := fun i hi => sc_zero (hz i hi)
  exact ⟨hN.1, hN.2, h.1, h.2, fun i hi => (hz i hi).1.1, fun i hi => (hz i hi).1.2, fun i hi => (hz i hi).2.1.1, fun i hi => (hz i hi).2.1.2.1, fun i hi => (hz i hi).2.1.2.2.1, fun i hi => (hz i hi).2.1.2.2.2, fun i hi => (hz i hi).2.2.1, fun i hi => (hz i hi).2.2.2.1, fun i hi => (hz i hi).2.2.2.2⟩
/-- what is wrong with a system -/
theorem sys_err (nw : Int) (sc : Nat → Int) (n : Nat) : SysQ nw sc n := by
  by_cases z0 : n = 0
  · subst z0; exact sys_none nw sc
  by_cases z4 : 4 < n
  · exact sys_many nw sc z4
  have hN : 1 ≤ n ∧ n ≤ 4 := ⟨by omega, by omega⟩
  have dT : ∀ i, i < n → Dv (DP (holeN nw sc)) (scT i) (scV sc i) := fun i hi => dScT (by omega)
  have dH : Dv (DP (holeN nw sc)) (hdT 0 0) (hdV nw 0 0) := dHd rfl dNew
  rcases comb (D := DP (holeN nw sc)) (Q := SysQ nw sc n) (F := []) (G := sysE n) (fun f h => by simp at h) (fun f hf => by
    rcases List.mem_cons.1 hf with rfl | hf
    · exact ⟨_, _, dH, .lit 0⟩
    · obtain ⟨i, hi, rfl⟩ := List.mem_map.1 hf
      exact ⟨_, _, dT i (List.mem_range.1 hi), .lit 0⟩) (fun k hk hok => by
    have hk : k < 1 + n := by simpa [sysE, Nat.add_comm] using hk
    match k, hk, hok with
    | 0, hk, hok =>
      have hz : hdV nw 0 0 ≠ 0 := of_ne (hok (0, hdT 0 0, iP 0, false) (by simp [eE, sysE, negF])) dH (.lit 0)
      have e : hdV nw 0 0 = 2 := by
        revert hz
        rw [hdV_if]
        repeat' split
        all_goals (intro hz; first | rfl | exact absurd rfl hz)
      have hnw : ¬ (0 ≤ nw ∧ nw ≤ 100000) := fun h => by rw [hdV_if, if_pos rfl, if_pos rfl, if_pos h] at e; cases e
      rw [e] at dH
      refine ⟨0, 2, .inr ⟨by decide, by decide⟩, fun {sa gs os cap w} ha hw => ?_⟩
      rw [ha hN.1]
      refine ⟨pair_of (P := pgS (holeN nw sc) (eE [] (sysE n) 0) hok) dH (sysN hN.2 (hw hN.1) hok (ok_spCk rfl rfl) (cs_bad _ hN hk hok)), ?_⟩
      by_cases h0 : 0 ≤ nw
      · have hl : ∀ f ∈ eE [] hdG 1, OkF (DP (holeN nw sc)) f := fun f hf => by
          simp only [eE, hdG, negF, List.take, List.getD, List.nil_append, List.cons_append, List.mem_cons, List.not_mem_nil, or_false] at hf
          rcases hf with rfl | rfl
          · exact le_yes (.lit 0) dNew h0
          · exact le_no dNew (.lit 100000) (by omega)
        exact lit_of rfl (sysN hN.2 (hw hN.1) hl ok_spNone (sh_bad _ hN (by decide) hl))
      · have hl : ∀ f ∈ eE [] hdG 0, OkF (DP (holeN nw sc)) f := fun f hf => by
          simp only [eE, hdG, negF, List.take, List.getD, List.nil_append, List.cons_append, List.mem_cons, List.not_mem_nil, or_false] at hf
          subst hf
          exact le_no (.lit 0) dNew h0
        exact lit_of rfl (sysN hN.2 (hw hN.1) hl ok_spNone (sh_bad _ hN (by decide) hl))
    | i + 1, hk, hok =>
      have hi : i < n := by omega
      have hh : hdV nw 0 0 = 0 := of_eq (hok (0, hdT 0 0, iP 0, true) (by simp [eE, sysE])) dH (.lit 0)
      have hnw : 0 ≤ nw ∧ nw ≤ 100000 := by
        rw [hdV_if, if_pos rfl, if_pos rfl] at hh
        revert hh
        split
        · intro _; assumption
        · intro h; exact absurd h (by decide)
      have hs : ∀ j, j < i → scV sc j = 0 := fun j hj => of_eq (hok (0, scT j, iP 0, true) (List.mem_append.2 (.inr (List.mem_append.2 (.inl (by
        rw [sysE, List.take_succ_cons, ← List.map_take, List.take_range]
        exact List.mem_cons_of_mem _ (List.mem_map.2 ⟨j, List.mem_range.2 (by omega), rfl⟩))))))) (dT j (by omega)) (.lit 0)
      have hz : scV sc i ≠ 0 := of_ne (hok (0, scT i, iP 0, false) (List.mem_append.2 (.inr (List.mem_append.2 (.inr (by simp [sysE, negF, hi])))))) (dT i hi) (.lit 0)
      obtain ⟨j, hj, hl, e⟩ := scale_bad (nw := nw) (by omega) (okSysP (by omega) hnw hs) hz
      have dt := dT i hi
      rw [e] at dt
      refine ⟨i, csC j, .inr (by unfold csC; split <;> exact ⟨by decide, by decide⟩), fun {sa gs os cap w} ha hw => ?_⟩
      rw [ha hN.1]
      exact ⟨pair_of (P := pgS (holeN nw sc) (eE [] (sysE n) (i + 1)) hok) dt (sysN hN.2 (hw hN.1) hok (ok_spCk rfl rfl) (cs_bad _ hN hk hok)), lit_of rfl (sysN hN.2 (hw hN.1) hl ok_spNone (se_bad _ hN hi hj hl))⟩) with hq | hok
  · exact hq
  have hh : hdV nw 0 0 = 0 := of_eq (hok (0, hdT 0 0, iP 0, true) (by simp [sysE])) dH (.lit 0)
  have hnw : 0 ≤ nw ∧ nw ≤ 100000 := by
    rw [hdV_if, if_pos rfl, if_pos rfl] at hh
    revert hh
    split
    · intro _; assumption
    · intro h; exact absurd h (by decide)
  have hs : ∀ j, j < n → scV sc j = 0 := fun j hj => of_eq (hok (0, scT j, iP 0, true) (List.mem_cons_of_mem _ (List.mem_map.2 ⟨j, List.mem_range.2 hj, rfl⟩))) (dT j hj) (.lit 0)
  refine ⟨0, 0, .inl ⟨sysR_of hN hnw hs, rfl, rfl⟩, fun {sa gs os cap w} ha hw => ?_⟩
  rw [ha hN.1]
  have hl : ∀ f ∈ sysG n, OkF (DP (holeN nw sc)) f := okSysP hN.2 hnw hs
  exact ⟨pair_of (P := pgS (holeN nw sc) (sysE n) hok) (.lit 0) (sysN hN.2 (hw hN.1) hok (ok_spCk rfl rfl) (cs_good _ hN hok)), lit_of rfl (sysN hN.2 (hw hN.1) hl ok_spNone (se_good _ hN hl))⟩
end Sy
end Go.Proofs.YtdejmleboflopaaGreat
