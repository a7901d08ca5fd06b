/- The reference's DrawsErr. -/
import Derived.Test.YtdejmleboflopaaGreatPR
import Derived.Test.YtdejmleboflopaaGreatPO
set_option linter.unusedVariables false
set_option linter.unusedSimpArgs false
namespace Go.Proofs.YtdejmleboflopaaGreat
open Go.RowKit
namespace Sy
open Go.RowKit

/-- the draws -/
def hDw (k : Nat) : Value := hP (50 + k)
def rowD (K : Nat) : List Value := (List.range K).map hDw
def hpD (K : Nat) : T AObj := .node .leaf (some (.win (rowD K))) .leaf
def dwW (K : Nat) : Value := .iface 91 (.tuple #[iP 0, iP K])
def dwG (k : Nat) : List Fact := [(2, iP 0, hDw k, true), (2, hDw k, iP 20000, true)]
def dwE (K : Nat) : List Fact := (List.range K).flatMap dwG
def dwNo : List Fact := [(1, iP 30, hLb, false), (1, iP 0, hLb, false)]
def dwMany : List Fact := [(1, iP 30, hLb, true)]
section
variable (hole : Nat → Value)
theorem deNo (ok) : fstO (evDS (pgS hole (dwNo) ok) spNone 2000 60 (.fn 16) ([begH]) (.leaf) 0) = some (iP 0) := by kernel_rfl
theorem deMany (ok) : fstO (evDS (pgS hole (dwMany) ok) spNone 2000 60 (.fn 16) ([begH]) (.leaf) 0) = some (iP 8) := by kernel_rfl
theorem deOk1 (ok) : fstO (evDS (pgS hole (dwE 1) ok) spNone 2000 60 (.fn 16) ([dwW 1]) (hpD 1) 1) = some (iP 0) := by kernel_rfl
theorem de1_0 (ok) : fstO (evDS (pgS hole (eE [] (dwE 1) 0) ok) spNone 2000 60 (.fn 16) ([dwW 1]) (hpD 1) 1) = some (iP 2) := by kernel_rfl
theorem de1_1 (ok) : fstO (evDS (pgS hole (eE [] (dwE 1) 1) ok) spNone 2000 60 (.fn 16) ([dwW 1]) (hpD 1) 1) = some (iP 2) := by kernel_rfl
theorem deOk2 (ok) : fstO (evDS (pgS hole (dwE 2) ok) spNone 2000 60 (.fn 16) ([dwW 2]) (hpD 2) 1) = some (iP 0) := by kernel_rfl
theorem de2_0 (ok) : fstO (evDS (pgS hole (eE [] (dwE 2) 0) ok) spNone 2000 60 (.fn 16) ([dwW 2]) (hpD 2) 1) = some (iP 2) := by kernel_rfl
theorem de2_1 (ok) : fstO (evDS (pgS hole (eE [] (dwE 2) 1) ok) spNone 2000 60 (.fn 16) ([dwW 2]) (hpD 2) 1) = some (iP 2) := by kernel_rfl
theorem de2_2 (ok) : fstO (evDS (pgS hole (eE [] (dwE 2) 2) ok) spNone 2000 60 (.fn 16) ([dwW 2]) (hpD 2) 1) = some (iP 2) := by kernel_rfl
theorem de2_3 (ok) : fstO (evDS (pgS hole (eE [] (dwE 2) 3) ok) spNone 2000 60 (.fn 16) ([dwW 2]) (hpD 2) 1) = some (iP 2) := by kernel_rfl
theorem deOk3 (ok) : fstO (evDS (pgS hole (dwE 3) ok) spNone 2000 60 (.fn 16) ([dwW 3]) (hpD 3) 1) = some (iP 0) := by kernel_rfl
theorem de3_0 (ok) : fstO (evDS (pgS hole (eE [] (dwE 3) 0) ok) spNone 2000 60 (.fn 16) ([dwW 3]) (hpD 3) 1) = some (iP 2) := by kernel_rfl
theorem de3_1 (ok) : fstO (evDS (pgS hole (eE [] (dwE 3) 1) ok) spNone 2000 60 (.fn 16) ([dwW 3]) (hpD 3) 1) = some (iP 2) := by kernel_rfl
theorem de3_2 (ok) : fstO (evDS (pgS hole (eE [] (dwE 3) 2) ok) spNone 2000 60 (.fn 16) ([dwW 3]) (hpD 3) 1) = some (iP 2) := by kernel_rfl
theorem de3_3 (ok) : fstO (evDS (pgS hole (eE [] (dwE 3) 3) ok) spNone 2000 60 (.fn 16) ([dwW 3]) (hpD 3) 1) = some (iP 2) := by kernel_rfl
theorem de3_4 (ok) : fstO (evDS (pgS hole (eE [] (dwE 3) 4) ok) spNone 2000 60 (.fn 16) ([dwW 3]) (hpD 3) 1) = some (iP 2) := by kernel_rfl
theorem de3_5 (ok) : fstO (evDS (pgS hole (eE [] (dwE 3) 5) ok) spNone 2000 60 (.fn 16) ([dwW 3]) (hpD 3) 1) = some (iP 2) := by kernel_rfl
theorem deOk4 (ok) : fstO (evDS (pgS hole (dwE 4) ok) spNone 2000 60 (.fn 16) ([dwW 4]) (hpD 4) 1) = some (iP 0) := by kernel_rfl
theorem de4_0 (ok) : fstO (evDS (pgS hole (eE [] (dwE 4) 0) ok) spNone 2000 60 (.fn 16) ([dwW 4]) (hpD 4) 1) = some (iP 2) := by kernel_rfl
theorem de4_1 (ok) : fstO (evDS (pgS hole (eE [] (dwE 4) 1) ok) spNone 2000 60 (.fn 16) ([dwW 4]) (hpD 4) 1) = some (iP 2) := by kernel_rfl
theorem de4_2 (ok) : fstO (evDS (pgS hole (eE [] (dwE 4) 2) ok) spNone 2000 60 (.fn 16) ([dwW 4]) (hpD 4) 1) = some (iP 2) := by kernel_rfl
theorem de4_3 (ok) : fstO (evDS (pgS hole (eE [] (dwE 4) 3) ok) spNone 2000 60 (.fn 16) ([dwW 4]) (hpD 4) 1) = some (iP 2) := by kernel_rfl
theorem de4_4 (ok) : fstO (evDS (pgS hole (eE [] (dwE 4) 4) ok) spNone 2000 60 (.fn 16) ([dwW 4]) (hpD 4) 1) = some (iP 2) := by kernel_rfl
theorem de4_5 (ok) : fstO (evDS (pgS hole (eE [] (dwE 4) 5) ok) spNone 2000 60 (.fn 16) ([dwW 4]) (hpD 4) 1) = some (iP 2) := by kernel_rfl
theorem de4_6 (ok) : fstO (evDS (pgS hole (eE [] (dwE 4) 6) ok) spNone 2000 60 (.fn 16) ([dwW 4]) (hpD 4) 1) = some (iP 2) := by kernel_rfl
theorem de4_7 (ok) : fstO (evDS (pgS hole (eE [] (dwE 4) 7) ok) spNone 2000 60 (.fn 16) ([dwW 4]) (hpD 4) 1) = some (iP 2) := by kernel_rfl
theorem deOk5 (ok) : fstO (evDS (pgS hole (dwE 5) ok) spNone 2000 60 (.fn 16) ([dwW 5]) (hpD 5) 1) = some (iP 0) := by kernel_rfl
theorem de5_0 (ok) : fstO (evDS (pgS hole (eE [] (dwE 5) 0) ok) spNone 2000 60 (.fn 16) ([dwW 5]) (hpD 5) 1) = some (iP 2) := by kernel_rfl
theorem de5_1 (ok) : fstO (evDS (pgS hole (eE [] (dwE 5) 1) ok) spNone 2000 60 (.fn 16) ([dwW 5]) (hpD 5) 1) = some (iP 2) := by kernel_rfl
theorem de5_2 (ok) : fstO (evDS (pgS hole (eE [] (dwE 5) 2) ok) spNone 2000 60 (.fn 16) ([dwW 5]) (hpD 5) 1) = some (iP 2) := by kernel_rfl
theorem de5_3 (ok) : fstO (evDS (pgS hole (eE [] (dwE 5) 3) ok) spNone 2000 60 (.fn 16) ([dwW 5]) (hpD 5) 1) = some (iP 2) := by kernel_rfl
theorem de5_4 (ok) : fstO (evDS (pgS hole (eE [] (dwE 5) 4) ok) spNone 2000 60 (.fn 16) ([dwW 5]) (hpD 5) 1) = some (iP 2) := by kernel_rfl
theorem de5_5 (ok) : fstO (evDS (pgS hole (eE [] (dwE 5) 5) ok) spNone 2000 60 (.fn 16) ([dwW 5]) (hpD 5) 1) = some (iP 2) := by kernel_rfl
theorem de5_6 (ok) : fstO (evDS (pgS hole (eE [] (dwE 5) 6) ok) spNone 2000 60 (.fn 16) ([dwW 5]) (hpD 5) 1) = some (iP 2) := by kernel_rfl
theorem de5_7 (ok) : fstO (evDS (pgS hole (eE [] (dwE 5) 7) ok) spNone 2000 60 (.fn 16) ([dwW 5]) (hpD 5) 1) = some (iP 2) := by kernel_rfl
theorem de5_8 (ok) : fstO (evDS (pgS hole (eE [] (dwE 5) 8) ok) spNone 2000 60 (.fn 16) ([dwW 5]) (hpD 5) 1) = some (iP 2) := by kernel_rfl
theorem de5_9 (ok) : fstO (evDS (pgS hole (eE [] (dwE 5) 9) ok) spNone 2000 60 (.fn 16) ([dwW 5]) (hpD 5) 1) = some (iP 2) := by kernel_rfl
theorem deOk6 (ok) : fstO (evDS (pgS hole (dwE 6) ok) spNone 2000 60 (.fn 16) ([dwW 6]) (hpD 6) 1) = some (iP 0) := by kernel_rfl
theorem de6_0 (ok) : fstO (evDS (pgS hole (eE [] (dwE 6) 0) ok) spNone 2000 60 (.fn 16) ([dwW 6]) (hpD 6) 1) = some (iP 2) := by kernel_rfl
theorem de6_1 (ok) : fstO (evDS (pgS hole (eE [] (dwE 6) 1) ok) spNone 2000 60 (.fn 16) ([dwW 6]) (hpD 6) 1) = some (iP 2) := by kernel_rfl
theorem de6_2 (ok) : fstO (evDS (pgS hole (eE [] (dwE 6) 2) ok) spNone 2000 60 (.fn 16) ([dwW 6]) (hpD 6) 1) = some (iP 2) := by kernel_rfl
theorem de6_3 (ok) : fstO (evDS (pgS hole (eE [] (dwE 6) 3) ok) spNone 2000 60 (.fn 16) ([dwW 6]) (hpD 6) 1) = some (iP 2) := by kernel_rfl
theorem de6_4 (ok) : fstO (evDS (pgS hole (eE [] (dwE 6) 4) ok) spNone 2000 60 (.fn 16) ([dwW 6]) (hpD 6) 1) = some (iP 2) := by kernel_rfl
theorem de6_5 (ok) : fstO (evDS (pgS hole (eE [] (dwE 6) 5) ok) spNone 2000 60 (.fn 16) ([dwW 6]) (hpD 6) 1) = some (iP 2) := by kernel_rfl
theorem de6_6 (ok) : fstO (evDS (pgS hole (eE [] (dwE 6) 6) ok) spNone 2000 60 (.fn 16) ([dwW 6]) (hpD 6) 1) = some (iP 2) := by kernel_rfl
theorem de6_7 (ok) : fstO (evDS (pgS hole (eE [] (dwE 6) 7) ok) spNone 2000 60 (.fn 16) ([dwW 6]) (hpD 6) 1) = some (iP 2) := by kernel_rfl
theorem de6_8 (ok) : fstO (evDS (pgS hole (eE [] (dwE 6) 8) ok) spNone 2000 60 (.fn 16) ([dwW 6]) (hpD 6) 1) = some (iP 2) := by kernel_rfl
theorem de6_9 (ok) : fstO (evDS (pgS hole (eE [] (dwE 6) 9) ok) spNone 2000 60 (.fn 16) ([dwW 6]) (hpD 6) 1) = some (iP 2) := by kernel_rfl
theorem de6_10 (ok) : fstO (evDS (pgS hole (eE [] (dwE 6) 10) ok) spNone 2000 60 (.fn 16) ([dwW 6]) (hpD 6) 1) = some (iP 2) := by kernel_rfl
theorem de6_11 (ok) : fstO (evDS (pgS hole (eE [] (dwE 6) 11) ok) spNone 2000 60 (.fn 16) ([dwW 6]) (hpD 6) 1) = some (iP 2) := by kernel_rfl
variable {K j : Nat} (hK : 1 ≤ K ∧ K ≤ 6)
include hK
theorem de_good (ok) : fstO (evDS (pgS hole (dwE K) ok) spNone 2000 60 (.fn 16) ([dwW K]) (hpD K) 1) = some (iP 0) := by
  obtain rfl | rfl | rfl | rfl | rfl | rfl : K = 1 ∨ K = 2 ∨ K = 3 ∨ K = 4 ∨ K = 5 ∨ K = 6 := by omega
  · exact deOk1 hole ok
  · exact deOk2 hole ok
  · exact deOk3 hole ok
  · exact deOk4 hole ok
  · exact deOk5 hole ok
  · exact deOk6 hole ok
theorem de_bad (hj : j < 2 * K) (ok) : fstO (evDS (pgS hole (eE [] (dwE K) j) ok) spNone 2000 60 (.fn 16) ([dwW K]) (hpD K) 1) = some (iP 2) := by
  obtain rfl | rfl | rfl | rfl | rfl | rfl : K = 1 ∨ K = 2 ∨ K = 3 ∨ K = 4 ∨ K = 5 ∨ K = 6 := by omega
  · obtain rfl | rfl : j = 0 ∨ j = 1 := by omega
    · exact de1_0 hole ok
    · exact de1_1 hole ok
  · obtain rfl | rfl | rfl | rfl : j = 0 ∨ j = 1 ∨ j = 2 ∨ j = 3 := by omega
    · exact de2_0 hole ok
    · exact de2_1 hole ok
    · exact de2_2 hole ok
    · exact de2_3 hole ok
  · obtain rfl | rfl | rfl | rfl | rfl | rfl : j = 0 ∨ j = 1 ∨ j = 2 ∨ j = 3 ∨ j = 4 ∨ j = 5 := by omega
    · exact de3_0 hole ok
    · exact de3_1 hole ok
    · exact de3_2 hole ok
    · exact de3_3 hole ok
    · exact de3_4 hole ok
    · exact de3_5 hole ok
  · obtain rfl | rfl | rfl | rfl | rfl | rfl | rfl | rfl : j = 0 ∨ j = 1 ∨ j = 2 ∨ j = 3 ∨ j = 4 ∨ j = 5 ∨ j = 6 ∨ j = 7 := by omega
    · exact de4_0 hole ok
    · exact de4_1 hole ok
    · exact de4_2 hole ok
    · exact de4_3 hole ok
    · exact de4_4 hole ok
    · exact de4_5 hole ok
    · exact de4_6 hole ok
    · exact de4_7 hole ok
  · obtain rfl | rfl | rfl | rfl | rfl | rfl | rfl | rfl | rfl | rfl : j = 0 ∨ j = 1 ∨ j = 2 ∨ j = 3 ∨ j = 4 ∨ j = 5 ∨ j = 6 ∨ j = 7 ∨ j = 8 ∨ j = 9 := by omega
    · exact de5_0 hole ok
    · exact de5_1 hole ok
    · exact de5_2 hole ok
    · exact de5_3 hole ok
    · exact de5_4 hole ok
    · exact de5_5 hole ok
    · exact de5_6 hole ok
    · exact de5_7 hole ok
    · exact de5_8 hole ok
    · exact de5_9 hole ok
  · obtain rfl | rfl | rfl | rfl | rfl | rfl | rfl | rfl | rfl | rfl | rfl | rfl : j = 0 ∨ j = 1 ∨ j = 2 ∨ j = 3 ∨ j = 4 ∨ j = 5 ∨ j = 6 ∨ j = 7 ∨ j = 8 ∨ j = 9 ∨ j = 10 ∨ j = 11 := by omega
    · exact de6_0 hole ok
    · exact de6_1 hole ok
    · exact de6_2 hole ok
    · exact de6_3 hole ok
    · exact de6_4 hole ok
    · exact de6_5 hole ok
    · exact de6_6 hole ok
    · exact de6_7 hole ok
    · exact de6_8 hole ok
    · exact de6_9 hole ok
    · exact de6_10 hole ok
    · exact de6_11 hole ok
end
theorem eaF_zero {E : Nat → Int} : ∀ (m k : Nat), (∀ i, k ≤ i → i < k + m → E i = 0) → (eaF E m k).2 = 0
  | 0, _, _ => rfl
  | m + 1, k, h => by
    unfold eaF
    rw [if_pos (h k (Nat.le_refl _) (by omega))]
    exact eaF_zero m (k + 1) (fun i h1 h2 => h i (by omega) (by omega))
theorem eaF_bad {E : Nat → Int} (h2 : ∀ i, E i = 0 ∨ E i = 2) : ∀ (m k i : Nat), k ≤ i → i < k + m → E i ≠ 0 → (eaF E m k).2 = 2
  | 0, k, i, h, h', _ => by omega
  | m + 1, k, i, h, h', hn => by
    unfold eaF
    by_cases hz : E k = 0
    · rw [if_pos hz]
      exact eaF_bad h2 m (k + 1) i (by rcases Nat.lt_or_ge k i with h3 | h3; exact h3; exact absurd hz (by rwa [show k = i by omega])) (by omega) hn
    · rw [if_neg hz]
      rcases h2 k with h3 | h3
      · exact absurd h3 hz
      · exact h3
theorem nusE_zero {g : Nat → Int} {n : Nat} (h : ∀ k, k < n → 0 ≤ g k ∧ g k ≤ 20000) : nusE g 0 20000 n = 0 := eaF_zero n 0 (fun i _ hi => by rw [numE_if, if_pos (h i (by omega))])
theorem nusE_bad {g : Nat → Int} {n k : Nat} (hk : k < n) (h : ¬ (0 ≤ g k ∧ g k ≤ 20000)) : nusE g 0 20000 n = 2 := eaF_bad (fun i => by rw [numE_if]; split; exact .inl rfl; exact .inr rfl) n 0 k (Nat.zero_le _) (by omega) (by rw [numE_if, if_neg h]; decide)
theorem nusE_right {g : Nat → Int} {n : Nat} (h : nusE g 0 20000 n = 0) : ∀ k, k < n → 0 ≤ g k ∧ g k ≤ 20000 := fun k hk => by
  by_cases c : 0 ≤ g k ∧ g k ≤ 20000
  · exact c
  · rw [nusE_bad hk c] at h; cases h
def otW (g : Nat → Int) (k : Nat) : Int := if 50 ≤ k then g (k - 50) else 0
abbrev holeD (g : Nat → Int) : Nat → Value := holeS 0 (fun _ => 0) (fun _ => 0) (otW g)
theorem dDw {g : Nat → Int} {k : Nat} : Dv (DP (holeD g)) (hDw k) (g k) := by
  have : Dv (DP (holeD g)) (hP (50 + k)) (otW g (50 + k)) := dOt (ot := otW g) (n := 50 + k) (by omega)
  unfold otW at this
  rwa [if_pos (by omega), show 50 + k - 50 = k by omega] at this
theorem hpD_get {K : Nat} (id : Nat) (o : AObj) (h : (hpD K).get id = some o) : id = 0 ∧ o = .win (rowD K) := by
  unfold hpD at h
  rw [T.get_node] at h
  by_cases hi : id = 0
  · subst hi; simp at h; exact ⟨rfl, h.symm⟩
  · simp [hi, T.get_leaf] at h
theorem hpD_ro {K : Nat} (id : Nat) : wrt ((hpD K).get id) = false := by
  cases e : (hpD K).get id with
  | none => rfl
  | some o => obtain ⟨_, rfl⟩ := hpD_get id o e; rfl
theorem dwN {g : Nat → Int} {gx ox K cap : Nat} {w : World} {l : List Fact} {v : Value} (hw : WinP gx ox K g w) (hl : ∀ f ∈ l, OkF (DP (holeD g)) f)
    (hrun : fstO (evDS (pgS (holeD g) l hl) spNone 2000 60 (.fn 16) [dwW K] (hpD K) 1) = some v) (ha : flat v = true) : Calls Tryz.prog 16 #[.slice (some ⟨gx, ox, none⟩) K cap] w fun e w' => e = .returned v ∧ Below w.heap.size w w' :=
  lit_of ha (run_ro (P := pgS (holeD g) l hl) (M := fun id => if id = 0 then some (gx, ox) else none) rfl (by kernel_rfl) ok_spNone hrun (args' := #[.slice (some ⟨gx, ox, none⟩) K cap])
    (LRel.cons (.osl rfl (.lit (K : Int))) (LRel.nil _))
    ⟨fun id o e => (by
      obtain ⟨rfl, rfl⟩ := hpD_get id o e
      obtain ⟨ob1, k1, k2⟩ := winP_obj (P := pgS (holeD g) l hl) (M := fun id => if id = 0 then some (gx, ox) else none) (row := rowD K) (by simp [rowD]) (fun i v hv => (by
        unfold rowD at hv
        rw [List.getElem?_map] at hv
        by_cases hi : i < K
        · rw [List.getElem?_range hi] at hv
          cases hv
          exact dDw
        · rw [List.getElem?_eq_none (by simp; omega)] at hv; cases hv)) hw (fun _ => trivial)
      exact ⟨gx, ox, ob1, rfl, Nat.zero_le _, k1, k2⟩), fun i j b r r' hi => by rw [hpD_ro i] at hi; cases hi⟩ (fun id => hpD_ro id) (fun id hid => if_neg (by omega)))
theorem dwO {sx : Option Addr} {n cap : Nat} {w : World} {l : List Fact} {v : Value} (hl : ∀ f ∈ l, OkF (DP (holeQ (.slice none 0 0) (.slice sx n cap) 0 (fun _ => 0) (fun _ => 0) (fun k => if k = 43 then (n : Int) else 0))) f)
    (hrun : ∀ hole ok, fstO (evDS (pgS hole l ok) spNone 2000 60 (.fn 16) [begH] .leaf 0) = some v) (ha : flat v = true) : Calls Tryz.prog 16 #[.slice sx n cap] w fun e w' => e = .returned v ∧ Below w.heap.size w w' :=
  lit_of ha (run_ro (P := pgS (holeQ (.slice none 0 0) (.slice sx n cap) 0 (fun _ => 0) (fun _ => 0) (fun k => if k = 43 then (n : Int) else 0)) l hl) (M := fun _ => none) rfl (by kernel_rfl) ok_spNone (hrun _ hl) (args' := #[.slice sx n cap])
    (LRel.cons (.hsl (k := 42) rfl (dQ (n := 43) (by decide) (by decide))) (LRel.nil _))
    ⟨fun id o e => (by rw [T.get_leaf] at e; cases e), fun i j b r r' hi => by rw [T.get_leaf] at hi; cases hi⟩ (fun id => by rw [T.get_leaf]; rfl) (fun id _ => rfl))
/-- what is wrong with draws -/
theorem draws_any (g : Nat → Int) {K : Nat} (hK : K ≤ 6) {sx : Option Addr} {gx ox cap : Nat} {w : World} (hs : 0 < K → sx = some ⟨gx, ox, none⟩) (hw : 0 < K → WinP gx ox K g w) :
    Calls Tryz.prog 16 #[.slice sx K cap] w fun e w' => e = .returned (iP (nusE g 0 20000 K)) ∧ Below w.heap.size w w' := by
  by_cases z : K = 0
  · subst z
    have hl : ∀ f ∈ dwNo, OkF (DP (holeQ (.slice none 0 0) (.slice sx 0 cap) 0 (fun _ => 0) (fun _ => 0) (fun k => if k = 43 then ((0 : Nat) : Int) else 0))) f := fun f hf => by
      have d : Dv (DP (holeQ (.slice none 0 0) (.slice sx 0 cap) 0 (fun _ => 0) (fun _ => 0) (fun k => if k = 43 then ((0 : Nat) : Int) else 0))) hLb (0 : Nat) := dQ (n := 43) (by decide) (by decide)
      simp only [dwNo, List.mem_cons, List.not_mem_nil, or_false] at hf
      rcases hf with rfl | rfl
      · exact lt_no (.lit 30) d (by decide)
      · exact lt_no (.lit 0) d (by decide)
    exact dwO hl deNo rfl
  have hN : 1 ≤ K ∧ K ≤ 6 := ⟨by omega, hK⟩
  rw [hs hN.1]
  rcases comb (D := DP (holeD g)) (Q := Calls Tryz.prog 16 #[.slice (some ⟨gx, ox, none⟩) K cap] w fun e w' => e = .returned (iP (nusE g 0 20000 K)) ∧ Below w.heap.size w w') (F := []) (G := dwE K) (fun f h => by simp at h) (fun f hf => by
    obtain ⟨i, hi, hf⟩ := List.mem_flatMap.1 hf
    simp only [dwG, List.mem_cons, List.not_mem_nil, or_false] at hf
    rcases hf with rfl | rfl
    · exact ⟨_, _, .lit 0, dDw⟩
    · exact ⟨_, _, dDw, .lit 20000⟩) (fun j hj hok => by
    have len : (dwE K).length = 2 * K := flat_len (g := dwG) (k := 2) (fun i => rfl) K
    have hj : j < 2 * K := by rw [← len]; exact hj
    have hz : ∃ k, k < K ∧ ¬ (0 ≤ g k ∧ g k ≤ 20000) := by
      have e : negF ((dwE K).getD j f0) ∈ eE [] (dwE K) j := List.mem_append.2 (.inr (List.mem_append.2 (.inr (by simp))))
      have hd : ∃ k, k < K ∧ (dwE K).getD j f0 ∈ dwG k := by
        have hm : (dwE K).getD j f0 ∈ dwE K := by
          rw [List.getD_eq_getElem?_getD, List.getElem?_eq_getElem (by omega)]
          exact List.getElem_mem _
        obtain ⟨k, hk, h⟩ := List.mem_flatMap.1 hm
        exact ⟨k, List.mem_range.1 hk, h⟩
      obtain ⟨k, hk, hf⟩ := hd
      refine ⟨k, hk, ?_⟩
      have ho := hok _ e
      simp only [dwG, List.mem_cons, List.not_mem_nil, or_false] at hf
      rcases hf with hf | hf
      · rw [hf] at ho
        have := of_nle (a := iP 0) (b := hDw k) ho (.lit 0) dDw
        omega
      · rw [hf] at ho
        have := of_nle (a := hDw k) (b := iP 20000) ho dDw (.lit 20000)
        omega
    obtain ⟨k, hk, h⟩ := hz
    rw [nusE_bad hk h]
    exact dwN (hw hN.1) hok (de_bad _ hN hj hok) rfl) with hq | hok
  · exact hq
  rw [nusE_zero (fun k hk => ⟨of_le (hok (2, iP 0, hDw k, true) (List.mem_flatMap.2 ⟨k, List.mem_range.2 hk, by simp [dwG]⟩)) (.lit 0) dDw, of_le (hok (2, hDw k, iP 20000, true) (List.mem_flatMap.2 ⟨k, List.mem_range.2 hk, by simp [dwG]⟩)) dDw (.lit 20000)⟩)]
  exact dwN (hw hN.1) hok (de_good _ hN hok) rfl
theorem draws_many {n : Nat} (hn : 30 < n) {sx : Option Addr} {cap : Nat} {w : World} : Calls Tryz.prog 16 #[.slice sx n cap] w fun e w' => e = .returned (iP 8) ∧ Below w.heap.size w w' := by
  have hl : ∀ f ∈ dwMany, OkF (DP (holeQ (.slice none 0 0) (.slice sx n cap) 0 (fun _ => 0) (fun _ => 0) (fun k => if k = 43 then (n : Int) else 0))) f := fun f hf => by
    have d : Dv (DP (holeQ (.slice none 0 0) (.slice sx n cap) 0 (fun _ => 0) (fun _ => 0) (fun k => if k = 43 then (n : Int) else 0))) hLb n := dQ (n := 43) (by decide) (by decide)
    simp only [dwMany, List.mem_cons, List.not_mem_nil, or_false] at hf
    subst hf
    exact lt_yes (.lit 30) d (by omega)
  exact dwO hl deMany rfl
end Sy
end Go.Proofs.YtdejmleboflopaaGreat
