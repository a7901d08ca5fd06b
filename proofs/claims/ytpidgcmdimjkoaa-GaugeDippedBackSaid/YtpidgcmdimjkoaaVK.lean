/- base.Mod, for the reckoner. -/
import Derived.Test.YtpidgcmdimjkoaaVW
set_option linter.unusedVariables false
set_option linter.unusedSimpArgs false
namespace Go.Proofs.Ytpidgcmdimjkoaa
open Go.RowKit
namespace Sy
open Go.RowKit

theorem tmod_fix (n B : Int) (hB : 0 < B) : (if n.tmod B < 0 then n.tmod B + B else n.tmod B) = n % B := by
  have h1 := Int.emod_nonneg n (show B ≠ 0 by omega)
  have h2 := Int.emod_lt_of_pos n hB
  rw [Int.tmod_eq_emod]
  split <;> split <;> omega
set_option maxRecDepth 100000 in
set_option maxHeartbeats 4000000 in
theorem mod_any (n B : Int) (w : World) (hB : 0 < B) (h2 : B ≤ 1000000000) : Calls Try.prog 16 #[.int .i64 n, .int .i64 B] w fun e w' => e = .returned (.int .i64 (n % B)) ∧ Below w.heap.size w w' := by
  have hb0 : B ≠ 0 := by omega
  have hb1 : (B == 0) = false := by simpa using hb0
  have hr1 : n.tmod B < B := Int.tmod_lt_of_pos n hB
  have hr0 : -B < n.tmod B := Int.lt_tmod_of_pos n hB
  rw [← tmod_fix n B hB]
  by_cases h : n.tmod B < 0
  · rw [if_pos h]
    go_enter Try.func16, Try.ntmps16
    go_wp2
    go_ret
    exact ⟨rfl, Below.refl _ _⟩
  · rw [if_neg h]
    go_enter Try.func16, Try.ntmps16
    go_wp2
    go_ret
    exact ⟨rfl, Below.refl _ _⟩
noncomputable def spMod (f : Nat) (bv : Value) : CallF := fun t args hp nid =>
  match t with
  | .fn g => ck (Nat.beq g f && Nat.beq args.length 2) (ob args[0]? fun a => ob args[1]? fun b => ck (isNum a && eqT 90 b bv) (some (.iface 107 (.tuple #[a, bv]), hp, nid)))
  | .yield _ => none
theorem ok_spMod {P : Pg} (hp : P.prog = Try.prog) {s : ByteArray} {hole : Nat → Value} {O : Obj → Prop} (hd : P.den = denG s hole O) {bv : Value} {B : Int} (hbv : Dv P.den bv B) (h0 : 0 < B) (h1 : B ≤ 1000000000) : CallOk P (spMod 16 bv) := fun t args hp0 nid v hp' nid' h => by
  cases t with
  | yield l => cases h
  | fn g =>
    obtain ⟨hg0, h2⟩ := ck_some h
    clear h
    simp only [Bool.and_eq_true] at hg0
    have hg := Nat.eq_of_beq_eq_true hg0.1
    subst hg
    obtain ⟨a, ha, h3⟩ := ob_some h2
    clear h2
    obtain ⟨b, hb, h4⟩ := ob_some h3
    clear h3
    obtain ⟨hck, h5⟩ := ck_some h4
    clear h4
    cases h5
    simp only [Bool.and_eq_true] at hck
    have e2 := eqT_eq _ _ _ hck.2
    subst e2
    refine ⟨Nat.le_refl _, fun Bb M args' w ha' hh hB hf => ?_⟩
    obtain ⟨a0, q0, r0⟩ := ha'.get ha
    obtain ⟨a1, q1, r1⟩ := ha'.get hb
    have hlen2 : args'.toList.length = 2 := by rw [← ha'.1]; exact Nat.eq_of_beq_eq_true hg0.2
    have hargs : args' = #[a0, a1] := by
      apply Array.ext'
      match he : args'.toList, hlen2 with
      | [z0, z1], _ => rw [he] at q0 q1; simp at q0 q1; rw [q0, q1]
    subst hargs
    obtain ⟨x, e0, d0⟩ := vrel_num r0 hck.1
    obtain ⟨y, e1, d1⟩ := vrel_num r1 hbv.num
    subst e0 e1
    have := hbv.unique _ d1
    subst this
    show Calls P.prog _ _ _ _
    rw [hp]
    refine Calls.mono (mod_any x B w h0 h1) ?_
    rintro e w' ⟨rfl, hbl⟩
    obtain ⟨p1, p2⟩ := below_post nid hh hbl
    refine ⟨M, _, rfl, ?_, p1, p2⟩
    have d := app2 (t := 107) (by decide) d0 hbv
    rw [show P.den.int 107 [x, B] = x % B from by rw [hd]; rfl] at d
    exact d.vrel
end Sy
end Go.Proofs.Ytpidgcmdimjkoaa
