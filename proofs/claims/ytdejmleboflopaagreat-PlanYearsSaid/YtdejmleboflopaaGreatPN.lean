/- The checks of package checks, as symbols. -/
import Derived.Test.YtdejmleboflopaaGreatPC
set_option linter.unusedVariables false
set_option linter.unusedSimpArgs false
namespace Go.Proofs.YtdejmleboflopaaGreat
open Go.RowKit
namespace Sy
open Go.RowKit

theorem app3P {D : Dn} {t : Nat} (ht : 100 ≤ t) {a b c : Value} {x y u : Int} (ha : Dv D a x) (hb : Dv D b y) (hc : Dv D c u) : Dv D (.iface t (.tuple #[a, b, c])) (D.int t [x, y, u]) := .app ht rfl (fun i v z hv hz => by
  match i with
  | 0 => simp at hv hz; subst hv hz; exact ha
  | 1 => simp at hv hz; subst hv hz; exact hb
  | 2 => simp at hv hz; subst hv hz; exact hc
  | i + 3 => simp at hv)
def numsP : List NumSp := [(81, 103, 3, [])]
theorem ok_numsP {P : Pg} (hp : P.prog = Tryz.prog) (hi : P.den.int = intP) : ∀ x ∈ numsP, NumOk P x := by
  intro x hx
  simp only [numsP, List.mem_cons, List.not_mem_nil, or_false] at hx
  subst hx
  refine ⟨by decide, fun xs w hl => ?_⟩
  match xs, hl with
  | [n, lo, hi'], _ => rw [hp, hi]; exact still_callP (number_any n lo hi' w)
theorem ok_listP {P : Pg} (hp : P.prog = Tryz.prog) (hi : P.den.int = intP) : ListOk P 29 104 := by
  refine ⟨by decide, fun xs g w h2 h5 hc => ?_⟩
  rw [hp, hi]
  have e : intP 104 xs = firstL xs := by
    match xs, h2 with
    | _ :: _ :: _, _ => rfl
  rw [e]
  refine still_callP (first_list xs g 0 w (by omega) fun j hj => ?_)
  rw [Nat.zero_add, hc j xs[j] (List.getElem?_eq_getElem hj), List.getD_eq_getElem?_getD, List.getElem?_eq_getElem hj]
  rfl
noncomputable def spRng (f : Nat) : CallF := fun t args hp nid =>
  match t with
  | .fn g => ck (Nat.beq g f && Nat.beq args.length 2) (ob args[0]? fun r => ob args[1]? fun m => withAgg r fun cs => ob cs[0]? fun a => ob cs[1]? fun b => ck (Nat.beq cs.toList.length 2 && (isNum a && (isNum b && isNum m))) (some (.iface 113 (.tuple #[a, b, m]), hp, nid)))
  | .yield _ => none
theorem ok_spRng {P : Pg} (hp : P.prog = Tryz.prog) (hi : P.den.int = intP) : CallOk P (spRng 68) := fun t args hp0 nid v hp' nid' h => by
  cases t with
  | yield l => cases h
  | fn g =>
    obtain ⟨hg0, h1⟩ := ck_some h
    clear h
    simp only [Bool.and_eq_true] at hg0
    have hg := Nat.eq_of_beq_eq_true hg0.1
    subst hg
    obtain ⟨c, hc, h2⟩ := ob_some h1
    clear h1
    obtain ⟨va, hva, h2b⟩ := ob_some h2
    clear h2
    obtain ⟨cs, rfl, h3⟩ := withAgg_some h2b
    clear h2b
    obtain ⟨u0, hu0, h4⟩ := ob_some h3
    clear h3
    obtain ⟨u1, hu1, h5⟩ := ob_some h4
    clear h4
    obtain ⟨hk, h10⟩ := ck_some h5
    clear h5
    cases h10
    simp only [Bool.and_eq_true] at hk
    obtain ⟨k0, k1, k2, k3⟩ := hk
    have hcs := Nat.eq_of_beq_eq_true k0
    refine ⟨Nat.le_refl _, fun B M args' w ha hh hB hf => ?_⟩
    obtain ⟨a0, q0, r0⟩ := ha.get hc
    obtain ⟨a1, q1, r1⟩ := ha.get hva
    have hlen2 : args'.toList.length = 2 := by rw [← ha.1]; exact Nat.eq_of_beq_eq_true hg0.2
    have hargs : args' = #[a0, a1] := by
      apply Array.ext'
      match he : args'.toList, hlen2 with
      | [z0, z1], _ => rw [he] at q0 q1; simp at q0 q1; rw [q0, q1]
    subst hargs
    obtain ⟨z, rfl, dz⟩ := vrel_num r1 k3
    cases r0 with
    | @agg _ a' hsz hel =>
      have hL : LRel P M cs.toList a'.toList := lrel_arr.2 ⟨hsz, hel⟩
      obtain ⟨v0, p0, s0⟩ := hL.get (i := 0) (by simpa using hu0)
      obtain ⟨v1, p1, s1⟩ := hL.get (i := 1) (by simpa using hu1)
      have hla : a'.toList.length = 2 := by rw [← hL.1]; exact hcs
      have ha' : a' = #[v0, v1] := by
        apply Array.ext'
        match he : a'.toList, hla with
        | [z0, z1], _ => rw [he] at p0 p1; simp at p0 p1; rw [p0, p1]
      subst ha'
      obtain ⟨x, rfl, dx⟩ := vrel_num s0 k1
      obtain ⟨y, rfl, dy⟩ := vrel_num s1 k2
      show Calls P.prog _ _ _ _
      rw [hp]
      refine Calls.mono (rangeError_any x y z w) ?_
      rintro e w' ⟨rfl, hbl⟩
      obtain ⟨q1, q2⟩ := below_post nid hh hbl
      refine ⟨M, _, rfl, ?_, q1, q2⟩
      have e3 : rangeE x y z = P.den.int 113 [x, y, z] := by rw [hi]; rfl
      rw [e3]
      exact .sym (app3P (by decide) dx dy dz) (.inr (by decide))
/-- the checks -/
noncomputable def spCk : CallF := spOr (spNum numsP) (spOr (spList 29 104) (spRng 68))
theorem ok_spCk {P : Pg} (hp : P.prog = Tryz.prog) (hi : P.den.int = intP) : CallOk P spCk := ok_spOr (ok_spNum (ok_numsP hp hi)) (ok_spOr (ok_spList (ok_listP hp hi)) (ok_spRng hp hi))
/-- the errors of a system, of ages, of a draw -/
def nuT (x lo hi : Value) : Value := .iface 103 (.tuple #[x, lo, hi])
def fi3 (a b c : Value) : Value := .iface 104 (.tuple #[a, b, c])
def hdT (a b : Int) : Value := fi3 (iP a) (iP b) (nuT hNew (iP 0) (iP 100000))
def scT (i : Nat) : Value := fi3 (nuT (hSc i 0) (iP 1) (iP 20000)) (.iface 113 (.tuple #[hSc i 1, hSc i 2, hSc i 0])) (nuT (hSc i 3) (iP 0) (iP 100000))
def bgT (i : Nat) : Value := .iface 113 (.tuple #[hBg i 0, hBg i 1, iP 100000])
def sysE (N : Nat) : List Fact := (0, hdT 0 0, iP 0, true) :: (List.range N).map fun i => (0, scT i, iP 0, true)
end Sy
end Go.Proofs.YtdejmleboflopaaGreat
