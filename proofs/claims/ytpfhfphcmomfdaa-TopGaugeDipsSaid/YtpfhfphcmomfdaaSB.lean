/- What is known of the calls that gauge's volumes make: numbers, lists of numbers, the check of a cask. -/
import Derived.Test.YtpfhfphcmomfdaaSA
set_option linter.unusedVariables false
set_option linter.unusedSimpArgs false
namespace Go.Proofs.Ytpfhfphcmomfdaa
open Go.RowKit
namespace Sy
open Go.RowKit

theorem floorP_any (n : Int) (w : World) : Calls Try.prog 56 #[.int .i64 n, .int .i64 100000] w fun e w' => e = .returned (.int .i64 (floorP n)) ∧ w = w' := by
  by_cases h : n.tmod 100000 < 0
  · go_enter Try.func56, Try.ntmps56
    go_wp2
    go_ret
    refine ⟨?_, rfl⟩
    rw [floorP, if_pos h]
    rfl
  · go_enter Try.func56, Try.ntmps56
    go_wp2
    go_ret
    refine ⟨?_, rfl⟩
    rw [floorP, if_neg (by omega)]
    rfl
theorem ceilP_any (n : Int) (w : World) : Calls Try.prog 57 #[.int .i64 n, .int .i64 100000] w fun e w' => e = .returned (.int .i64 (ceilP n)) ∧ w = w' := by
  obtain ⟨m, hm⟩ : ∃ m, IntKind.i64.wrap (-n) = m := ⟨_, rfl⟩
  go_enter Try.func57, Try.ntmps57
  go_wp2_with (go_at_call 56; refine Calls.mono (floorP_any _ _) ?_; rintro e w2 ⟨rfl, rfl⟩)
  go_ret
  refine ⟨?_, rfl⟩
  rw [ceilP, hm]
  rfl
theorem ok_listG {P : Pg} (hp : P.prog = Try.prog) {s : ByteArray} {hole : Nat → Value} {O : Obj → Prop} (hd : P.den = denG s hole O) : ListOk P 20 104 := by
  refine ⟨by decide, fun xs g w h2 h5 hc => ?_⟩
  rw [hp, hd]
  have e : (denG s hole O).int 104 xs = firstL xs := by
    match xs, h2 with
    | _ :: _ :: _, _ => rfl
  rw [e]
  refine still_call (first_list xs g 0 w (by omega) fun j hj => ?_)
  rw [Nat.zero_add, hc j xs[j] (List.getElem?_eq_getElem hj), List.getD_eq_getElem?_getD, List.getElem?_eq_getElem hj]
  rfl

def isName0 (v : Value) : Bool :=
  match v with
  | .iface t (.int .i64 (.ofNat n)) => Nat.beq t 90 && Nat.beq n 0
  | _ => false
theorem isName0_eq {v : Value} (h : isName0 v = true) : v = .iface 90 (.int .i64 (.ofNat 0)) := by
  unfold isName0 at h
  split at h
  · simp only [Bool.and_eq_true] at h
    rw [Nat.eq_of_beq_eq_true h.1, Nat.eq_of_beq_eq_true h.2]
  · cases h
theorem isName0_rel {P : Pg} {s : ByteArray} {hole : Nat → Value} {O : Obj → Prop} (hd : P.den = denG s hole O) (hs : hole 0 = .string s) : ∀ v, isName0 v = true → ∀ (M : Mp) v', VRel P M v v' → v' = .string s := by
  intro v hv M v' r0
  have := isName0_eq hv
  subst this
  cases r0 with
  | hol _ _ _ => rw [hd]; exact hs
  | sym _ ht => rcases ht with h | h <;> exact absurd h (by decide)
def isLit (s : ByteArray) (v : Value) : Bool :=
  match v with
  | .string t => decide (t = s)
  | _ => false
theorem isLit_rel {P : Pg} {s : ByteArray} : ∀ v, isLit s v = true → ∀ (M : Mp) v', VRel P M v v' → v' = .string s := by
  intro v hv M v' r0
  unfold isLit at hv
  split at hv
  · cases r0
    rw [of_decide_eq_true hv]
  · cases hv
/-- CheckCask of a cask whose stations are known -/
noncomputable def spCask (f : Nat) (nmB : Value → Bool) : CallF := fun t args hp nid =>
  match t with
  | .fn g => ck (Nat.beq g f && Nat.beq args.length 1) (ob args[0]? fun c => withAgg c fun cs => ob cs[0]? fun nm => ob cs[1]? fun bung => ob cs[2]? fun st => withSlc st (fun _ _ => none) fun b o n c =>
      ob (hp.get b) fun r => withRow r fun row el opn => ck (Nat.beq cs.toList.length 3 && (nmB nm && (isNum bung && (Nat.beq o 0 && (Nat.beq row.length (Nat.mul n 3) && row.all isNum)))))
        (some (.tuple #[.iface 120 (.tuple (bung :: row).toArray), .iface 121 (.tuple (bung :: row).toArray)], hp, nid)))
  | .yield _ => none
theorem ok_spCask {P : Pg} (hp : P.prog = Try.prog) {s : ByteArray} {hole : Nat → Value} {O : Obj → Prop} (hd : P.den = denG s hole O) {nmB : Value → Bool} (hs : ∀ v, nmB v = true → ∀ (M : Mp) v', VRel P M v v' → v' = .string s) : CallOk P (spCask 39 nmB) := fun t args hp0 nid v hp' nid' h => by
  cases t with
  | yield l => cases h
  | fn g =>
    obtain ⟨hg0, h1⟩ := ck_some h
    clear h
    simp only [Bool.and_eq_true] at hg0
    have hg := Nat.eq_of_beq_eq_true hg0.1
    subst hg
    obtain ⟨c, hc, h2⟩ := ob_some h1
    clear h1
    obtain ⟨cs, rfl, h3⟩ := withAgg_some h2
    clear h2
    obtain ⟨nm, hnm, h4⟩ := ob_some h3
    clear h3
    obtain ⟨bung, hbu, h5⟩ := ob_some h4
    clear h4
    obtain ⟨st, hst, h6⟩ := ob_some h5
    clear h5
    rcases withSlc_some h6 with ⟨_, _, _, h7⟩ | ⟨b, o, n, cp, rfl, h7⟩
    · cases h7
    clear h6
    obtain ⟨r, hr, h8⟩ := ob_some h7
    clear h7
    obtain ⟨row, el, opn, rfl, h9⟩ := withRow_some h8
    clear h8
    obtain ⟨hk, h10⟩ := ck_some h9
    clear h9
    cases h10
    simp only [Bool.and_eq_true] at hk
    have hcs := Nat.eq_of_beq_eq_true hk.1
    have ho := Nat.eq_of_beq_eq_true hk.2.2.2.1
    have hrl : row.length = n * 3 := Nat.eq_of_beq_eq_true hk.2.2.2.2.1
    subst ho
    refine ⟨Nat.le_refl _, fun B M args' w ha hh hB hf => ?_⟩
    obtain ⟨s', rfl, hvr⟩ := args_one ha (Nat.eq_of_beq_eq_true hg0.2) hc
    cases hvr with
    | @agg _ a' hsz hel =>
      have hl : LRel P M cs.toList a'.toList := lrel_arr.2 ⟨hsz, hel⟩
      obtain ⟨v0, p0, r0⟩ := hl.get (i := 0) (by simpa using hnm)
      obtain ⟨v1, p1, r1⟩ := hl.get (i := 1) (by simpa using hbu)
      obtain ⟨v2, p2, r2⟩ := hl.get (i := 2) (by simpa using hst)
      have ha3 : a' = #[v0, v1, v2] := by
        apply Array.ext'
        have h3 : a'.toList.length = 3 := by rw [← hl.1]; exact hcs
        match he : a'.toList, h3 with
        | [z0, z1, z2], _ => rw [he] at p0 p1 p2; simp at p0 p1 p2; rw [p0, p1, p2]
      subst ha3
      have e0 : v0 = .string s := hs _ hk.2.1 _ _ r0
      subst e0
      obtain ⟨y, e1, d1⟩ := vrel_num r1 hk.2.2.1
      subst e1
      have fin : ∀ b' rr cap, M b = some (b', rr) → Calls P.prog 39 #[.agg #[.string s, .int .i64 y, .slice (some ⟨b', 0, none⟩) n cap]] w fun e w' => ∃ M' v', e = .returned v' ∧ VRel P M' (.tuple #[.iface 120 (.tuple (bung :: row).toArray), .iface 121 (.tuple (bung :: row).toArray)]) v' ∧ HRel P B M' hp0.get w' ∧ Evol M hp0.get nid w M' hp0.get nid w' := by
        intro b' rr cap hb
        obtain ⟨xs, k1, k2, k3⟩ := row_nums hh hb hr hk.2.2.2.2.2
        have hx3 : xs.length / 3 = n := by omega
        have key : Calls P.prog 39 #[.agg #[.string s, .int .i64 y, .slice (some ⟨b', 0, none⟩) n cap]] w fun e w' => e = .returned (.tuple #[.int .i64 (caskS s y xs).1, .int .i64 (caskS s y xs).2]) ∧ Below w.heap.size w w' := by
          rw [hp]
          by_cases hz : caskE s y n = 0
          · have hgd : ∀ k (h : k < xs.length), xs.getD k 0 = xs[k] := fun k h => by simp [h]
            have hcell : ∀ i j, i < n → j < 3 → w.cell? ⟨b', 0 + i * 3 + j, none⟩ = some (.int .i64 ((snOf xs i).at j)) := by
              intro i j hi hj
              have hlt : i * 3 + j < xs.length := by omega
              rw [Nat.zero_add, k3 (i * 3 + j) xs[i * 3 + j] (List.getElem?_eq_getElem hlt)]
              match j, hj with
              | 0, _ => exact congrArg (fun z => some (Value.int .i64 z)) (hgd _ hlt).symm
              | 1, _ => exact congrArg (fun z => some (Value.int .i64 z)) (hgd _ hlt).symm
              | 2, _ => exact congrArg (fun z => some (Value.int .i64 z)) (hgd _ hlt).symm
            have := cask_right s y b' 0 n cap (snOf xs) w hz hcell
            have e2 : caskS s y xs = eachF (snE y (snOf xs)) n 0 := by
              unfold caskS
              rw [hx3, if_neg (by simp [hz])]
            rw [e2]
            exact this
          · have := cask_wrong s y (some ⟨b', 0, none⟩) n cap w hz
            have e2 : caskS s y xs = (0, caskE s y n) := by
              unfold caskS
              rw [hx3, if_pos hz]
            rw [e2]
            exact this
        refine Calls.mono key ?_
        rintro e w' ⟨rfl, hbl⟩
        obtain ⟨q1, q2⟩ := below_post nid hh hbl
        have da : ∀ t, 100 ≤ t → Dv P.den (.iface t (.tuple (bung :: row).toArray)) (P.den.int t (y :: xs)) := fun t ht => .app ht (by simp [k1]) (fun i v x hv hx => by
          cases i with
          | zero => simp at hv hx; subst hv hx; exact d1
          | succ i => exact k2 i v x (by simpa using hv) (by simpa using hx))
        refine ⟨M, _, rfl, LRel.tup (LRel.cons ?_ (LRel.cons ?_ (LRel.nil M))), q1, q2⟩
        · have e3 : P.den.int 120 (y :: xs) = (caskS s y xs).1 := by rw [hd]; rfl
          rw [← e3]
          exact .sym (da 120 (by decide)) (.inr (by decide))
        · have e3 : P.den.int 121 (y :: xs) = (caskS s y xs).2 := by rw [hd]; rfl
          rw [← e3]
          exact .sym (da 121 (by decide)) (.inr (by decide))
      cases r2 with
      | slc hb _ => exact fin _ _ _ hb
      | slo hb _ => exact fin _ _ _ hb
      | slx hb _ => exact fin _ _ _ hb
end Sy
end Go.Proofs.Ytpfhfphcmomfdaa
