/- What is known of the calls that the laws about casks make, for the reckoner with symbols. -/
import Derived.Test.YtpfhfphcmomfdaaRE
import Derived.Test.YtpfhfphcmomfdaaRS
import Derived.Test.YtpfhfphcmomfdaaSO
set_option linter.unusedVariables false
set_option linter.unusedSimpArgs false
namespace Go.Proofs.Ytpfhfphcmomfdaa
open Go.RowKit
namespace Sy
open Go.RowKit

def withWin {β : Type} (o : AObj) (k : List Value → Option β) : Option β :=
  match o with
  | .win l => k l
  | _ => none
theorem withWin_some {β : Type} {o : AObj} {k : List Value → Option β} {y : β} (h : withWin o k = some y) : ∃ l, o = .win l ∧ k l = some y := by
  cases o with
  | win l => exact ⟨l, rfl, h⟩
  | _ => cases h
def okN (n : Nat) : Bool := Nat.ble n 4 || (Nat.beq n 13 || Nat.beq n 14)
theorem cc_any (s : ByteArray) (bung : Int) (xs : List Int) (N gs os cap : Nat) (w : World) (hl : xs.length = N * 3) (hN : okN N = true) (hw : WinAt gs os xs w) : CCat s bung xs gs os N cap w := by
  have h : N = 0 ∨ N = 1 ∨ N = 2 ∨ N = 3 ∨ N = 4 ∨ N = 13 ∨ N = 14 := by
    simp only [okN, Bool.or_eq_true] at hN
    rcases hN with h | h | h
    · have := Nat.le_of_ble_eq_true h; omega
    · have := Nat.eq_of_beq_eq_true h; omega
    · have := Nat.eq_of_beq_eq_true h; omega
  rcases h with rfl | rfl | rfl | rfl | rfl | rfl | rfl
  · exact cc0 s bung xs gs os cap w (by omega) hw
  · exact cc1 s bung xs gs os cap w (by omega) hw
  · match xs, hl, hw with
    | [a0, i0, o0, a1, i1, o1], _, hw => exact cc2 s bung a0 i0 o0 a1 i1 o1 gs os cap w hw
  · match xs, hl, hw with
    | [a0, i0, o0, a1, i1, o1, a2, i2, o2], _, hw => exact cc3 s bung a0 i0 o0 a1 i1 o1 a2 i2 o2 gs os cap w hw
  · match xs, hl, hw with
    | [a0, i0, o0, a1, i1, o1, a2, i2, o2, a3, i3, o3], _, hw => exact cc4 s bung a0 i0 o0 a1 i1 o1 a2 i2 o2 a3 i3 o3 gs os cap w hw
  · exact cc13 s bung xs gs os cap w (by omega) hw
  · exact cc14 s bung xs gs os cap w (by omega) hw
/-- the reference's CheckCask of a cask whose stations are known by a window -/
noncomputable def spCaskR (f : Nat) (nmB : Value → Bool) : CallF := fun t args hp nid =>
  match t with
  | .fn g => ck (Nat.beq g f && Nat.beq args.length 1) (ob args[0]? fun c => withAgg c fun cs => ob cs[0]? fun nm => ob cs[1]? fun bung => ob cs[2]? fun st => withOsl st fun b lt => withNat lt fun n =>
      ob (hp.get b) fun r => withWin r fun row => ck (Nat.beq cs.toList.length 3 && (nmB nm && (isNum bung && (okN n && (Nat.beq row.length (Nat.mul n 3) && row.all isNum)))))
        (some (.tuple #[.iface 120 (.tuple (bung :: row).toArray), .iface 121 (.tuple (bung :: row).toArray)], hp, nid)))
  | .yield _ => none
theorem ok_spCaskR {P : Pg} (hp : P.prog = Try.prog) {s : ByteArray} {hole : Nat → Value} {O : Obj → Prop} (hd : P.den = denG s hole O) {nmB : Value → Bool} (hs : ∀ v, nmB v = true → ∀ (M : Mp) v', VRel P M v v' → v' = .string s) : CallOk P (spCaskR 18 nmB) := fun t args hp0 nid v hp' nid' h => by
  cases t with
  | yield l => cases h
  | fn g =>
    obtain ⟨hg0, h1⟩ := ck_some h
    clear h
    simp only [Bool.and_eq_true] at hg0
    have hg := Nat.eq_of_beq_eq_true hg0.1
    subst hg
    obtain ⟨c, hc, h2⟩ := ob_some h1
    clear h1
    obtain ⟨cs, rfl, h3⟩ := withAgg_some h2
    clear h2
    obtain ⟨nm, hnm, h4⟩ := ob_some h3
    clear h3
    obtain ⟨bung, hbu, h5⟩ := ob_some h4
    clear h4
    obtain ⟨st, hst, h6⟩ := ob_some h5
    clear h5
    obtain ⟨b, lt, rfl, h7⟩ := withOsl_some h6
    clear h6
    obtain ⟨n, rfl, h7b⟩ := withNat_some h7
    clear h7
    obtain ⟨r, hr, h8⟩ := ob_some h7b
    clear h7b
    obtain ⟨row, rfl, h9⟩ := withWin_some h8
    clear h8
    obtain ⟨hk, h10⟩ := ck_some h9
    clear h9
    cases h10
    simp only [Bool.and_eq_true] at hk
    have hcs := Nat.eq_of_beq_eq_true hk.1
    have hrl : row.length = n * 3 := Nat.eq_of_beq_eq_true hk.2.2.2.2.1
    refine ⟨Nat.le_refl _, fun B M args' w ha hh hB hf => ?_⟩
    obtain ⟨s', rfl, hvr⟩ := args_one ha (Nat.eq_of_beq_eq_true hg0.2) hc
    cases hvr with
    | @agg _ a' hsz hel =>
      have hl : LRel P M cs.toList a'.toList := lrel_arr.2 ⟨hsz, hel⟩
      obtain ⟨v0, p0, r0⟩ := hl.get (i := 0) (by simpa using hnm)
      obtain ⟨v1, p1, r1⟩ := hl.get (i := 1) (by simpa using hbu)
      obtain ⟨v2, p2, r2⟩ := hl.get (i := 2) (by simpa using hst)
      have ha3 : a' = #[v0, v1, v2] := by
        apply Array.ext'
        have h3 : a'.toList.length = 3 := by rw [← hl.1]; exact hcs
        match he : a'.toList, h3 with
        | [z0, z1, z2], _ => rw [he] at p0 p1 p2; simp at p0 p1 p2; rw [p0, p1, p2]
      subst ha3
      have e0 : v0 = .string s := hs _ hk.2.1 _ _ r0
      subst e0
      obtain ⟨y, e1, d1⟩ := vrel_num r1 hk.2.2.1
      subst e1
      cases r2 with
      | @osl _ b' rr n' cc _ hb hn =>
        have hn' : ((n' : Nat) : Int) = (n : Int) := (Dv.unique (.lit (n : Int)) _ hn).symm
        have hn' : n' = n := by omega
        subst hn'
        obtain ⟨b1, r1', ob, k1, k2, k3, k4⟩ := hh.has b _ hr
        rw [hb] at k1
        cases k1
        obtain ⟨c', e', fr, rfl, hw0, _⟩ := k4
        obtain ⟨xs, m1, m2, m3⟩ := nums_of _ _ hw0 hk.2.2.2.2.2
        have hwin : WinAt b' rr xs w := ⟨c', e', fr, k3, by rw [← m2]; exact m1⟩
        have key := cc_any s y xs n' b' rr cc w (by omega) hk.2.2.2.1 hwin
        show Calls P.prog _ _ _ _
        rw [hp]
        refine Calls.mono key ?_
        rintro e w' ⟨rfl, hbl⟩
        obtain ⟨q1, q2⟩ := below_post nid hh hbl
        have da : ∀ t, 100 ≤ t → Dv P.den (.iface t (.tuple (bung :: row).toArray)) (P.den.int t (y :: xs)) := fun t ht => .app ht (by simp [m2]) (fun i v x hv hx => by
          cases i with
          | zero => simp at hv hx; subst hv hx; exact d1
          | succ i => exact m3 i v x (by simpa using hv) (by simpa using hx))
        refine ⟨M, _, rfl, LRel.tup (LRel.cons ?_ (LRel.cons ?_ (LRel.nil M))), q1, q2⟩
        · have e3 : P.den.int 120 (y :: xs) = (caskS s y xs).1 := by rw [hd]; rfl
          rw [← e3]
          exact .sym (da 120 (by decide)) (.inr (by decide))
        · have e3 : P.den.int 121 (y :: xs) = (caskS s y xs).2 := by rw [hd]; rfl
          rw [← e3]
          exact .sym (da 121 (by decide)) (.inr (by decide))
      | sym h ht => rcases ht with h | h <;> exact absurd h (by decide)
/-- Small of a cask with so many stations -/
noncomputable def spSmall (f N : Nat) (c : Bool) : CallF := fun t args hp nid =>
  match t with
  | .fn g => ck (Nat.beq g f && Nat.beq args.length 1) (ob args[0]? fun v => withAgg v fun cs => ob cs[0]? fun nm => ob cs[1]? fun bung => ob cs[2]? fun st =>
      ck (Nat.beq cs.toList.length 3 && (isName0 nm && eqT 90 bung hBung)) (orE (withOsl st fun id lt => withNat lt fun n => ck (Nat.beq n N) (some (.bool c, hp, nid))) (withSlc st (fun n _ => ck (Nat.beq n N) (some (.bool c, hp, nid))) fun _ _ _ _ => none)))
  | .yield _ => none
theorem ok_spSmall {P : Pg} (hp : P.prog = Try.prog) {s : ByteArray} {bung dip : Int} {xs : List Int} {c : Bool} {O : Obj → Prop} (hd : P.den = D0 s bung dip xs O) {N : Nat} (hc : smallB s N bung = c) : CallOk P (spSmall 5 N c) := fun t args hp0 nid v hp' nid' h => by
  cases t with
  | yield l => cases h
  | fn g =>
    obtain ⟨hg0, h1⟩ := ck_some h
    clear h
    simp only [Bool.and_eq_true] at hg0
    have hg := Nat.eq_of_beq_eq_true hg0.1
    subst hg
    obtain ⟨u, hu, h2⟩ := ob_some h1
    clear h1
    obtain ⟨cs, rfl, h3⟩ := withAgg_some h2
    clear h2
    obtain ⟨nm, hnm, h4⟩ := ob_some h3
    clear h3
    obtain ⟨bu, hbu, h5⟩ := ob_some h4
    clear h4
    obtain ⟨st, hst, h6⟩ := ob_some h5
    clear h5
    obtain ⟨hk, h7⟩ := ck_some h6
    clear h6
    simp only [Bool.and_eq_true] at hk
    have hcs := Nat.eq_of_beq_eq_true hk.1
    have hb := eqT_eq _ _ _ hk.2.2
    subst hb
    have fin : v = .bool c ∧ hp' = hp0 ∧ nid' = nid ∧ ∀ (M : Mp) v', VRel P M st v' → ∃ sa cap, v' = .slice sa N cap := by
      rcases orE_some h7 with h8 | h8
      · obtain ⟨id, lt, rfl, h9⟩ := withOsl_some h8
        obtain ⟨n, rfl, h10⟩ := withNat_some h9
        obtain ⟨hn, h11⟩ := ck_some h10
        have hn := Nat.eq_of_beq_eq_true hn
        subst hn
        cases h11
        refine ⟨rfl, rfl, rfl, fun M v' hr => ?_⟩
        cases hr with
        | @osl _ b' rr n' cc _ hb hn =>
          have hn' : ((n' : Nat) : Int) = (n : Int) := (Dv.unique (.lit (n : Int)) _ hn).symm
          have hn' : n' = n := by omega
          subst hn'
          exact ⟨_, _, rfl⟩
        | sym h ht => rcases ht with h | h <;> exact absurd h (by decide)
      · rcases withSlc_some h8 with ⟨n, cp, rfl, h9⟩ | ⟨_, _, _, _, _, h9⟩
        · obtain ⟨hn, h11⟩ := ck_some h9
          have hn := Nat.eq_of_beq_eq_true hn
          subst hn
          cases h11
          refine ⟨rfl, rfl, rfl, fun M v' hr => ?_⟩
          cases hr
          exact ⟨_, _, rfl⟩
        · cases h9
    obtain ⟨rfl, rfl, rfl, hsl⟩ := fin
    refine ⟨Nat.le_refl _, fun B M args' w ha hh hB hf => ?_⟩
    obtain ⟨s', rfl, hvr⟩ := args_one ha (Nat.eq_of_beq_eq_true hg0.2) hu
    cases hvr with
    | @agg _ a' hsz hel =>
      have hl : LRel P M cs.toList a'.toList := lrel_arr.2 ⟨hsz, hel⟩
      obtain ⟨v0, p0, r0⟩ := hl.get (i := 0) (by simpa using hnm)
      obtain ⟨v1, p1, r1⟩ := hl.get (i := 1) (by simpa using hbu)
      obtain ⟨v2, p2, r2⟩ := hl.get (i := 2) (by simpa using hst)
      have ha3 : a' = #[v0, v1, v2] := by
        apply Array.ext'
        have h3 : a'.toList.length = 3 := by rw [← hl.1]; exact hcs
        match he : a'.toList, h3 with
        | [z0, z1, z2], _ => rw [he] at p0 p1 p2; simp at p0 p1 p2; rw [p0, p1, p2]
      subst ha3
      have e0 : v0 = .string s := isName0_rel hd rfl _ hk.2.1 _ _ r0
      subst e0
      have db : Dv P.den hBung bung := by rw [hd]; exact dBung
      obtain ⟨y, e1, d1⟩ := vrel_num r1 db.num
      subst e1
      have := db.unique _ d1
      subst this
      obtain ⟨sa, cap, rfl⟩ := hsl M _ r2
      show Calls P.prog _ _ _ _
      rw [hp]
      refine Calls.mono (small_any s bung sa N cap w) ?_
      rintro e w' ⟨rfl, hbl⟩
      obtain ⟨q1, q2⟩ := below_post nid' hh hbl
      exact ⟨M, _, rfl, by rw [hc]; exact .bool c, q1, q2⟩
/-- the reference's area of one of the radii, up to the level -/
noncomputable def spAreaR (f : Nat) (l : List Value) (lv : Value) : CallF := fun t args hp nid =>
  match t with
  | .fn g => ck (Nat.beq g f && Nat.beq args.length 2) (ob args[0]? fun r => ob args[1]? fun level => ck (l.any (fun x => eqT 90 x r) && eqT 90 level lv) (some (.agg #[.iface 101 (.tuple #[r, lv]), .iface 102 (.tuple #[r, lv])], hp, nid)))
  | .yield _ => none
end Sy
end Go.Proofs.Ytpfhfphcmomfdaa
