/- A cask as a hole, with other numbers as holes: for casks that are not small, and those without stations. -/
import Derived.Test.YtpfhfphcmomfdaaRW
set_option linter.unusedVariables false
set_option linter.unusedSimpArgs false
namespace Go.Proofs.Ytpfhfphcmomfdaa
open Go.RowKit
namespace Sy
open Go.RowKit

def holeY (s : ByteArray) (bung : Int) (v : Value) (is : List Int) (n : Nat) : Value :=
  match n with
  | 0 => .string s
  | 1 => .int .i64 bung
  | 2 => .int .i64 0
  | 3 => v
  | n + 4 => .int .i64 (is.getD n 0)
abbrev DY (s : ByteArray) (bung : Int) (v : Value) (is : List Int) : Dn := denG s (holeY s bung v is) (fun _ => True)
section
variable {P : Pg} {s : ByteArray} {bung : Int} {sa : Option Addr} {N cap : Nat} {is : List Int}
theorem isC3_relY (hd : P.den = DY s bung (.slice sa N cap) is) {v v' : Value} {M : Mp} (h : isC3 v = true) (hr : VRel P M v v') : v' = .agg #[.string s, .int .i64 bung, .slice sa N cap] := by
  unfold isC3 at h
  split at h
  case h_2 => cases h
  rename_i a
  split at h
  case h_2 => cases h
  rename_i x y z ha
  simp only [Bool.and_eq_true] at h
  cases hr with
  | @agg _ a' hsz hel =>
    have hl : LRel P M a.toList a'.toList := lrel_arr.2 ⟨hsz, hel⟩
    rw [ha] at hl
    obtain ⟨v0, p0, r0⟩ := hl.get (i := 0) rfl
    obtain ⟨v1, p1, r1⟩ := hl.get (i := 1) rfl
    obtain ⟨v2, p2, r2⟩ := hl.get (i := 2) rfl
    have ha3 : a' = #[v0, v1, v2] := by
      apply Array.ext'
      have h3 : a'.toList.length = 3 := by rw [← hl.1]; rfl
      match he : a'.toList, h3 with
      | [z0, z1, z2], _ => rw [he] at p0 p1 p2; simp at p0 p1 p2; rw [p0, p1, p2]
    subst ha3
    have e0 : v0 = .string s := isName0_rel hd rfl _ h.1 _ _ r0
    subst e0
    have hb := eqT_eq _ _ _ h.2.1
    subst hb
    have db : Dv P.den hBung bung := by rw [hd]; exact .hole rfl
    obtain ⟨y, e1, d1⟩ := vrel_num r1 db.num
    subst e1
    have := db.unique _ d1
    subst this
    have hz := isHo_eq h.2.2
    subst hz
    cases r2 with
    | hol _ _ _ => rw [hd]; rfl
    | sym _ ht => rcases ht with h | h <;> exact absurd h (by decide)
noncomputable def spSmallY (f : Nat) (c : Bool) : CallF := spC3 f fun hp nid => some (.bool c, hp, nid)
theorem ok_spSmallY (hp : P.prog = Try.prog) (hd : P.den = DY s bung (.slice sa N cap) is) {c : Bool} (hs : smallB s N bung = c) : CallOk P (spSmallY 5 c) := fun t args hp0 nid v hp' nid' h => by
  obtain ⟨rfl, h1, hl, u, hu, hc⟩ := spC3_some h
  cases h1
  refine ⟨Nat.le_refl _, fun B M args' w ha hh hB hf => ?_⟩
  obtain ⟨s', rfl, hvr⟩ := args_one ha hl hu
  rw [isC3_relY hd hc hvr]
  show Calls P.prog _ _ _ _
  rw [hp]
  refine Calls.mono (small_any s bung sa N cap w) ?_
  rintro e w' ⟨rfl, hbl⟩
  obtain ⟨q1, q2⟩ := below_post nid hh hbl
  exact ⟨M, _, rfl, by rw [hs]; exact .bool c, q1, q2⟩
theorem ok_spCaskY (hp : P.prog = Try.prog) (hd : P.den = DY s bung (.slice sa 0 cap) is) : CallOk P (spCaskR0 18) := fun t args hp0 nid v hp' nid' h => by
  obtain ⟨rfl, h1, hl, u, hu, hc⟩ := spC3_some h
  cases h1
  refine ⟨Nat.le_refl _, fun B M args' w ha hh hB hf => ?_⟩
  obtain ⟨s', rfl, hvr⟩ := args_one ha hl hu
  rw [isC3_relY hd hc hvr]
  show Calls P.prog _ _ _ _
  rw [hp]
  refine Calls.mono (rcask0 s bung sa cap w) ?_
  rintro e w' ⟨rfl, hbl⟩
  obtain ⟨q1, q2⟩ := below_post nid hh hbl
  have db : Dv P.den hBung bung := by rw [hd]; exact .hole rfl
  refine ⟨M, _, rfl, LRel.tup (LRel.cons ?_ (LRel.cons ?_ (LRel.nil M))), q1, q2⟩
  · have e3 : P.den.int 120 [bung] = (caskS s bung []).1 := by rw [hd]; rfl
    rw [← e3]
    exact .sym (app1 (by decide) db) (.inr (by decide))
  · have e3 : P.den.int 121 [bung] = (caskS s bung []).2 := by rw [hd]; rfl
    rw [← e3]
    exact .sym (app1 (by decide) db) (.inr (by decide))
theorem c3_relY (hd : P.den = DY s bung (.slice sa N cap) is) (M : Mp) : VRel P M c3 (.agg #[.string s, .int .i64 bung, .slice sa N cap]) := by
  have h0 : P.den.hole 0 = .string s := by rw [hd]; rfl
  have h3 : P.den.hole 3 = .slice sa N cap := by rw [hd]; rfl
  have a0 : VRel P M hName (.string s) := by
    have := VRel.hol (P := P) (M := M) (n := 0) (by rw [h0]; rfl) (by rw [h0]; rfl) (fun want => by rw [h0]; rfl)
    rw [h0] at this
    exact this
  have a3 : VRel P M hNone (.slice sa N cap) := by
    have : VRel P M hNone (P.den.hole 3) := by
      cases sa <;> exact VRel.hol (P := P) (M := M) (n := 3) (by rw [h3]; rfl) (by rw [h3]; rfl) (fun want => by rw [h3]; rfl)
    rw [h3] at this
    exact this
  have db : Dv P.den hBung bung := by rw [hd]; exact .hole rfl
  exact LRel.agg (LRel.cons a0 (LRel.cons db.vrel (LRel.cons a3 (LRel.nil _))))
theorem dY (hd : P.den = DY s bung (.slice sa N cap) is) (M : Mp) (k : Nat) : VRel P M (hN (k + 4)) (.int .i64 (is.getD k 0)) := by
  have d : Dv P.den (hN (k + 4)) (is.getD k 0) := by rw [hd]; exact .hole rfl
  exact d.vrel
noncomputable def spCopyY (f : Nat) : CallF := spC3 f fun hp nid => ob (hp.set nid (some (.row [] 92 false))) fun hp => some (.agg #[hName, hBung, .slice (some ⟨nid, 0, none⟩) 0 0], hp, Nat.succ nid)
theorem ok_spCopyY (hp : P.prog = Try.prog) (hd : P.den = DY s bung (.slice sa 0 cap) is) : CallOk P (spCopyY 9) := fun t args hp0 nid v hp' nid' h => by
  obtain ⟨rfl, h1, hl, u, hu, hc⟩ := spC3_some h
  obtain ⟨hp1, hset, h4⟩ := ob_some h1
  cases h4
  refine ⟨Nat.le_succ _, fun B M args' w ha hh hB hf => ?_⟩
  obtain ⟨s', rfl, hvr⟩ := args_one ha hl hu
  rw [isC3_relY hd hc hvr]
  have hM : M nid = none := hf nid (Nat.le_refl _) (Nat.lt_succ_self _)
  show Calls P.prog _ _ _ _
  rw [hp]
  refine Calls.mono (copy0 s bung sa cap w) ?_
  rintro e w' ⟨⟨b, rfl, hge, hb0⟩, hb⟩
  obtain ⟨k1, k2⟩ := new_post (r := 0) (o := .row [] 92 false) (ob := .cells #[] 92 (0, 0)) hh hB hM hb hge hb0 ⟨#[], rfl, (fun v hv => by cases hv), (fun _ => LRel.nil _), (fun h => by cases h)⟩ (T.get_set _ _ _ _ hset)
  have db : Dv P.den hBung bung := by rw [hd]; exact .hole rfl
  have hn : VRel P (M.upd nid b 0) hName (.string s) := by
    have h0 : P.den.hole 0 = .string s := by rw [hd]; rfl
    have := VRel.hol (P := P) (M := M.upd nid b 0) (n := 0) (by rw [h0]; rfl) (by rw [h0]; rfl) (fun want => by rw [h0]; rfl)
    rw [h0] at this
    exact this
  exact ⟨M.upd nid b 0, _, rfl, LRel.agg (LRel.cons hn (LRel.cons db.vrel (LRel.cons (.slc (Mp.upd_self _ _ _ _) (by decide)) (LRel.nil _)))), k1, k2⟩
end
noncomputable def pgY (s : ByteArray) (bung : Int) (v : Value) (is : List Int) (l : List Fact) (ok : ∀ f ∈ l, ∃ x y, Dv (DY s bung v is) f.2.1 x ∧ Dv (DY s bung v is) f.2.2.1 y ∧ cmpN f.1 x y = f.2.2.2) : Pg :=
  { prog := Try.prog, den := DY s bung v is, facts := l, ok := ok, eqs := [(31, 2)], okEq := okRange }
def yBad : List Fact := [(0, errV 0, .int .i64 0, false)]
section
variable {s : ByteArray} {bung : Int} {sa : Option Addr} {N cap : Nat} {is : List Int}
theorem okYBad : ∀ f ∈ yBad, OkF (DY s bung (.slice sa 0 cap) is) f := by
  have db : Dv (DY s bung (.slice sa 0 cap) is) hBung bung := .hole rfl
  have de : Dv (DY s bung (.slice sa 0 cap) is) (errV 0) (caskS s bung []).2 := app1 (t := 121) (by decide) db
  intro f hf
  simp only [yBad, List.mem_cons, List.not_mem_nil, or_false] at hf
  subst hf
  exact eq_no de (.lit 0) (caskS0_ne s bung)
end
end Sy
end Go.Proofs.Ytpfhfphcmomfdaa
