import Derived.Test.YtpfhfphcmomfdaaRV
/- GaugeVolumes of a cask without stations. -/
set_option linter.unusedVariables false
set_option linter.unusedSimpArgs false
namespace Go.Proofs.Ytpfhfphcmomfdaa
open Go.RowKit
namespace Sy
open Go.RowKit

def holeZ (s : ByteArray) (bung dip : Int) (v : Value) (n : Nat) : Value :=
  match n with
  | 0 => .string s
  | 1 => .int .i64 bung
  | 2 => .int .i64 dip
  | _ => v
def hNone : Value := .iface 90 (.int .i64 (.ofNat 3))
def isHo (k : Nat) (v : Value) : Bool :=
  match v with
  | .iface t (.int .i64 (.ofNat n)) => Nat.beq t 90 && Nat.beq n k
  | _ => false
noncomputable def isC3 (v : Value) : Bool :=
  match v with
  | .agg a => match a.toList with
    | [x, y, z] => isName0 x && (eqT 90 y hBung && isHo 3 z)
    | _ => false
  | _ => false
theorem isHo_eq {k : Nat} {v : Value} (h : isHo k v = true) : v = .iface 90 (.int .i64 (.ofNat k)) := by
  unfold isHo at h
  split at h
  · simp only [Bool.and_eq_true] at h
    rw [Nat.eq_of_beq_eq_true h.1, Nat.eq_of_beq_eq_true h.2]
  · cases h
section
variable {P : Pg} {s : ByteArray} {bung dip : Int} {sa : Option Addr} {cap : Nat} {O : Obj → Prop}
abbrev DZ (s : ByteArray) (bung dip : Int) (sa : Option Addr) (cap : Nat) : Dn := denG s (holeZ s bung dip (.slice sa 0 cap)) (fun _ => True)
theorem isC3_rel (hd : P.den = DZ s bung dip sa cap) {v v' : Value} {M : Mp} (h : isC3 v = true) (hr : VRel P M v v') : v' = .agg #[.string s, .int .i64 bung, .slice sa 0 cap] := by
  unfold isC3 at h
  split at h
  case h_2 => cases h
  rename_i a
  split at h
  case h_2 => cases h
  rename_i x y z ha
  simp only [Bool.and_eq_true] at h
  cases hr with
  | @agg _ a' hsz hel =>
    have hl : LRel P M a.toList a'.toList := lrel_arr.2 ⟨hsz, hel⟩
    rw [ha] at hl
    obtain ⟨v0, p0, r0⟩ := hl.get (i := 0) rfl
    obtain ⟨v1, p1, r1⟩ := hl.get (i := 1) rfl
    obtain ⟨v2, p2, r2⟩ := hl.get (i := 2) rfl
    have ha3 : a' = #[v0, v1, v2] := by
      apply Array.ext'
      have h3 : a'.toList.length = 3 := by rw [← hl.1]; rfl
      match he : a'.toList, h3 with
      | [z0, z1, z2], _ => rw [he] at p0 p1 p2; simp at p0 p1 p2; rw [p0, p1, p2]
    subst ha3
    have e0 : v0 = .string s := isName0_rel hd rfl _ h.1 _ _ r0
    subst e0
    have hb := eqT_eq _ _ _ h.2.1
    subst hb
    have db : Dv P.den hBung bung := by rw [hd]; exact .hole rfl
    obtain ⟨y, e1, d1⟩ := vrel_num r1 db.num
    subst e1
    have := db.unique _ d1
    subst this
    have hz := isHo_eq h.2.2
    subst hz
    cases r2 with
    | hol _ _ _ => rw [hd]; rfl
    | sym _ ht => rcases ht with h | h <;> exact absurd h (by decide)
/-- a call with the cask that has no stations -/
noncomputable def spC3 (f : Nat) (k : T AObj → Nat → Option (Value × T AObj × Nat)) : CallF := fun t args hp nid =>
  match t with
  | .fn g => ck (Nat.beq g f && Nat.beq args.length 1) (ob args[0]? fun v => ck (isC3 v) (k hp nid))
  | .yield _ => none
theorem spC3_some {f : Nat} {k : T AObj → Nat → Option (Value × T AObj × Nat)} {t : Tgt} {args : List Value} {hp : T AObj} {nid : Nat} {r} (h : spC3 f k t args hp nid = some r) : t = .fn f ∧ k hp nid = some r ∧ args.length = 1 ∧ ∃ v, args[0]? = some v ∧ isC3 v = true := by
  cases t with
  | yield l => cases h
  | fn g =>
    obtain ⟨hg0, h1⟩ := ck_some h
    simp only [Bool.and_eq_true] at hg0
    obtain ⟨u, hu, h2⟩ := ob_some h1
    obtain ⟨hk, h3⟩ := ck_some h2
    exact ⟨by rw [Nat.eq_of_beq_eq_true hg0.1], h3, Nat.eq_of_beq_eq_true hg0.2, u, hu, hk⟩
noncomputable def spSmall0 (f : Nat) : CallF := spC3 f fun hp nid => some (.bool true, hp, nid)
theorem ok_spSmall0 (hp : P.prog = Try.prog) (hd : P.den = DZ s bung dip sa cap) (hs : smallB s 0 bung = true) : CallOk P (spSmall0 5) := fun t args hp0 nid v hp' nid' h => by
  obtain ⟨rfl, h1, hl, u, hu, hc⟩ := spC3_some h
  cases h1
  refine ⟨Nat.le_refl _, fun B M args' w ha hh hB hf => ?_⟩
  obtain ⟨s', rfl, hvr⟩ := args_one ha hl hu
  rw [isC3_rel hd hc hvr]
  show Calls P.prog _ _ _ _
  rw [hp]
  refine Calls.mono (small_any s bung sa 0 cap w) ?_
  rintro e w' ⟨rfl, hbl⟩
  obtain ⟨q1, q2⟩ := below_post nid hh hbl
  exact ⟨M, _, rfl, by rw [hs]; exact .bool true, q1, q2⟩
noncomputable def spCaskR0 (f : Nat) : CallF := spC3 f fun hp nid => some (.tuple #[.iface 120 (.tuple #[hBung]), .iface 121 (.tuple #[hBung])], hp, nid)
theorem ok_spCaskR0 (hp : P.prog = Try.prog) (hd : P.den = DZ s bung dip sa cap) : CallOk P (spCaskR0 18) := fun t args hp0 nid v hp' nid' h => by
  obtain ⟨rfl, h1, hl, u, hu, hc⟩ := spC3_some h
  cases h1
  refine ⟨Nat.le_refl _, fun B M args' w ha hh hB hf => ?_⟩
  obtain ⟨s', rfl, hvr⟩ := args_one ha hl hu
  rw [isC3_rel hd hc hvr]
  show Calls P.prog _ _ _ _
  rw [hp]
  refine Calls.mono (rcask0 s bung sa cap w) ?_
  rintro e w' ⟨rfl, hbl⟩
  obtain ⟨q1, q2⟩ := below_post nid hh hbl
  have db : Dv P.den hBung bung := by rw [hd]; exact .hole rfl
  refine ⟨M, _, rfl, LRel.tup (LRel.cons ?_ (LRel.cons ?_ (LRel.nil M))), q1, q2⟩
  · have e3 : P.den.int 120 [bung] = (caskS s bung []).1 := by rw [hd]; rfl
    rw [← e3]
    exact .sym (app1 (by decide) db) (.inr (by decide))
  · have e3 : P.den.int 121 [bung] = (caskS s bung []).2 := by rw [hd]; rfl
    rw [← e3]
    exact .sym (app1 (by decide) db) (.inr (by decide))
noncomputable def spCopy0 (f : Nat) : CallF := spC3 f fun hp nid => ob (hp.set nid (some (.row [] 92 false))) fun hp => some (.agg #[hName, hBung, .slice (some ⟨nid, 0, none⟩) 0 0], hp, Nat.succ nid)
theorem ok_spCopy0 (hp : P.prog = Try.prog) (hd : P.den = DZ s bung dip sa cap) : CallOk P (spCopy0 9) := fun t args hp0 nid v hp' nid' h => by
  obtain ⟨rfl, h1, hl, u, hu, hc⟩ := spC3_some h
  obtain ⟨hp1, hset, h4⟩ := ob_some h1
  cases h4
  refine ⟨Nat.le_succ _, fun B M args' w ha hh hB hf => ?_⟩
  obtain ⟨s', rfl, hvr⟩ := args_one ha hl hu
  rw [isC3_rel hd hc hvr]
  have hM : M nid = none := hf nid (Nat.le_refl _) (Nat.lt_succ_self _)
  show Calls P.prog _ _ _ _
  rw [hp]
  refine Calls.mono (copy0 s bung sa cap w) ?_
  rintro e w' ⟨⟨b, rfl, hge, hb0⟩, hb⟩
  obtain ⟨k1, k2⟩ := new_post (r := 0) (o := .row [] 92 false) (ob := .cells #[] 92 (0, 0)) hh hB hM hb hge hb0 ⟨#[], rfl, (fun v hv => by cases hv), (fun _ => LRel.nil _), (fun h => by cases h)⟩ (T.get_set _ _ _ _ hset)
  have db : Dv P.den hBung bung := by rw [hd]; exact .hole rfl
  have hn : VRel P (M.upd nid b 0) hName (.string s) := by
    have h0 : P.den.hole 0 = .string s := by rw [hd]; rfl
    have := VRel.hol (P := P) (M := M.upd nid b 0) (n := 0) (by rw [h0]; rfl) (by rw [h0]; rfl) (fun want => by rw [h0]; rfl)
    rw [h0] at this
    exact this
  exact ⟨M.upd nid b 0, _, rfl, LRel.agg (LRel.cons hn (LRel.cons db.vrel (LRel.cons (.slc (Mp.upd_self _ _ _ _) (by decide)) (LRel.nil _)))), k1, k2⟩
end
noncomputable def pgZ (s : ByteArray) (bung dip : Int) (sa : Option Addr) (cap : Nat) (l : List Fact) (ok : ∀ f ∈ l, ∃ x y, Dv (DZ s bung dip sa cap) f.2.1 x ∧ Dv (DZ s bung dip sa cap) f.2.2.1 y ∧ cmpN f.1 x y = f.2.2.2) : Pg :=
  { prog := Try.prog, den := DZ s bung dip sa cap, facts := l, ok := ok, eqs := [(31, 2)], okEq := okRange }
def c3 : Value := .agg #[hName, hBung, hNone]
theorem caskS0_ne (s : ByteArray) (bung : Int) : (caskS s bung []).2 ≠ 0 := fun h => by have := (caskS_ok (N := 0) rfl h).two; omega
theorem okVNone {s : ByteArray} {bung dip : Int} {sa : Option Addr} {cap : Nat} : ∀ f ∈ vBad 0, OkF (DZ s bung dip sa cap) f := by
  have db : Dv (DZ s bung dip sa cap) hBung bung := .hole rfl
  have dd : Dv (DZ s bung dip sa cap) hDip dip := .hole rfl
  have de : Dv (DZ s bung dip sa cap) (errV 0) (caskS s bung []).2 := app1 (t := 121) (by decide) db
  have hz := caskS0_ne s bung
  have dv : Dv (DZ s bung dip sa cap) (badV 0) (caskS s bung []).2 := by
    have h : Dv (DZ s bung dip sa cap) (badV 0) (firstL [(caskS s bung []).2, numE dip 0 0]) := app2 (t := 104) (by decide) de (app3 (t := 103) (by decide) dd (.lit 0) (.lit 0))
    rwa [firstL_cons1 hz] at h
  intro f hf
  simp only [vBad, List.mem_cons, List.not_mem_nil, or_false] at hf
  rcases hf with rfl | rfl | rfl
  · exact eq_no de (.lit 0) hz
  · exact eq_no dv (.lit 0) hz
  · exact eq_yes dv de rfl
end Sy
end Go.Proofs.Ytpfhfphcmomfdaa

/- GaugeVolumes of any cask and dip. -/
set_option linter.unusedVariables false
set_option linter.unusedSimpArgs false
namespace Go.Proofs.Ytpfhfphcmomfdaa
open Go.RowKit
namespace Sy
open Go.RowKit

theorem winAt_of {b off n : Nat} {g : Nat → Int} {w : World} (h0 : 0 < n) (hx : ∀ k, k < n → w.cell? ⟨b, off + k, none⟩ = some (.int .i64 (g k))) : WinAt b off ((List.range n).map g) w := by
  have h := hx 0 h0
  have hcell : ∃ c e fr, w.heap[b]? = some (.cells c e fr) := by
    unfold World.cell? at h
    split at h
    · rename_i c e fr hb
      exact ⟨c, e, fr, hb⟩
    · cases h
  obtain ⟨c, e, fr, hb⟩ := hcell
  refine ⟨c, e, fr, hb, ?_⟩
  have hc : ∀ k, k < n → c[off + k]? = some (.int .i64 (g k)) := fun k hk => by rw [← cell_of_row w b (off + k) c e fr hb]; exact hx k hk
  apply List.ext_getElem?
  intro i
  rw [List.getElem?_take, List.length_map, List.length_range]
  by_cases hi : i < n
  · rw [if_pos hi, List.getElem?_drop, Array.getElem?_toList, hc i hi]
    simp [hi]
  · rw [if_neg hi, List.getElem?_eq_none (by simp; omega)]
theorem small_N {s : ByteArray} {N : Nat} {bung : Int} (h : smallB s N bung = true) : N = 0 ∨ N = 1 ∨ N = 2 ∨ N = 3 ∨ N = 4 ∨ N = 13 ∨ N = 14 := by
  simp only [smallB, Bool.and_eq_true, Bool.or_eq_true, decide_eq_true_eq] at h
  omega
end Sy
end Go.Proofs.Ytpfhfphcmomfdaa
