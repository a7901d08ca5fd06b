import Derived.Test.YtpfhfphcmomfdaaRM
import Derived.Test.YtpfhfphcmomfdaaTC
/- A vessel (a checked cask), and the volumes up to any dip, reckoned with symbols. -/
set_option linter.unusedVariables false
set_option linter.unusedSimpArgs false
namespace Go.Proofs.Ytpfhfphcmomfdaa
open Go.RowKit
namespace Sy
open Go.RowKit

theorem win_cells {gs os : Nat} {xs : List Int} {w : World} (hw : WinAt gs os xs w) (k : Nat) (x : Int) (h : xs[k]? = some x) : w.cell? ⟨gs, os + k, none⟩ = some (.int .i64 x) := by
  obtain ⟨c, e, fr, hb, hc⟩ := hw
  rw [cell_of_row w gs (os + k) c e fr hb]
  have h1 : ((c.toList.drop os).take xs.length)[k]? = some (.int .i64 x) := by rw [hc, List.getElem?_map, h]; rfl
  have hk : k < xs.length := (List.getElem?_eq_some_iff.1 h).1
  rw [List.getElem?_take, if_pos hk, List.getElem?_drop, Array.getElem?_toList] at h1
  exact h1
theorem gcc_win (s : ByteArray) (y : Int) (xs : List Int) (n gs os cap : Nat) (w : World) (hl : xs.length = n * 3) (hw : WinAt gs os xs w) :
    Calls Try.prog 39 #[.agg #[.string s, .int .i64 y, .slice (some ⟨gs, os, none⟩) n cap]] w fun e w' => e = .returned (.tuple #[.int .i64 (caskS s y xs).1, .int .i64 (caskS s y xs).2]) ∧ Below w.heap.size w w' := by
  have hx3 : xs.length / 3 = n := by omega
  by_cases hz : caskE s y n = 0
  · have hcell : ∀ i j, i < n → j < 3 → w.cell? ⟨gs, os + i * 3 + j, none⟩ = some (.int .i64 ((snOf xs i).at j)) := by
      intro i j hi hj
      have hlt : i * 3 + j < xs.length := by omega
      have hgd : xs.getD (i * 3 + j) 0 = xs[i * 3 + j] := by simp [hlt]
      rw [show os + i * 3 + j = os + (i * 3 + j) by omega, win_cells hw (i * 3 + j) xs[i * 3 + j] (List.getElem?_eq_getElem hlt), ← hgd]
      match j, hj with
      | 0, _ => rfl
      | 1, _ => rfl
      | 2, _ => rfl
    have := cask_right s y gs os n cap (snOf xs) w hz hcell
    have e2 : caskS s y xs = eachF (snE y (snOf xs)) n 0 := by
      unfold caskS
      rw [hx3, if_neg (by simp [hz])]
    rw [e2]
    exact this
  · have := cask_wrong s y (some ⟨gs, os, none⟩) n cap w hz
    have e2 : caskS s y xs = (0, caskE s y n) := by
      unfold caskS
      rw [hx3, if_pos hz]
    rw [e2]
    exact this
/-- CheckCask of a cask whose stations are known by a window -/
noncomputable def spCaskW (f : Nat) (nmB : Value → Bool) : CallF := fun t args hp nid =>
  match t with
  | .fn g => ck (Nat.beq g f && Nat.beq args.length 1) (ob args[0]? fun c => withAgg c fun cs => ob cs[0]? fun nm => ob cs[1]? fun bung => ob cs[2]? fun st => withOsk st fun b o n =>
      ob (hp.get b) fun r => withWin r fun row => ck (Nat.beq cs.toList.length 3 && (nmB nm && (isNum bung && (Nat.beq o 0 && (Nat.beq row.length (Nat.mul n 3) && row.all isNum)))))
        (some (.tuple #[.iface 120 (.tuple (bung :: row).toArray), .iface 121 (.tuple (bung :: row).toArray)], hp, nid)))
  | .yield _ => none
theorem ok_spCaskW {P : Pg} (hp : P.prog = Try.prog) {s : ByteArray} {hole : Nat → Value} {O : Obj → Prop} (hd : P.den = denG s hole O) {nmB : Value → Bool} (hs : ∀ v, nmB v = true → ∀ (M : Mp) v', VRel P M v v' → v' = .string s) : CallOk P (spCaskW 39 nmB) := fun t args hp0 nid v hp' nid' h => by
  cases t with
  | yield l => cases h
  | fn g =>
    obtain ⟨hg0, h1⟩ := ck_some h
    clear h
    simp only [Bool.and_eq_true] at hg0
    have hg := Nat.eq_of_beq_eq_true hg0.1
    subst hg
    obtain ⟨c, hc, h2⟩ := ob_some h1
    clear h1
    obtain ⟨cs, rfl, h3⟩ := withAgg_some h2
    clear h2
    obtain ⟨nm, hnm, h4⟩ := ob_some h3
    clear h3
    obtain ⟨bung, hbu, h5⟩ := ob_some h4
    clear h4
    obtain ⟨st, hst, h6⟩ := ob_some h5
    clear h5
    obtain ⟨b, o, n, rfl, h7b⟩ := withOsk_some h6
    clear h6
    obtain ⟨r, hr, h8⟩ := ob_some h7b
    clear h7b
    obtain ⟨row, rfl, h9⟩ := withWin_some h8
    clear h8
    obtain ⟨hk, h10⟩ := ck_some h9
    clear h9
    cases h10
    simp only [Bool.and_eq_true] at hk
    have hcs := Nat.eq_of_beq_eq_true hk.1
    have hrl : row.length = n * 3 := Nat.eq_of_beq_eq_true hk.2.2.2.2.1
    refine ⟨Nat.le_refl _, fun B M args' w ha hh hB hf => ?_⟩
    obtain ⟨s', rfl, hvr⟩ := args_one ha (Nat.eq_of_beq_eq_true hg0.2) hc
    cases hvr with
    | @agg _ a' hsz hel =>
      have hl : LRel P M cs.toList a'.toList := lrel_arr.2 ⟨hsz, hel⟩
      obtain ⟨v0, p0, r0⟩ := hl.get (i := 0) (by simpa using hnm)
      obtain ⟨v1, p1, r1⟩ := hl.get (i := 1) (by simpa using hbu)
      obtain ⟨v2, p2, r2⟩ := hl.get (i := 2) (by simpa using hst)
      have ha3 : a' = #[v0, v1, v2] := by
        apply Array.ext'
        have h3 : a'.toList.length = 3 := by rw [← hl.1]; exact hcs
        match he : a'.toList, h3 with
        | [z0, z1, z2], _ => rw [he] at p0 p1 p2; simp at p0 p1 p2; rw [p0, p1, p2]
      subst ha3
      have e0 : v0 = .string s := hs _ hk.2.1 _ _ r0
      subst e0
      obtain ⟨y, e1, d1⟩ := vrel_num r1 hk.2.2.1
      subst e1
      cases r2 with
      | @osk _ b' rr _ _ cc hb hn =>
        have ho := Nat.eq_of_beq_eq_true hk.2.2.2.1
        subst ho
        obtain ⟨b1, r1', ob, k1, k2, k3, k4⟩ := hh.has b _ hr
        rw [hb] at k1
        cases k1
        obtain ⟨c', e', fr, rfl, hw0, _⟩ := k4
        obtain ⟨xs, m1, m2, m3⟩ := nums_of _ _ hw0 hk.2.2.2.2.2
        have hwin : WinAt b' rr xs w := ⟨c', e', fr, k3, by rw [← m2]; exact m1⟩
        have key := gcc_win s y xs n b' (rr + 0) cc w (by omega) hwin
        show Calls P.prog _ _ _ _
        rw [hp]
        refine Calls.mono key ?_
        rintro e w' ⟨rfl, hbl⟩
        obtain ⟨q1, q2⟩ := below_post nid hh hbl
        have da : ∀ t, 100 ≤ t → Dv P.den (.iface t (.tuple (bung :: row).toArray)) (P.den.int t (y :: xs)) := fun t ht => .app ht (by simp [m2]) (fun i v x hv hx => by
          cases i with
          | zero => simp at hv hx; subst hv hx; exact d1
          | succ i => exact m3 i v x (by simpa using hv) (by simpa using hx))
        refine ⟨M, _, rfl, LRel.tup (LRel.cons ?_ (LRel.cons ?_ (LRel.nil M))), q1, q2⟩
        · have e3 : P.den.int 120 (y :: xs) = (caskS s y xs).1 := by rw [hd]; rfl
          rw [← e3]
          exact .sym (da 120 (by decide)) (.inr (by decide))
        · have e3 : P.den.int 121 (y :: xs) = (caskS s y xs).2 := by rw [hd]; rfl
          rw [← e3]
          exact .sym (da 121 (by decide)) (.inr (by decide))
      | sym h ht => rcases ht with h | h <;> exact absurd h (by decide)

noncomputable def hpOf (o : Option (Value × T AObj × Nat)) : T AObj := Option.rec .leaf (fun q => q.2.1) o
noncomputable def nidOf (o : Option (Value × T AObj × Nat)) : Nat := Option.rec 0 (fun q => q.2.2) o
/-- the first part of what is returned -/
def fstV (v : Value) : Value :=
  match v with
  | .tuple cs => match cs.toList with
    | x :: _ => x
    | [] => .nilFunc
  | _ => .nilFunc
noncomputable def resOf (o : Option (Value × T AObj × Nat)) : Value := Option.rec .nilFunc (fun q => fstV q.1) o
def winK (N : Nat) : Value := .agg #[hName, hBung, .iface 93 (.tuple #[.int .i64 0, .int .i64 0, .int .i64 (.ofNat N)])]
def gF (N : Nat) : List Fact := [(0, errV N, .int .i64 0, true)]
noncomputable def spVes (N : Nat) : CallF := spOr (spCaskW 39 isName0) (spAreas 37 (radiiV N))
noncomputable def spVol : CallF := spOr (spNum numsT) (spUp 38 lvV)
noncomputable def vesR (s : ByteArray) (bung : Int) (xs : List Int) (N : Nat) (ok : ∀ f ∈ gF N, ∃ x y, Dv (denG s (holeV s bung 0 xs) (fun _ => True)) f.2.1 x ∧ Dv (denG s (holeV s bung 0 xs) (fun _ => True)) f.2.2.1 y ∧ cmpN f.1 x y = f.2.2.2) : Option (Value × T AObj × Nat) := evDS (pgV s bung 0 xs (fun _ => True) (gF N) ok) (spVes N) 2000 60 (.fn 19) [winK N] (hpW N) 1
/-- is it a vessel with this name and bung? and what follows may run on -/
noncomputable def vesOk (o : Option (Value × T AObj × Nat)) : Bool := Option.rec false (fun q => isTup2 q.1 && (T.allO (noHO 2) q.2.1 && (T.allO (roOkO q.2.1.get) q.2.1 && (noH 2 40 (fstV q.1) && roOk q.2.1.get 20 (fstV q.1))))) o
  where isTup2 (v : Value) : Bool := match v with
    | .tuple cs => match cs.toList with
      | [.agg a, .int .i64 (.ofNat 0)] => match a.toList with
        | [x, y, .iface t p, .slice (some ⟨_, 0, none⟩) _ _] => Nat.beq t 93 && (isName0 x && eqT 90 y hBung)
        | _ => false
      | _ => false
    | _ => false
end Sy
end Go.Proofs.Ytpfhfphcmomfdaa

/- A vessel, and the volumes up to any dip: the runs. -/
set_option linter.unusedVariables false
set_option linter.unusedSimpArgs false
namespace Go.Proofs.Ytpfhfphcmomfdaa
open Go.RowKit
namespace Sy
open Go.RowKit

section
variable (s : ByteArray) (bung dip : Int) (xs : List Int)
theorem vesOk2 (ok) : vesOk (vesR s bung xs 2 ok) = true := by kernel_rfl
theorem volRunA2 (ok ok') : fstO (evDS (pgV s bung dip xs (fun _ => True) [] ok') spVol 2000 60 (.fn 22) [roV 20 (resOf (vesR s bung xs 2 ok)), hDip] (T.mapO roO (hpOf (vesR s bung xs 2 ok))) (nidOf (vesR s bung xs 2 ok))) = some (.agg #[fLo lvV 2, fHi lvV 2]) := by kernel_rfl
theorem vesOk3 (ok) : vesOk (vesR s bung xs 3 ok) = true := by kernel_rfl
theorem volRunA3 (ok ok') : fstO (evDS (pgV s bung dip xs (fun _ => True) [] ok') spVol 2000 60 (.fn 22) [roV 20 (resOf (vesR s bung xs 3 ok)), hDip] (T.mapO roO (hpOf (vesR s bung xs 3 ok))) (nidOf (vesR s bung xs 3 ok))) = some (.agg #[fLo lvV 3, fHi lvV 3]) := by kernel_rfl
theorem vesOk4 (ok) : vesOk (vesR s bung xs 4 ok) = true := by kernel_rfl
theorem volRunA4 (ok ok') : fstO (evDS (pgV s bung dip xs (fun _ => True) [] ok') spVol 2000 60 (.fn 22) [roV 20 (resOf (vesR s bung xs 4 ok)), hDip] (T.mapO roO (hpOf (vesR s bung xs 4 ok))) (nidOf (vesR s bung xs 4 ok))) = some (.agg #[fLo lvV 4, fHi lvV 4]) := by kernel_rfl
end
end Sy
end Go.Proofs.Ytpfhfphcmomfdaa

/- What vesselOf answers of a right cask: a vessel that tells the volume up to any dip. -/
set_option linter.unusedVariables false
set_option linter.unusedSimpArgs false
namespace Go.Proofs.Ytpfhfphcmomfdaa
open Go.RowKit
namespace Sy
open Go.RowKit

def VolAt (v : Value) (bung : Int) (xs : List Int) (N : Nat) (w : World) : Prop :=
  ∀ m : Int, 0 ≤ m → m ≤ 2 * bung → ∀ w1, Below w.heap.size w w1 → Calls Try.prog 22 #[v, .int .i64 m] w1 fun e w2 => e = .returned (.agg #[.int .i64 (vLo bung xs N m), .int .i64 (vHi bung xs N m)]) ∧ Below w1.heap.size w1 w2
theorem okG {s : ByteArray} {bung : Int} {xs : List Int} {N : Nat} {O : Obj → Prop} (hl : xs.length = N * 3) (hz : (caskS s bung xs).2 = 0) : ∀ f ∈ gF N, OkF (D0 s bung 0 xs O) f := by
  intro f hf
  simp only [gF, List.mem_cons, List.not_mem_nil, or_false] at hf
  subst hf
  exact eq_yes (dErr hl) (.lit 0) hz
theorem okVes {s : ByteArray} {bung : Int} {xs : List Int} {N : Nat} {O : Obj → Prop} {l ok} (hc : CaskOk bung xs N) : CallOk (pgV s bung 0 xs O l ok) (spVes N) :=
  ok_spOr (ok_spCaskW rfl rfl (isName0_rel rfl rfl)) (ok_spAreas rfl rfl (radii_ok hc))
theorem okVol {s : ByteArray} {bung dip : Int} {xs : List Int} {N : Nat} {O : Obj → Prop} {l ok} (hc : CaskOk bung xs N) (h0 : 0 ≤ dip) (h1 : dip ≤ 2 * bung) : CallOk (pgV s bung dip xs O l ok) spVol := by
  have h8 := hc.hi
  have h10 := hc.lo
  exact ok_spOr (ok_spNum (ok_numsT rfl rfl)) (ok_spUp rfl rfl (dLvA hc h0 h1) (by omega) (by omega))
theorem vesShape {v : Value} (h : vesOk.isTup2 v = true) : ∃ a x y p b n c, v = .tuple #[.agg a, .int .i64 0] ∧ a.toList = [x, y, .iface 93 p, .slice (some ⟨b, 0, none⟩) n c] ∧ isName0 x = true ∧ y = hBung := by
  unfold vesOk.isTup2 at h
  split at h
  case h_2 => cases h
  rename_i cs
  split at h
  case h_2 => cases h
  rename_i a e
  split at h
  case h_2 => cases h
  rename_i x y t p b n c e2
  simp only [Bool.and_eq_true] at h
  have ht := Nat.eq_of_beq_eq_true h.1
  subst ht
  exact ⟨a, x, y, p, b, n, c, by congr 1; apply Array.ext'; exact e, e2, h.2.1, eqT_eq _ _ _ h.2.2⟩
theorem vesOk_some {v : Value} {hp : T AObj} {nid : Nat} (h : vesOk (some (v, hp, nid)) = true) : vesOk.isTup2 v = true ∧ T.allO (noHO 2) hp = true ∧ T.allO (roOkO hp.get) hp = true ∧ noH 2 40 (fstV v) = true ∧ roOk hp.get 20 (fstV v) = true := by
  have h : (vesOk.isTup2 v && (T.allO (noHO 2) hp && (T.allO (roOkO hp.get) hp && (noH 2 40 (fstV v) && roOk hp.get 20 (fstV v))))) = true := h
  simpa only [Bool.and_eq_true] using h
theorem holeV_but {s : ByteArray} {bung m : Int} {xs : List Int} (n : Nat) (hn : n ≠ 2) : holeV s bung m xs n = holeV s bung 0 xs n := by
  match n, hn with
  | 0, _ => rfl
  | 1, _ => rfl
  | 2, h => exact absurd rfl h
  | n + 3, _ => rfl
theorem ves_any {s : ByteArray} {bung : Int} {xs : List Int} {N gs os cap : Nat} {w : World} (hN : N = 2 ∨ N = 3 ∨ N = 4) (hl : xs.length = N * 3) (hw : WinAt gs os xs w) (hcap : N ≤ cap) (hz : (caskS s bung xs).2 = 0) :
    Calls Try.prog 19 #[.agg #[.string s, .int .i64 bung, .slice (some ⟨gs, os, none⟩) N cap]] w fun e w' => (∃ p2 n2 c2 p3 n3 c3, e = .returned (.tuple #[.agg #[.string s, .int .i64 bung, .slice p2 n2 c2, .slice p3 n3 c3], .int .i64 0]) ∧ VolAt (.agg #[.string s, .int .i64 bung, .slice p2 n2 c2, .slice p3 n3 c3]) bung xs N w') ∧ Below w.heap.size w w' := by
  obtain ⟨ob, hob⟩ : ∃ ob, w.heap[gs]? = some ob := by obtain ⟨c, e, f, h, _⟩ := hw; exact ⟨_, h⟩
  have hc := caskS_ok hl hz
  have ok := okG (O := fun _ => True) hl hz
  have h1 : vesOk (vesR s bung xs N ok) = true := by
    rcases hN with rfl | rfl | rfl
    · exact vesOk2 s bung xs ok
    · exact vesOk3 s bung xs ok
    · exact vesOk4 s bung xs ok
  have h2 : ∀ (m : Int) (ok'), fstO (evDS (pgV s bung m xs (fun _ => True) [] ok') spVol 2000 60 (.fn 22) [roV 20 (resOf (vesR s bung xs N ok)), hDip] (T.mapO roO (hpOf (vesR s bung xs N ok))) (nidOf (vesR s bung xs N ok))) = some (.agg #[fLo lvV N, fHi lvV N]) := by
    intro m ok'
    rcases hN with rfl | rfl | rfl
    · exact volRunA2 s bung m xs ok ok'
    · exact volRunA3 s bung m xs ok ok'
    · exact volRunA4 s bung m xs ok ok'
  cases hr : vesR s bung xs N ok with
  | none => rw [hr] at h1; cases h1
  | some q =>
    obtain ⟨v1, hp1, nid⟩ := q
    rw [hr] at h1 h2
    obtain ⟨k1, k2, k3, k4, k5⟩ := vesOk_some h1
    have get0 : ∀ id o, (hpW N).get id = some o → id = 0 ∧ o = .win (rowV N) := by
      intro id o e
      unfold hpW at e
      rw [T.get_node] at e
      by_cases hi : id = 0
      · subst hi; simp at e; exact ⟨rfl, e.symm⟩
      · simp [hi, T.get_leaf] at e
    have nw : ∀ id, wrt ((hpW N).get id) = false := fun id => by
      cases e : (hpW N).get id with
      | none => rfl
      | some o => obtain ⟨_, rfl⟩ := get0 id o e; rfl
    have ho := winO (P := pgV s bung 0 xs (fun _ => True) (gF N) ok) (M := mp1 gs os) (row := rowV N) (by rw [rowV_len, hl]) rowV_den hw hob trivial
    have ha : LRel (pgV s bung 0 xs (fun _ => True) (gF N) ok) (mp1 gs os) [winK N] [.agg #[.string s, .int .i64 bung, .slice (some ⟨gs, os, none⟩) N cap]] :=
      LRel.cons (LRel.agg (LRel.cons (.hol (P := pgV s bung 0 xs (fun _ => True) (gF N) ok) (n := 0) rfl rfl (fun _ => rfl)) (LRel.cons (Dv.vrel (P := pgV s bung 0 xs (fun _ => True) (gF N) ok) dBung) (LRel.cons (.osk (o := 0) (show mp1 gs os 0 = some (gs, os) from rfl) hcap) (LRel.nil _))))) (LRel.nil _)
    refine Calls.mono (reckonS (P := pgV s bung 0 xs (fun _ => True) (gF N) ok) (B := 0) (M := mp1 gs os) (by kernel_rfl) (okVes hc) hr ha ⟨fun id o e => ?_, fun i j b r r' hi => by rw [nw i] at hi; cases hi⟩ (Nat.zero_le _) (fun id h1 _ => if_neg (by omega))) ?_
    · obtain ⟨rfl, rfl⟩ := get0 id o e
      exact ⟨gs, os, ob, rfl, Nat.zero_le _, hob, ho⟩
    · rintro e w' ⟨M', v', rfl, hvr, hh, hev⟩
      obtain ⟨a, x, y, p, b, n, c, rfl, ea, hx, rfl⟩ := vesShape k1
      cases hvr with
      | @tup _ b' hsz hel =>
      have hL := lrel_arr.2 ⟨hsz, hel⟩
      obtain ⟨u0, p0, r0⟩ := hL.get (i := 0) rfl
      obtain ⟨u1, p1, r1⟩ := hL.get (i := 1) rfl
      have hb2 : b' = #[u0, u1] := by
        apply Array.ext'
        have h3 : b'.toList.length = 2 := by rw [← hL.1]; rfl
        match he : b'.toList, h3 with
        | [z0, z1], _ => rw [he] at p0 p1; simp at p0 p1; rw [p0, p1]
      subst hb2
      cases r1
      have k4 : noH 2 40 (.agg a) = true := k4
      have k5 : roOk hp1.get 20 (.agg a) = true := k5
      have r0c := r0
      cases r0 with
      | @agg _ a' hsz2 hel2 =>
      have hA := lrel_arr.2 ⟨hsz2, hel2⟩
      rw [ea] at hA
      obtain ⟨z0, q0, s0⟩ := hA.get (i := 0) rfl
      obtain ⟨z1, q1, s1⟩ := hA.get (i := 1) rfl
      obtain ⟨z2, q2, s2⟩ := hA.get (i := 2) rfl
      obtain ⟨z3, q3, s3⟩ := hA.get (i := 3) rfl
      have ha4 : a' = #[z0, z1, z2, z3] := by
        apply Array.ext'
        have h3 : a'.toList.length = 4 := by rw [← hA.1]; rfl
        match he : a'.toList, h3 with
        | [y0, y1, y2, y3], _ => rw [he] at q0 q1 q2 q3; simp at q0 q1 q2 q3; rw [q0, q1, q2, q3]
      subst ha4
      have e0 : z0 = .string s := isName0_rel rfl rfl _ hx _ _ s0
      subst e0
      have db : Dv (D0 s bung 0 xs (fun _ => True)) hBung bung := dBung
      obtain ⟨y1, e1, d1⟩ := vrel_num s1 db.num
      subst e1
      have := db.unique _ d1
      subst this
      obtain ⟨q2', n2, c2, e2⟩ : ∃ q n c, z2 = .slice q n c := by
        cases s2 with
        | sym _ ht => rcases ht with h | h <;> exact absurd h (by decide)
        | osk h hn => exact ⟨_, _, _, rfl⟩
      obtain ⟨q3', n3, c3, e3⟩ : ∃ q n c, z3 = .slice q n c := by
        cases s3 <;> exact ⟨_, _, _, rfl⟩
      subst e2 e3
      refine ⟨⟨q2', n2, c2, q3', n3, c3, rfl, fun m m0 m1 w1 hb1 => ?_⟩, hev.os, hev.tape, hev.output, hev.size, fun b hb => hev.frame b hb fun id r hi => by rw [nw id] at hi; cases hi⟩
      have okn : ∀ f ∈ ([] : List Fact), OkF (D0 s bung m xs (fun _ => True)) f := ok_none
      have g1 := (below_post nid hh hb1).1
      have g2 : HRel (pgV s bung m xs (fun _ => True) [] okn) 0 M' hp1.get w1 := HRel.den (P := pgV s bung 0 xs (fun _ => True) (gF N) ok) (P' := pgV s bung m xs (fun _ => True) [] okn) (k := 2) rfl rfl (fun n hn => holeV_but n hn) rfl rfl (fun id o e => T.allO_get hp1 id o k2 e) g1
      obtain ⟨g3, g4⟩ := HRel.ro (fun _ => trivial) k3 g2
      have g5 : VRel (pgV s bung m xs (fun _ => True) [] okn) M' (.agg a) (.agg #[.string s, .int .i64 bung, .slice q2' n2 c2, .slice q3' n3 c3]) := VRel.den (P := pgV s bung 0 xs (fun _ => True) (gF N) ok) (P' := pgV s bung m xs (fun _ => True) [] okn) (k := 2) rfl (fun n hn => holeV_but n hn) 40 _ _ k4 r0c
      have g6 := VRel.ro (g := hp1.get) 20 _ _ k5 g5
      have hfree : ∀ id, nid ≤ id → roM hp1.get M' id = none := fun id hid => by
        have hle := hev.le
        have hM : M' id = none := by
          cases e : M' id with
          | none => rfl
          | some z => have := hev.dom id (if_neg (by omega)) (by rw [e]; simp); omega
        unfold roM
        rw [hM]
        rfl
      refine Calls.mono (run_ro (P := pgV s bung m xs (fun _ => True) [] okn) rfl (by kernel_rfl) (okVol hc m0 m1) (h2 m okn) (args' := #[.agg #[.string s, .int .i64 bung, .slice q2' n2 c2, .slice q3' n3 c3], .int .i64 m]) (LRel.cons g6 (LRel.cons (Dv.vrel (P := pgV s bung m xs (fun _ => True) [] okn) dDip) (LRel.nil _))) g3 g4 hfree) ?_
      rintro e w2 ⟨M2, v2, rfl, hv2, hb2⟩
      refine ⟨?_, hb2⟩
      have dl := dFLo (N := N) (dLvA (s := s) (xs := xs) (O := fun _ => True) hc m0 m1)
      have dh := dFHi (N := N) (dLvA (s := s) (xs := xs) (O := fun _ => True) hc m0 m1)
      cases hv2 with
      | @agg _ f' hsz3 hel3 =>
      have hF := lrel_arr.2 ⟨hsz3, hel3⟩
      obtain ⟨t0, i0, j0⟩ := hF.get (i := 0) rfl
      obtain ⟨t1, i1, j1⟩ := hF.get (i := 1) rfl
      have hf2 : f' = #[t0, t1] := by
        apply Array.ext'
        have h3 : f'.toList.length = 2 := by rw [← hF.1]; rfl
        match he : f'.toList, h3 with
        | [z0, z1], _ => rw [he] at i0 i1; simp at i0 i1; rw [i0, i1]
      subst hf2
      obtain ⟨x0, e3, d3⟩ := vrel_num j0 dl.num
      obtain ⟨x1, e4, d4⟩ := vrel_num j1 dh.num
      subst e3 e4
      rw [← dl.unique _ d3, ← dh.unique _ d4]
      rfl
end Sy
end Go.Proofs.Ytpfhfphcmomfdaa
