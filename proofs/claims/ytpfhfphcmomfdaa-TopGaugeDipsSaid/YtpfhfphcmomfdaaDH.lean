/- What the law TopGaugeDips asks of calls: gaugings by dips, names; casks and lists as holes; combs of facts. -/
import Derived.Test.YtpfhfphcmomfdaaDD
import Derived.Test.YtpfhfphcmomfdaaDG
import Derived.Test.YtpfhfphcmomfdaaRM
import Derived.Test.YtpfhfphcmomfdaaJ11
import Derived.Test.YtpfhfphcmomfdaaMA
set_option linter.unusedVariables false
set_option linter.unusedSimpArgs false
namespace Go.Proofs.Ytpfhfphcmomfdaa
open Go.RowKit
namespace Sy
open Go.RowKit

/-! Facts one behind the other: a run for each that fails first. -/
def negF (g : Fact) : Fact := (g.1, g.2.1, g.2.2.1, !g.2.2.2)
theorem ok_or {D : Dn} (g : Fact) (h : ∃ x y, Dv D g.2.1 x ∧ Dv D g.2.2.1 y) : OkF D g ∨ OkF D (negF g) := by
  obtain ⟨x, y, hx, hy⟩ := h
  by_cases hc : cmpN g.1 x y = g.2.2.2
  · exact .inl ⟨x, y, hx, hy, hc⟩
  · refine .inr ⟨x, y, hx, hy, ?_⟩
    show cmpN g.1 x y = !g.2.2.2
    cases h1 : cmpN g.1 x y <;> cases h2 : g.2.2.2 <;> simp_all
theorem ok_app {D : Dn} {F G : List Fact} (h : ∀ f ∈ F, OkF D f) (k : ∀ f ∈ G, OkF D f) : ∀ f ∈ F ++ G, OkF D f := fun f hf => by
  rcases List.mem_append.1 hf with h1 | h1
  · exact h f h1
  · exact k f h1
theorem ok_one {D : Dn} {g : Fact} (h : OkF D g) : ∀ f ∈ [g], OkF D f := fun f hf => by simp at hf; subst hf; exact h
theorem comb {D : Dn} {Q : Prop} {F G : List Fact} (p : ∀ f ∈ F, OkF D f) (hd : ∀ g ∈ G, ∃ x y, Dv D g.2.1 x ∧ Dv D g.2.2.1 y) (he : ∀ k g, G[k]? = some g → (∀ f ∈ F ++ (G.take k ++ [negF g]), OkF D f) → Q) : Q ∨ ∀ f ∈ G, OkF D f := by
  have key : ∀ n, n ≤ G.length → Q ∨ ∀ f ∈ G.take n, OkF D f := by
    intro n
    induction n with
    | zero => intro _; exact .inr ok_nil
    | succ n ih =>
      intro hn
      rcases ih (by omega) with q | h
      · exact .inl q
      · have hg : G[n]? = some G[n] := List.getElem?_eq_getElem (by omega)
        rcases ok_or G[n] (hd _ (List.getElem_mem _)) with h1 | h1
        · exact .inr (ok_more h hg h1)
        · exact .inl (he n _ hg (ok_app p (ok_snoc h h1)))
  rcases key G.length (Nat.le_refl _) with q | h
  · exact .inl q
  · rw [List.take_length] at h; exact .inr h

/-! Casks and lists as holes. -/
theorem ok_spSmallH {P : Pg} (hp : P.prog = Try.prog) {s : ByteArray} {bung : Int} {hole : Nat → Value} {c : Bool} {O : Obj → Prop} (hd : P.den = denG s hole O) (q0 : hole 0 = .string s) (q1 : hole 1 = .int .i64 bung) {N : Nat} (hc : smallB s N bung = c) : CallOk P (spSmall 5 N c) := fun t args hp0 nid v hp' nid' h => by
  cases t with
  | yield l => cases h
  | fn g =>
    obtain ⟨hg0, h1⟩ := ck_some h
    clear h
    simp only [Bool.and_eq_true] at hg0
    have hg := Nat.eq_of_beq_eq_true hg0.1
    subst hg
    obtain ⟨u, hu, h2⟩ := ob_some h1
    clear h1
    obtain ⟨cs, rfl, h3⟩ := withAgg_some h2
    clear h2
    obtain ⟨nm, hnm, h4⟩ := ob_some h3
    clear h3
    obtain ⟨bu, hbu, h5⟩ := ob_some h4
    clear h4
    obtain ⟨st, hst, h6⟩ := ob_some h5
    clear h5
    obtain ⟨hk, h7⟩ := ck_some h6
    clear h6
    simp only [Bool.and_eq_true] at hk
    have hcs := Nat.eq_of_beq_eq_true hk.1
    have hb := eqT_eq _ _ _ hk.2.2
    subst hb
    have fin : v = .bool c ∧ hp' = hp0 ∧ nid' = nid ∧ ∀ (M : Mp) v', VRel P M st v' → ∃ sa cap, v' = .slice sa N cap := by
      rcases orE_some h7 with h8 | h8
      · obtain ⟨id, lt, rfl, h9⟩ := withOsl_some h8
        obtain ⟨n, rfl, h10⟩ := withNat_some h9
        obtain ⟨hn, h11⟩ := ck_some h10
        have hn := Nat.eq_of_beq_eq_true hn
        subst hn
        cases h11
        refine ⟨rfl, rfl, rfl, fun M v' hr => ?_⟩
        cases hr with
        | @osl _ b' rr n' cc _ hb hn =>
          have hn' : ((n' : Nat) : Int) = (n : Int) := (Dv.unique (.lit (n : Int)) _ hn).symm
          have hn' : n' = n := by omega
          subst hn'
          exact ⟨_, _, rfl⟩
        | sym h ht => rcases ht with h | h <;> exact absurd h (by decide)
      · rcases withSlc_some h8 with ⟨n, cp, rfl, h9⟩ | ⟨_, _, _, _, _, h9⟩
        · obtain ⟨hn, h11⟩ := ck_some h9
          have hn := Nat.eq_of_beq_eq_true hn
          subst hn
          cases h11
          refine ⟨rfl, rfl, rfl, fun M v' hr => ?_⟩
          cases hr
          exact ⟨_, _, rfl⟩
        · cases h9
    obtain ⟨rfl, rfl, rfl, hsl⟩ := fin
    refine ⟨Nat.le_refl _, fun B M args' w ha hh hB hf => ?_⟩
    obtain ⟨s', rfl, hvr⟩ := args_one ha (Nat.eq_of_beq_eq_true hg0.2) hu
    cases hvr with
    | @agg _ a' hsz hel =>
      have hl : LRel P M cs.toList a'.toList := lrel_arr.2 ⟨hsz, hel⟩
      obtain ⟨v0, p0, r0⟩ := hl.get (i := 0) (by simpa using hnm)
      obtain ⟨v1, p1, r1⟩ := hl.get (i := 1) (by simpa using hbu)
      obtain ⟨v2, p2, r2⟩ := hl.get (i := 2) (by simpa using hst)
      have ha3 : a' = #[v0, v1, v2] := by
        apply Array.ext'
        have h3 : a'.toList.length = 3 := by rw [← hl.1]; exact hcs
        match he : a'.toList, h3 with
        | [z0, z1, z2], _ => rw [he] at p0 p1 p2; simp at p0 p1 p2; rw [p0, p1, p2]
      subst ha3
      have e0 : v0 = .string s := isName0_rel hd q0 _ hk.2.1 _ _ r0
      subst e0
      have db : Dv P.den hBung bung := by rw [hd]; exact .hole q1
      obtain ⟨y, e1, d1⟩ := vrel_num r1 db.num
      subst e1
      have := db.unique _ d1
      subst this
      obtain ⟨sa, cap, rfl⟩ := hsl M _ r2
      show Calls P.prog _ _ _ _
      rw [hp]
      refine Calls.mono (small_any s bung sa N cap w) ?_
      rintro e w' ⟨rfl, hbl⟩
      obtain ⟨q1, q2⟩ := below_post nid' hh hbl
      exact ⟨M, _, rfl, by rw [hc]; exact .bool c, q1, q2⟩
section
variable {P : Pg} {s : ByteArray} {bung : Int} {hole : Nat → Value} {sa : Option Addr} {N cap : Nat} {O : Obj → Prop}
theorem isC3_relH (hd : P.den = denG s hole O) (q0 : hole 0 = .string s) (q1 : hole 1 = .int .i64 bung) (q3 : hole 3 = .slice sa N cap) {v v' : Value} {M : Mp} (h : isC3 v = true) (hr : VRel P M v v') : v' = .agg #[.string s, .int .i64 bung, .slice sa N cap] := by
  unfold isC3 at h
  split at h
  case h_2 => cases h
  rename_i a
  split at h
  case h_2 => cases h
  rename_i x y z ha
  simp only [Bool.and_eq_true] at h
  cases hr with
  | @agg _ a' hsz hel =>
    have hl : LRel P M a.toList a'.toList := lrel_arr.2 ⟨hsz, hel⟩
    rw [ha] at hl
    obtain ⟨v0, p0, r0⟩ := hl.get (i := 0) rfl
    obtain ⟨v1, p1, r1⟩ := hl.get (i := 1) rfl
    obtain ⟨v2, p2, r2⟩ := hl.get (i := 2) rfl
    have ha3 : a' = #[v0, v1, v2] := by
      apply Array.ext'
      have h3 : a'.toList.length = 3 := by rw [← hl.1]; rfl
      match he : a'.toList, h3 with
      | [z0, z1, z2], _ => rw [he] at p0 p1 p2; simp at p0 p1 p2; rw [p0, p1, p2]
    subst ha3
    have e0 : v0 = .string s := isName0_rel hd q0 _ h.1 _ _ r0
    subst e0
    have hb := eqT_eq _ _ _ h.2.1
    subst hb
    have db : Dv P.den hBung bung := by rw [hd]; exact .hole q1
    obtain ⟨y, e1, d1⟩ := vrel_num r1 db.num
    subst e1
    have := db.unique _ d1
    subst this
    have hz := isHo_eq h.2.2
    subst hz
    cases r2 with
    | hol _ _ _ => rw [hd, show (denG s hole O).hole 3 = .slice sa N cap from q3]
    | sym _ ht => rcases ht with h | h <;> exact absurd h (by decide)
theorem ok_spSmallYH (hp : P.prog = Try.prog) (hd : P.den = denG s hole O) (q0 : hole 0 = .string s) (q1 : hole 1 = .int .i64 bung) (q3 : hole 3 = .slice sa N cap) {c : Bool} (hs : smallB s N bung = c) : CallOk P (spSmallY 5 c) := fun t args hp0 nid v hp' nid' h => by
  obtain ⟨rfl, h1, hl, u, hu, hc⟩ := spC3_some h
  cases h1
  refine ⟨Nat.le_refl _, fun B M args' w ha hh hB hf => ?_⟩
  obtain ⟨s', rfl, hvr⟩ := args_one ha hl hu
  rw [isC3_relH hd q0 q1 q3 hc hvr]
  show Calls P.prog _ _ _ _
  rw [hp]
  refine Calls.mono (small_any s bung sa N cap w) ?_
  rintro e w' ⟨rfl, hbl⟩
  obtain ⟨k1, k2⟩ := below_post nid hh hbl
  exact ⟨M, _, rfl, by rw [hs]; exact .bool c, k1, k2⟩
theorem ok_spCaskYH (hp : P.prog = Try.prog) (hd : P.den = denG s hole O) (q0 : hole 0 = .string s) (q1 : hole 1 = .int .i64 bung) (q3 : hole 3 = .slice sa 0 cap) : CallOk P (spCaskR0 18) := fun t args hp0 nid v hp' nid' h => by
  obtain ⟨rfl, h1, hl, u, hu, hc⟩ := spC3_some h
  cases h1
  refine ⟨Nat.le_refl _, fun B M args' w ha hh hB hf => ?_⟩
  obtain ⟨s', rfl, hvr⟩ := args_one ha hl hu
  rw [isC3_relH hd q0 q1 q3 hc hvr]
  show Calls P.prog _ _ _ _
  rw [hp]
  refine Calls.mono (rcask0 s bung sa cap w) ?_
  rintro e w' ⟨rfl, hbl⟩
  obtain ⟨k1, k2⟩ := below_post nid hh hbl
  have db : Dv P.den hBung bung := by rw [hd]; exact .hole q1
  refine ⟨M, _, rfl, LRel.tup (LRel.cons ?_ (LRel.cons ?_ (LRel.nil M))), k1, k2⟩
  · have e3 : P.den.int 120 [bung] = (caskS s bung []).1 := by rw [hd]; rfl
    rw [← e3]
    exact .sym (app1 (by decide) db) (.inr (by decide))
  · have e3 : P.den.int 121 [bung] = (caskS s bung []).2 := by rw [hd]; rfl
    rw [← e3]
    exact .sym (app1 (by decide) db) (.inr (by decide))
theorem c3_relH (hd : P.den = denG s hole O) (q0 : hole 0 = .string s) (q1 : hole 1 = .int .i64 bung) (q3 : hole 3 = .slice sa N cap) (M : Mp) : VRel P M c3 (.agg #[.string s, .int .i64 bung, .slice sa N cap]) := by
  have h0 : P.den.hole 0 = .string s := by rw [hd]; exact q0
  have h3 : P.den.hole 3 = .slice sa N cap := by rw [hd]; exact q3
  have a0 : VRel P M hName (.string s) := by
    have := VRel.hol (P := P) (M := M) (n := 0) (by rw [h0]; rfl) (by rw [h0]; rfl) (fun want => by rw [h0]; rfl)
    rw [h0] at this
    exact this
  have a3 : VRel P M hNone (.slice sa N cap) := by
    have : VRel P M hNone (P.den.hole 3) := by
      cases sa <;> exact VRel.hol (P := P) (M := M) (n := 3) (by rw [h3]; rfl) (by rw [h3]; rfl) (fun want => by rw [h3]; rfl)
    rw [h3] at this
    exact this
  have db : Dv P.den hBung bung := by rw [hd]; exact .hole q1
  exact LRel.agg (LRel.cons a0 (LRel.cons db.vrel (LRel.cons a3 (LRel.nil _))))
end

/-! Thousandths. -/
theorem floorM_any (n : Int) (w : World) : Calls Try.prog 56 #[.int .i64 n, .int .i64 1000] w fun e w' => e = .returned (.int .i64 (floorM n)) ∧ w = w' := by
  by_cases h : n.tmod 1000 < 0
  · go_enter Try.func56, Try.ntmps56
    go_wp2
    go_ret
    refine ⟨?_, rfl⟩
    rw [floorM, if_pos h]
    rfl
  · go_enter Try.func56, Try.ntmps56
    go_wp2
    go_ret
    refine ⟨?_, rfl⟩
    rw [floorM, if_neg (by omega)]
    rfl
theorem ceilM_any (n : Int) (w : World) : Calls Try.prog 57 #[.int .i64 n, .int .i64 1000] w fun e w' => e = .returned (.int .i64 (ceilM n)) ∧ w = w' := by
  obtain ⟨m, hm⟩ : ∃ m, IntKind.i64.wrap (-n) = m := ⟨_, rfl⟩
  go_enter Try.func57, Try.ntmps57
  go_wp2_with (go_at_call 56; refine Calls.mono (floorM_any _ _) ?_; rintro e w2 ⟨rfl, rfl⟩)
  go_ret
  refine ⟨?_, rfl⟩
  rw [ceilM, hm]
  rfl
theorem floorM_mul {x : Int} (h : -1000000000000 ≤ x ∧ x ≤ 1000000000000) : floorM (1000 * x) = x := by
  unfold floorM
  rw [Int.mul_tmod_right, if_neg (by decide), Int.mul_tdiv_cancel_left _ (by decide)]
  exact IntWalk.wrap64_in _ (by omega)
theorem ceilM_mul {x : Int} (h : -1000000000000 ≤ x ∧ x ≤ 1000000000000) : ceilM (1000 * x) = x := by
  unfold ceilM
  rw [IntWalk.i64_in (-(1000 * x)) (by omega), show -(1000 * x) = 1000 * (-x) by omega, floorM_mul (by omega), Int.neg_neg]
  exact IntWalk.wrap64_in _ (by omega)
theorem ok_numsM {P : Pg} (hp : P.prog = Try.prog) {s : ByteArray} {hole : Nat → Value} {O : Obj → Prop} (hd : P.den = denG s hole O) : ∀ x ∈ numsM, NumOk P x := by
  intro x hx
  simp only [numsM, List.mem_cons, List.not_mem_nil, or_false] at hx
  rcases hx with rfl | rfl
  · refine ⟨by decide, fun xs w hl => ?_⟩
    match xs, hl with
    | [n], _ => rw [hp, hd]; exact still_call (floorM_any n w)
  · refine ⟨by decide, fun xs w hl => ?_⟩
    match xs, hl with
    | [n], _ => rw [hp, hd]; exact still_call (ceilM_any n w)
theorem ok_numsD {P : Pg} (hp : P.prog = Try.prog) {s : ByteArray} {hole : Nat → Value} {O : Obj → Prop} (hd : P.den = denG s hole O) : ∀ x ∈ numsD, NumOk P x := ok_numsT hp hd

/-! Names, no loss, the day 500. -/
theorem ok_spNm {P : Pg} (hp : P.prog = Try.prog) {s : ByteArray} {hole : Nat → Value} {O : Obj → Prop} (hd : P.den = denG s hole O) (q0 : hole 0 = .string s) {f : Nat} (hN : ∀ w : World, Calls Try.prog f #[.string s] w fun e w' => e = .returned (.bool true) ∧ Below w.heap.size w w') : CallOk P (spNm f) := fun t args hp0 nid v hp' nid' h => by
  cases t with
  | yield l => cases h
  | fn g =>
    obtain ⟨hck, h1⟩ := ck_some h
    clear h
    simp only [Bool.and_eq_true] at hck
    have hg := Nat.eq_of_beq_eq_true hck.1
    subst hg
    obtain ⟨u, hu, h2⟩ := ob_some h1
    clear h1
    obtain ⟨hk, h3⟩ := ck_some h2
    cases h3
    refine ⟨Nat.le_refl _, fun B M args' w ha hh hB hf => ?_⟩
    obtain ⟨s', rfl, hvr⟩ := args_one ha (Nat.eq_of_beq_eq_true hck.2) hu
    have e0 : s' = .string s := isName0_rel hd q0 _ hk _ _ hvr
    subst e0
    show Calls P.prog _ _ _ _
    rw [hp]
    refine Calls.mono (hN w) ?_
    rintro e w' ⟨rfl, hbl⟩
    obtain ⟨q1, q2⟩ := below_post nid hh hbl
    exact ⟨M, _, rfl, .bool true, q1, q2⟩
theorem ok_spDt {P : Pg} (hp : P.prog = Try.prog) : CallOk P (spDt 23) := fun t args hp0 nid v hp' nid' h => by
  cases t with
  | yield l => cases h
  | fn g =>
    obtain ⟨hck, h1⟩ := ck_some h
    clear h
    simp only [Bool.and_eq_true] at hck
    have hg := Nat.eq_of_beq_eq_true hck.1
    subst hg
    obtain ⟨u, hu, h2⟩ := ob_some h1
    clear h1
    obtain ⟨hk, h3⟩ := ck_some h2
    cases h3
    have := eqT_eq _ _ _ hk
    subst this
    refine ⟨Nat.le_refl _, fun B M args' w ha hh hB hf => ?_⟩
    obtain ⟨s', rfl, hvr⟩ := args_one ha (Nat.eq_of_beq_eq_true hck.2) hu
    cases hvr
    show Calls P.prog _ _ _ _
    rw [hp]
    refine Calls.mono (dateS 500 w) ?_
    rintro e w' ⟨rfl, hbl⟩
    obtain ⟨q1, q2⟩ := below_post nid hh hbl
    exact ⟨M, _, rfl, .int .i64 0, q1, q2⟩
theorem ok_spRg {P : Pg} (hp : P.prog = Try.prog) : CallOk P (spRg 58) := fun t args hp0 nid v hp' nid' h => by
  cases t with
  | yield l => cases h
  | fn g =>
    obtain ⟨hg0, h1⟩ := ck_some h
    clear h
    simp only [Bool.and_eq_true] at hg0
    have hg := Nat.eq_of_beq_eq_true hg0.1
    subst hg
    obtain ⟨c, hc, h2⟩ := ob_some h1
    clear h1
    obtain ⟨va, hva, h2b⟩ := ob_some h2
    clear h2
    obtain ⟨cs, rfl, h3⟩ := withAgg_some h2b
    clear h2b
    obtain ⟨u0, hu0, h4⟩ := ob_some h3
    clear h3
    obtain ⟨u1, hu1, h5⟩ := ob_some h4
    clear h4
    obtain ⟨hk, h10⟩ := ck_some h5
    clear h5
    cases h10
    simp only [Bool.and_eq_true] at hk
    obtain ⟨k0, k1, k2, k3⟩ := hk
    have hcs := Nat.eq_of_beq_eq_true k0
    have e1 := eqT_eq _ _ _ k1
    subst e1
    have e2 := eqT_eq _ _ _ k2
    subst e2
    have e3 := eqT_eq _ _ _ k3
    subst e3
    refine ⟨Nat.le_refl _, fun B M args' w ha hh hB hf => ?_⟩
    obtain ⟨a0, q0, r0⟩ := ha.get hc
    obtain ⟨a1, q1, r1⟩ := ha.get hva
    have hlen2 : args'.toList.length = 2 := by rw [← ha.1]; exact Nat.eq_of_beq_eq_true hg0.2
    have hargs : args' = #[a0, a1] := by
      apply Array.ext'
      match he : args'.toList, hlen2 with
      | [z0, z1], _ => rw [he] at q0 q1; simp at q0 q1; rw [q0, q1]
    subst hargs
    cases r1
    cases r0 with
    | @agg _ a' hsz hel =>
      have hL : LRel P M cs.toList a'.toList := lrel_arr.2 ⟨hsz, hel⟩
      obtain ⟨v0, p0, s0⟩ := hL.get (i := 0) (by simpa using hu0)
      obtain ⟨v1, p1, s1⟩ := hL.get (i := 1) (by simpa using hu1)
      have ha3 : a' = #[v0, v1] := by
        apply Array.ext'
        have h3 : a'.toList.length = 2 := by rw [← hL.1]; exact hcs
        match he : a'.toList, h3 with
        | [z0, z1], _ => rw [he] at p0 p1; simp at p0 p1; rw [p0, p1]
      subst ha3
      cases s0
      cases s1
      show Calls P.prog _ _ _ _
      rw [hp]
      refine Calls.mono (rngS 0 0 100000 w) ?_
      rintro e w' ⟨rfl, hbl⟩
      obtain ⟨z1, z2⟩ := below_post nid hh hbl
      exact ⟨M, _, rfl, .int .i64 0, z1, z2⟩

/-! A gauging by a dip of a copied cask. -/
noncomputable def eqTsD (l m : List Value) : Bool := Nat.beq l.length m.length && (l.zip m).all fun x => eqT 90 x.1 x.2
theorem eqTsD_eq : ∀ (l m : List Value), eqTsD l m = true → l = m
  | [], [], _ => rfl
  | [], _ :: _, h => by cases h
  | _ :: _, [], h => by cases h
  | x :: l, y :: m, h => by
    obtain ⟨h1, h2⟩ := Bool.and_eq_true_iff.1 h
    have h1 := Nat.eq_of_beq_eq_true h1
    have h2 : (eqT 90 x y && (l.zip m).all fun x => eqT 90 x.1 x.2) = true := h2
    obtain ⟨h3, h4⟩ := Bool.and_eq_true_iff.1 h2
    rw [eqT_eq _ _ _ h3, eqTsD_eq l m (by unfold eqTsD; rw [h4, Bool.and_true]; simp at h1; rw [h1]; exact Nat.beq_refl _)]
theorem rowXD {P : Pg} {s : ByteArray} {bung dip : Int} {zs xs : List Int} {O : Obj → Prop} (hd : P.den = D0 s bung dip zs O) {N : Nat} (hl : xs.length = N * 3) (hag : Ag zs xs N) {M : Mp} {l' : List Value} (h : LRel P M (rowV N) l') : l' = xs.map fun x => Value.int .i64 x := by
  obtain ⟨ys, e, hlen, hdv⟩ := nums_of _ _ h (List.all_eq_true.2 fun v hv => by obtain ⟨i, hi⟩ := List.getElem?_of_mem hv; obtain ⟨e, _⟩ := rowV_get hi; subst e; rfl)
  have : ys = xs := by
    apply List.ext_getElem?
    intro i
    rw [rowV_len] at hlen
    by_cases hi : i < N * 3
    · have hv : (rowV N)[i]? = some (hN (i + 3)) := by
        unfold rowV
        rw [List.getElem?_map, List.getElem?_range hi]
        rfl
      have hy : ys[i]? = some ys[i] := List.getElem?_eq_getElem (by omega)
      have hx : xs[i]? = some xs[i] := List.getElem?_eq_getElem (by omega)
      have d1 := hdv i _ _ hv hy
      have d2 : Dv P.den (hN (i + 3)) xs[i] := by rw [hd]; exact rowV_denG hl hag i _ _ hv hx
      rw [hy, hx, d1.unique _ d2]
    · rw [List.getElem?_eq_none (by omega), List.getElem?_eq_none (by omega)]
  rw [e, this]
/-- both ends do not fall -/
theorem vLo_upD {bung : Int} {xs : List Int} {N : Nat} (hc : CaskOk bung xs N) {a b : Int} (h : a ≤ b) : vLo bung xs N a ≤ vLo bung xs N b ∧ vHi bung xs N a ≤ vHi bung xs N b ∧ vLo bung xs N a ≤ vHi bung xs N a := by
  have := ends_deeper (L := a - bung) (M := b - bung) hc hc (fun i hi => ⟨rfl, Int.le_refl _, Int.le_refl _⟩) (by omega)
  exact ⟨this.2.1, this.2.2.1, this.1⟩
def fdR (N i : Nat) (big : Bool) : Value := match big with
  | true => .tuple #[.agg #[.string ⟨#[]⟩, .int .i64 0, .int .i64 0, .int .i64 0], .int .i64 8]
  | false => .tuple #[.agg #[hNm, hDp N i 0, loDp N i, hiDp N i], .int .i64 0]
noncomputable def spFD (f N i : Nat) (big : Bool) : CallF := fun t args hp nid =>
  match t with
  | .fn g => ck (Nat.beq g f && Nat.beq args.length 2) (ob args[0]? fun c => ob args[1]? fun v => withAgg c fun cs => ob cs[0]? fun nm => ob cs[1]? fun bung => ob cs[2]? fun st => withSlc st (fun _ _ => none) fun b o n cp =>
      ob (hp.get b) fun r => withRow r fun row el opn => ck (Nat.beq cs.toList.length 3 && (isName0 nm && (eqT 90 bung hBung && (Nat.beq n N && (Nat.beq o 0 && (Nat.beq cp OPEN && eqTsD row (rowV N))))))) (withAgg v fun ds => ck (eqTsD ds.toList [hDp N i 0, hDp N i 1, hDp N i 2]) (some (fdR N i big, hp, nid))))
  | .yield _ => none
theorem dVG {s : ByteArray} {bung dip m : Int} {zs xs : List Int} {O : Obj → Prop} {N : Nat} (hag : Ag zs xs N) (h1 : 2 ≤ N) {lv : Value} (h : Dv (D0 s bung dip zs O) lv (m - bung)) : Dv (D0 s bung dip zs O) (fLo lv N) (vLo bung xs N m) ∧ Dv (D0 s bung dip zs O) (fHi lv N) (vHi bung xs N m) := by
  obtain ⟨a, b⟩ := loZ_ag hag (m - bung) (N - 1) (by omega)
  have p := dFLo (N := N) h
  have q := dFHi (N := N) h
  rw [a] at p
  rw [b] at q
  exact ⟨p, q⟩
section
variable {s : ByteArray} {bung dip day dp wr : Int} {zs xs : List Int} {O : Obj → Prop} {N i : Nat}
theorem dLvI (hag : Ag zs xs N) (hc : CaskOk bung xs N) (g1 : Dv (D0 s bung dip zs O) (hDp N i 1) dp) (g2 : Dv (D0 s bung dip zs O) (hDp N i 2) wr) (h1 : 0 ≤ dp) (h2 : dp ≤ 2 * bung) (h3 : 0 ≤ wr) (h4 : wr ≤ 2 * bung) : Dv (D0 s bung dip zs O) (lvA N i) (max 0 (dp - wr) - bung) ∧ Dv (D0 s bung dip zs O) (lvB N i) (min (2 * bung) (dp + wr) - bung) := by
  have h8 := hc.hi
  have h10 := hc.lo
  have ha : Dv (D0 s bung dip zs O) (lvA N i) (binN 2 (binN 5 0 (binN 2 dp wr)) bung) := .bin (t := 2) (by decide) (.bin (t := 5) (by decide) (.lit 0) (.bin (t := 2) (by decide) g1 g2)) dBung
  have hb : Dv (D0 s bung dip zs O) (lvB N i) (binN 2 (binN 4 (2 * bung) (binN 1 dp wr)) bung) := .bin (t := 2) (by decide) (.bin (t := 4) (by decide) (dTopV (CaskOk.ag hag hc)) (.bin (t := 1) (by decide) g1 g2)) dBung
  rw [show binN 2 dp wr = dp - wr from IntWalk.i64_in _ (by omega), show binN 2 (binN 5 0 (dp - wr)) bung = max 0 (dp - wr) - bung from IntWalk.i64_in _ (by show -9223372036854775808 ≤ max 0 (dp - wr) - bung ∧ max 0 (dp - wr) - bung ≤ 9223372036854775807; omega)] at ha
  rw [show binN 1 dp wr = dp + wr from IntWalk.i64_in _ (by omega), show binN 2 (binN 4 (2 * bung) (dp + wr)) bung = min (2 * bung) (dp + wr) - bung from IntWalk.i64_in _ (by show -9223372036854775808 ≤ min (2 * bung) (dp + wr) - bung ∧ min (2 * bung) (dp + wr) - bung ≤ 9223372036854775807; omega)] at hb
  exact ⟨ha, hb⟩
theorem dLoHi (hag : Ag zs xs N) (hc : CaskOk bung xs N) (g1 : Dv (D0 s bung dip zs O) (hDp N i 1) dp) (g2 : Dv (D0 s bung dip zs O) (hDp N i 2) wr) (h1 : 0 ≤ dp) (h2 : dp ≤ 2 * bung) (h3 : 0 ≤ wr) (h4 : wr ≤ 2 * bung) : Dv (D0 s bung dip zs O) (loDp N i) (vLo bung xs N (max 0 (dp - wr))) ∧ Dv (D0 s bung dip zs O) (hiDp N i) (vHi bung xs N (min (2 * bung) (dp + wr))) := by
  obtain ⟨a, b⟩ := dLvI hag hc g1 g2 h1 h2 h3 h4
  exact ⟨(dVG hag hc.two a).1, (dVG hag hc.two b).2⟩
end
theorem ok_spFD {P : Pg} (hp : P.prog = Try.prog) {s : ByteArray} {bung dip day dp wr : Int} {zs xs : List Int} {O : Obj → Prop} (hd : P.den = D0 s bung dip zs O) {N i : Nat} (hN : N = 2 ∨ N = 3 ∨ N = 4) (hl : xs.length = N * 3) (hag : Ag zs xs N) (hz : (caskS s bung xs).2 = 0)
    (G0 : Dv (D0 s bung dip zs O) (hDp N i 0) day) (G1 : Dv (D0 s bung dip zs O) (hDp N i 1) dp) (G2 : Dv (D0 s bung dip zs O) (hDp N i 2) wr) (f0 : 0 ≤ day) (f1 : day ≤ 100000) (f2 : 0 ≤ dp) (f3 : dp ≤ 2 * bung) (f4 : 0 ≤ wr) (f5 : wr ≤ 2 * bung)
    {big : Bool} (hbig : decide (100000 < vHi bung xs N (min (2 * bung) (dp + wr))) = big) : CallOk P (spFD 11 N i big) := fun t args hp0 nid v hp' nid' h => by
  cases t with
  | yield l => cases h
  | fn g =>
    obtain ⟨hg0, h1⟩ := ck_some h
    clear h
    simp only [Bool.and_eq_true] at hg0
    have hg := Nat.eq_of_beq_eq_true hg0.1
    subst hg
    obtain ⟨c, hc, h2⟩ := ob_some h1
    clear h1
    obtain ⟨va, hva, h2b⟩ := ob_some h2
    clear h2
    obtain ⟨cs, rfl, h3⟩ := withAgg_some h2b
    clear h2b
    obtain ⟨nm, hnm, h4⟩ := ob_some h3
    clear h3
    obtain ⟨bu, hbu, h5⟩ := ob_some h4
    clear h4
    obtain ⟨st, hst, h6⟩ := ob_some h5
    clear h5
    rcases withSlc_some h6 with ⟨_, _, _, h7⟩ | ⟨b, o, n, cp, rfl, h7⟩
    · cases h7
    clear h6
    obtain ⟨r, hr, h8⟩ := ob_some h7
    clear h7
    obtain ⟨row, el, opn, rfl, h9⟩ := withRow_some h8
    clear h8
    obtain ⟨hk, h10⟩ := ck_some h9
    clear h9
    obtain ⟨ds, rfl, h11⟩ := withAgg_some h10
    clear h10
    obtain ⟨hk2, h12⟩ := ck_some h11
    clear h11
    cases h12
    simp only [Bool.and_eq_true] at hk
    obtain ⟨k0, k1, k2, k3, k6, k7, k4⟩ := hk
    have hcs := Nat.eq_of_beq_eq_true k0
    have e2 := eqT_eq _ _ _ k2
    subst e2
    have e3 := Nat.eq_of_beq_eq_true k3
    subst e3
    have e6 := Nat.eq_of_beq_eq_true k6
    subst e6
    have e7 := Nat.eq_of_beq_eq_true k7
    subst e7
    have e4 := eqTsD_eq _ _ k4
    subst e4
    have e5 := eqTsD_eq _ _ hk2
    refine ⟨Nat.le_refl _, fun B M args' w ha hh hB hf => ?_⟩
    obtain ⟨a0, q0, r0⟩ := ha.get hc
    obtain ⟨a1, q1, r1⟩ := ha.get hva
    have hlen2 : args'.toList.length = 2 := by rw [← ha.1]; exact Nat.eq_of_beq_eq_true hg0.2
    have hargs : args' = #[a0, a1] := by
      apply Array.ext'
      match he : args'.toList, hlen2 with
      | [z0, z1], _ => rw [he] at q0 q1; simp at q0 q1; rw [q0, q1]
    subst hargs
    obtain ⟨ys, rfl⟩ : ∃ ys, a1 = .agg ys := by cases r1; exact ⟨_, rfl⟩
    have hys : ys = #[.int .i64 day, .int .i64 dp, .int .i64 wr] := by
      cases r1 with
      | agg hsz hel =>
        have hD : LRel P M ds.toList ys.toList := lrel_arr.2 ⟨hsz, hel⟩
        rw [e5] at hD
        obtain ⟨v0, p0, s0⟩ := hD.get (i := 0) rfl
        obtain ⟨v1, p1, s1⟩ := hD.get (i := 1) rfl
        obtain ⟨v2, p2, s2⟩ := hD.get (i := 2) rfl
        rw [← hd] at G0 G1 G2
        obtain ⟨x0, i0, d0⟩ := vrel_num s0 G0.num
        obtain ⟨x1, i1, d1⟩ := vrel_num s1 G1.num
        obtain ⟨x2, i2, d2⟩ := vrel_num s2 G2.num
        have := G0.unique _ d0
        subst this
        have := G1.unique _ d1
        subst this
        have := G2.unique _ d2
        subst this
        subst i0 i1 i2
        apply Array.ext'
        have h3 : ys.toList.length = 3 := by rw [← hD.1]; rfl
        match he : ys.toList, h3 with
        | [z0, z1, z2], _ => rw [he] at p0 p1 p2; simp at p0 p1 p2; rw [p0, p1, p2]
    subst hys
    clear r1
    cases r0 with
    | @agg _ a' hsz hel =>
      have hL : LRel P M cs.toList a'.toList := lrel_arr.2 ⟨hsz, hel⟩
      obtain ⟨v0', p0, s0⟩ := hL.get (i := 0) (by simpa using hnm)
      obtain ⟨v1', p1, s1⟩ := hL.get (i := 1) (by simpa using hbu)
      obtain ⟨v2', p2, s2⟩ := hL.get (i := 2) (by simpa using hst)
      have ha3 : a' = #[v0', v1', v2'] := by
        apply Array.ext'
        have h3 : a'.toList.length = 3 := by rw [← hL.1]; exact hcs
        match he : a'.toList, h3 with
        | [z0, z1, z2], _ => rw [he] at p0 p1 p2; simp at p0 p1 p2; rw [p0, p1, p2]
      subst ha3
      have e0 : v0' = .string s := isName0_rel hd rfl _ k1 _ _ s0
      subst e0
      have db : Dv P.den hBung bung := by rw [hd]; exact dBung
      obtain ⟨y1, e1, d1⟩ := vrel_num s1 db.num
      subst e1
      have := db.unique _ d1
      subst this
      obtain ⟨b', rr, hb, hnr, hv2⟩ : ∃ b' rr, M b = some (b', rr) ∧ n ≤ rr ∧ v2' = .slice (some ⟨b', 0, none⟩) n rr := by
        cases s2 with
        | slc hb hc => exact absurd hc (Nat.lt_irrefl _)
        | slo hb hn => exact ⟨_, _, hb, hn, rfl⟩
      subst hv2
      obtain ⟨b1, r1', ob, j1, j2, j3, j4⟩ := hh.has b _ hr
      rw [hb] at j1
      cases j1
      obtain ⟨c', rfl, _, g1, g2⟩ := j4
      have hrow : LRel P M (rowV n) ((c'.toList.drop 0).take (rowV n).length) := by
        rw [List.drop_zero]
        cases opn with
        | true => exact (g2 rfl).1
        | false =>
          have := g1 rfl
          rw [List.take_of_length_le (by rw [this.1]; exact Nat.le_refl _)]
          exact this
      have hwin : WinAt b' 0 xs w := ⟨c', el, (0, 0), j3, by
        have := rowXD hd hl hag hrow
        rw [rowV_len, ← hl] at this
        exact this⟩
      show Calls P.prog _ _ _ _
      rw [hp]
      refine Calls.mono (fromDip_any w hN hl hwin hnr hz f0 f1 f2 f3 f4 f5) ?_
      rintro e w' ⟨rfl, hbl⟩
      obtain ⟨z1, z2⟩ := below_post nid hh hbl
      cases big with
      | true =>
        unfold fdAns
        rw [if_pos (of_decide_eq_true hbig)]
        exact ⟨M, _, rfl, LRel.tup (LRel.cons (LRel.agg (LRel.cons (.str _) (LRel.cons (.int .i64 0) (LRel.cons (.int .i64 0) (LRel.cons (.int .i64 0) (LRel.nil M)))))) (LRel.cons (.int .i64 8) (LRel.nil M))), z1, z2⟩
      | false =>
        unfold fdAns
        rw [if_neg (of_decide_eq_false hbig)]
        obtain ⟨d1, d2⟩ := dLoHi hag (caskS_ok hl hz) G1 G2 f2 f3 f4 f5
        rw [← hd] at d1 d2 G0
        have hn0 : P.den.hole 0 = .string s := by rw [hd]; rfl
        have a0 : VRel P M hNm (.string s) := by
          have := VRel.hol (P := P) (M := M) (n := 0) (by rw [hn0]; rfl) (by rw [hn0]; rfl) (fun want => by rw [hn0]; rfl)
          rw [hn0] at this
          exact this
        exact ⟨M, _, rfl, LRel.tup (LRel.cons (LRel.agg (LRel.cons a0 (LRel.cons G0.vrel (LRel.cons d1.vrel (LRel.cons d2.vrel (LRel.nil M)))))) (LRel.cons (.int .i64 0) (LRel.nil M))), z1, z2⟩
end Sy
end Go.Proofs.Ytpfhfphcmomfdaa
