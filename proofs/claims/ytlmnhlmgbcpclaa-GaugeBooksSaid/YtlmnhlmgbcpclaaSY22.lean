import Derived.Test.YtlmnhlmgbcpclaaSY21
set_option linter.unusedSimpArgs false
set_option linter.unusedVariables false
namespace Go.Proofs.Ytlmnhlmgbcpclaa
namespace Sy
variable {P : Pg}
open Go.RowKit

/-! A function with a loop that is known by what it keeps. -/

def bodyC (prog : Program) (f : Nat) : Code :=
  match prog.funcs[f]? with
  | some fn => match fn.body with
    | some c => c
    | none => .skip
  | none => .skip
def loopB (prog : Program) (f key : Nat) : Code :=
  match (loopsOf (bodyC prog f)).filter (isLoop key) with
  | .loop b :: _ => b
  | _ => .skip
theorem the_loop {prog : Program} {f key : Nat} (h1 : ((loopsOf (bodyC prog f)).filter (isLoop key)).length = 1) : ∀ c ∈ loopsOf (bodyC prog f), isLoop key c = true → c = .loop (loopB prog f key) := by
  intro c hc hk
  obtain ⟨L, hL⟩ := List.length_eq_one_iff.1 h1
  have hm : c ∈ (loopsOf (bodyC prog f)).filter (isLoop key) := List.mem_filter.2 ⟨hc, hk⟩
  rw [hL] at hm
  have := List.mem_singleton.1 hm
  subst this
  obtain ⟨b, rfl⟩ := isLoop_loop hk
  unfold loopB
  rw [hL]
theorem body_eq {f : Nat} {x : Func × Code} (h : bodyOf P f = some x) : x.2 = bodyC P.prog f := by
  unfold bodyOf at h
  unfold bodyC
  cases e : P.prog.funcs[f]? with
  | none => rw [e] at h; cases h
  | some fn =>
    rw [e] at h
    simp only at h ⊢
    cases e2 : fn.body with
    | none => rw [e2] at h; cases h
    | some c => rw [e2] at h; cases h; rfl
/-- a function with one such loop -/
theorem fn_loop (hm : P.prog.follows .mixedOrders = true) {sp : CallF} (hsp : CallOk P sp) {cs : CodeF} {f key k n j : Nat} (h1 : ((loopsOf (bodyC P.prog f)).filter (isLoop key)).length = 1) (hcs : CodeOkAt P cs (.loop (loopB P.prog f key))) {args : List Value} {hp hp' : T AObj} {nid nid' : Nat} {v : Value}
    (hrun : fnRun P (isLoop key) cs (evDS P sp k n) j f args hp nid = some (v, hp', nid')) : nid ≤ nid' ∧ ∀ B M (args' : Array Value) w, LRel P M args args'.toList → HRel P B M hp.get w → B ≤ w.heap.size → (∀ id, nid ≤ id → id < nid' → M id = none) →
      Calls P f args' w fun e w' => ∃ M' v', e = .returned v' ∧ VRel P M' v v' ∧ HRel P B M' hp'.get w' ∧ Evol M hp.get nid w M' hp'.get nid' w' := by
  obtain ⟨x, hx, hr⟩ := ob_some hrun
  have hb := body_eq hx
  refine ok_bodyL (rec := evCL (isLoop key) cs P (evDS P sp k n) j) ?_ hx hr
  refine code_okL (ok_evDS hm hsp k n) hm (Ls := loopsOf x.2) (fun c hc hk => ?_) (fun c hk => isLoop_loop hk) j x.2 (fun l hl => hl)
  rw [hb] at hc
  rw [the_loop h1 c hc hk]
  exact hcs
/-- its rounds -/
theorem round_ok (hm : P.prog.follows .mixedOrders = true) {sp : CallF} (hsp : CallOk P sp) {f key k n j : Nat} {cs : CodeF} {hk : Code → Bool} (hno : ∀ c ∈ loopsOf (loopB P.prog f key), hk c = false) (hlp : ∀ c, hk c = true → ∃ b, c = .loop b) : CodeOkAt P (evCL hk cs P (evDS P sp k n) j) (loopB P.prog f key) :=
  code_okL (ok_evDS hm hsp k n) hm (Ls := loopsOf (loopB P.prog f key)) (fun c hc h => absurd h (by rw [hno c hc]; decide)) hlp j _ (fun l hl => hl)
noncomputable def csNone : CodeF := fun _ _ => none
def hkNone (c : Code) : Bool := false
theorem round_any (hm : P.prog.follows .mixedOrders = true) {sp : CallF} (hsp : CallOk P sp) {k n j : Nat} (b : Code) : CodeOkAt P (evCL hkNone csNone P (evDS P sp k n) j) b :=
  code_okL (ok_evDS hm hsp k n) hm (Ls := loopsOf b) (fun c hc h => by cases h) (fun c h => by cases h) j _ (fun l hl => hl)

/-! The state ahead of a loop. -/
noncomputable def csStop : CodeF := fun _ s => some (.exit 999, s)
noncomputable def stopAt (P : Pd) (key : Nat) (callF : CallF) (f : Nat) (args : List Value) (hp : T AObj) (nid : Nat) : Option (AX × St) :=
  ob (bodyOf P f) fun x => evCL (isLoop key) csStop P callF 2000 x.2 ⟨setAll (keepOf x) args 0, keepOf x, x.1.ntmps, hp, nid, [], none⟩
def headOf (o : Option (AX × St)) : St :=
  match o with
  | some q => q.2
  | none => ⟨[], 0, 0, .leaf, 0, [], none⟩
noncomputable def eqTm (a b : Tm) : Bool := Nat.beq a.length b.length && (a.zip b).all fun x => Nat.beq x.1.1 x.2.1 && eqW 40 x.1.2 x.2.2
theorem eqTm_eq : ∀ (a b : Tm), eqTm a b = true → a = b
  | [], [], _ => rfl
  | [], _ :: _, h => by cases h
  | _ :: _, [], h => by cases h
  | x :: a, y :: b, h => by
    obtain ⟨h1, h2⟩ := Bool.and_eq_true_iff.1 h
    have h1 := Nat.eq_of_beq_eq_true h1
    have h2 : ((Nat.beq x.1 y.1 && eqW 40 x.2 y.2) && (a.zip b).all fun x => Nat.beq x.1.1 x.2.1 && eqW 40 x.1.2 x.2.2) = true := h2
    obtain ⟨h3, h4⟩ := Bool.and_eq_true_iff.1 h2
    obtain ⟨h5, h6⟩ := Bool.and_eq_true_iff.1 h3
    have : a = b := eqTm_eq a b (by unfold eqTm; rw [h4, Bool.and_true]; simp at h1; rw [h1]; exact Nat.beq_refl _)
    rw [this, Prod.ext (Nat.eq_of_beq_eq_true h5) (eqW_eq _ _ _ h6)]
noncomputable def eqOO (a b : Option AObj) : Bool :=
  match a, b with
  | none, none => true
  | some x, some y => eqO x y
  | _, _ => false
theorem eqOO_eq {a b : Option AObj} (h : eqOO a b = true) : a = b := by
  unfold eqOO at h
  split at h
  · rfl
  · rw [eqO_eq h]
  · cases h
noncomputable def eqHp (t : T AObj) : T AObj → Bool :=
  T.rec (fun t' => T.rec true (fun _ _ _ _ _ => false) t') (fun _ v _ hl hr t' => T.rec false (fun l' v' r' _ _ => eqOO v v' && (hl l' && hr r')) t') t
theorem eqHp_eq : ∀ (t t' : T AObj), eqHp t t' = true → t = t'
  | .leaf, .leaf, _ => rfl
  | .leaf, .node _ _ _, h => by cases h
  | .node _ _ _, .leaf, h => by cases h
  | .node l v r, .node l' v' r', h => by
    have h : (eqOO v v' && (eqHp l l' && eqHp r r')) = true := h
    simp only [Bool.and_eq_true] at h
    rw [eqOO_eq h.1, eqHp_eq l l' h.2.1, eqHp_eq r r' h.2.2]
noncomputable def eqSt (s S : St) : Bool := eqTm s.tm S.tm && (Nat.beq s.kp S.kp && (Nat.beq s.nt S.nt && (eqHp s.hp S.hp && (Nat.beq s.nid S.nid && (Nat.beq s.df.length 0 && (Nat.beq S.df.length 0 && (s.rnd.isNone && S.rnd.isNone)))))))
theorem eqSt_eq {s S : St} (h : eqSt s S = true) : s = S := by
  simp only [eqSt, Bool.and_eq_true] at h
  obtain ⟨h1, h2, h3, h4, h5, h6, h7, h8, h9⟩ := h
  obtain ⟨t1, k1, n1, p1, i1, d1, r1⟩ := s
  obtain ⟨t2, k2, n2, p2, i2, d2, r2⟩ := S
  have := eqTm_eq _ _ h1
  have := Nat.eq_of_beq_eq_true h2
  have := Nat.eq_of_beq_eq_true h3
  have := eqHp_eq _ _ h4
  have := Nat.eq_of_beq_eq_true h5
  have e6 := List.length_eq_zero_iff.1 (Nat.eq_of_beq_eq_true h6)
  have e7 := List.length_eq_zero_iff.1 (Nat.eq_of_beq_eq_true h7)
  simp only at *
  subst_vars
  cases r1 <;> cases r2 <;> simp_all
/-- a loop that is entered in this state is left so -/
noncomputable def csOne (S0 SR : St) (ax : AX) : CodeF := fun _ s => ck (eqSt s S0) (some (ax, SR))
theorem ok_csOne {b : Code} {S0 SR : St} {ax : AX} (hkp : SR.kp = S0.kp) (hnt : SR.nt = S0.nt) (hnid : S0.nid ≤ SR.nid)
    (h : ∀ B M rf a w, CInv P B M rf S0 a w → (∀ id, S0.nid ≤ id → id < SR.nid → M id = none) →
      (Code.loop b).wpIn (Fr rf) 0 P (fun e a' w' => ∃ M', e = exitOf ax ∧ CInv P B M' rf SR a' w' ∧ Evol M S0.hp.get S0.nid w M' SR.hp.get SR.nid w') a w) : CodeOkAt P (csOne S0 SR ax) (.loop b) := by
  intro s x s' hs
  obtain ⟨hck, h2⟩ := ck_some hs
  cases h2
  have := eqSt_eq hck
  subst this
  exact ⟨hnid, hkp, hnt, h⟩
/-- a run over memory that no rule writes -/
theorem run_roL {prog : Program} (hp : P.prog = prog) (hm : prog.follows .mixedOrders = true) {sp : CallF} (hsp : CallOk P sp) {cs : CodeF} {f key k n j nid0 : Nat} (h1 : ((loopsOf (bodyC prog f)).filter (isLoop key)).length = 1) (hcs : CodeOkAt P cs (.loop (loopB prog f key)))
    {args : List Value} {args' : Array Value} {hp0 : T AObj} {v : Value} {M : Mp} {w : World}
    (hrun : fstO (fnRun P (isLoop key) cs (evDS P sp k n) j f args hp0 nid0) = some v) (hargs : LRel P M args args'.toList) (hh : HRel P 0 M hp0.get w) (hro : ∀ id, wrt (hp0.get id) = false) (hf : ∀ id, nid0 ≤ id → M id = none) :
    Calls prog f args' w fun e w' => ∃ M' v', e = .returned v' ∧ VRel P M' v v' ∧ Below w.heap.size w w' := by
  subst hp
  cases hr : fnRun P (isLoop key) cs (evDS P sp k n) j f args hp0 nid0 with
  | none => rw [hr] at hrun; cases hrun
  | some q =>
    obtain ⟨v1, hp1, nid⟩ := q
    rw [hr] at hrun
    have hv : v1 = v := Option.some.inj hrun
    subst hv
    refine Calls.mono ((fn_loop hm hsp h1 hcs hr).2 0 M args' w hargs hh (Nat.zero_le _) (fun id h1 _ => hf id h1)) ?_
    rintro e w' ⟨M', v', rfl, hvr, hh', hev⟩
    exact ⟨M', v', rfl, hvr, hev.os, hev.tape, hev.output, hev.size, fun b hb => hev.frame b hb fun id r hi => by rw [hro id] at hi; cases hi⟩
end Sy
end Go.Proofs.Ytlmnhlmgbcpclaa
