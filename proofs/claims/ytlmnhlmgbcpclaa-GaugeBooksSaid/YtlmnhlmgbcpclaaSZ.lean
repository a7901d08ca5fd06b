import Derived.Test.YtlmnhlmgbcpclaaSX
import Derived.OrdersIn
import Derived.TacticsIn
import Derived.RangeFuncNested
import Derived.RangeFuncRecord
import Derived.Below
import Derived.RangeFuncLeaves
set_option linter.unusedSimpArgs false
set_option linter.unusedVariables false
namespace Go.Proofs.Ytlmnhlmgbcpclaa
namespace Sy
variable {P : Pg}

/-! Temporaries; regions in the text's order. -/

theorem agt_cons (x : Nat × Value) (l : Tm) (t : Nat) : agt (x :: l) t = if x.1 = t then some x.2 else agt l t := by
  have h : agt (x :: l) t = bi (Nat.beq x.1 t) (some x.2) (agt l t) := rfl
  rw [h, bi_if, beq_eq]
  simp only [decide_eq_true_eq]
theorem aput_cons (x : Nat × Value) (l : Tm) (t : Nat) (v : Value) : aput (x :: l) t v = if x.1 = t then some ((t, v) :: l) else ob (aput l t v) fun l => some (x :: l) := by
  have h : aput (x :: l) t v = bi (Nat.beq x.1 t) (some ((t, v) :: l)) (ob (aput l t v) fun l => some (x :: l)) := rfl
  rw [h, bi_if, beq_eq]
  simp only [decide_eq_true_eq]
theorem agt_aput : ∀ (l : Tm) (t : Nat) (v : Value) (l' : Tm), aput l t v = some l' → ∀ k, agt l' k = if t = k then some v else agt l k
  | [], t, v, l', h, k => by
    cases h
    rw [agt_cons]
  | x :: l, t, v, l', h, k => by
    rw [aput_cons] at h
    split at h
    · rename_i e
      cases h
      rw [agt_cons, agt_cons]
      by_cases hk : t = k
      · simp [hk]
      · simp [hk, show ¬ x.1 = k from fun h => hk (e ▸ h)]
    · rename_i e
      obtain ⟨l1, h1, h⟩ := ob_some h
      cases h
      rw [agt_cons, agt_cons, agt_aput l t v l1 h1 k]
      by_cases hx : x.1 = k
      · have : ¬ t = k := fun h => e (hx.trans h.symm)
        simp [hx, this]
      · simp [hx]
theorem rd_def (loc base : Tm) (t : Nat) : rd loc base t = match agt loc t with | some v => some v | none => agt base t := by
  unfold rd
  cases agt loc t <;> rfl
theorem rd_cons (x : Nat × Value) (loc base : Tm) (t : Nat) : rd (x :: loc) base t = if x.1 = t then some x.2 else rd loc base t := by
  rw [rd_def, rd_def, agt_cons]
  by_cases h : x.1 = t <;> simp [h]
theorem rd_nil (base : Tm) (t : Nat) : rd [] base t = agt base t := rfl
theorem commit_spec {kp : Nat} : ∀ (loc base tm : Tm), commit kp loc base = some tm → ∀ k, agt tm k = if kept kp k = true then rd loc base k else agt base k
  | [], base, tm, h, k => by cases h; rw [rd_nil]; simp
  | x :: loc, base, tm, h, k => by
    have h' : (ob (commit kp loc base) fun b => bi (kept kp x.1) (aput b x.1 x.2) (some b)) = some tm := h
    obtain ⟨b, hb, h'⟩ := ob_some h'
    have ih := commit_spec loc base b hb k
    rw [rd_cons]
    rcases bi_some h' with ⟨hk, h2⟩ | ⟨hk, h2⟩
    · rw [agt_aput _ _ _ _ h2 k, ih]
      by_cases e : x.1 = k
      · subst e; simp [hk]
      · simp [e]
    · cases h2
      rw [ih]
      by_cases e : x.1 = k
      · subst e; simp [hk]
      · simp [e]

theorem forceN_eq {β : Type} (n : Nat) (k : Nat → β) : forceN n k = k n := by cases n <;> rfl
theorem forceI_eq {β : Type} (n : Int) (k : Int → β) : forceI n k = k n := by
  cases n with
  | ofNat n => exact forceN_eq n (fun n => k (.ofNat n))
  | negSucc n => exact forceN_eq n (fun n => k (.negSucc n))
theorem forceA_eq {β : Type} (v : Value) (k : Value → β) : forceA v k = k v := by
  cases v with
  | int kd n => exact forceI_eq n (fun n => k (.int kd n))
  | bool b => cases b <;> rfl
  | _ => rfl
theorem forceL_eq {β : Type} : ∀ (l : List Value) (k : List Value → β), forceL l k = k l
  | [], k => rfl
  | v :: l, k => by
    have h : forceL (v :: l) k = forceA v fun v => forceL l fun l => k (v :: l) := rfl
    rw [h, forceA_eq, forceL_eq l]
theorem forceV_eq {β : Type} (v : Value) (k : Value → β) : forceV v k = k v := by
  cases v with
  | int kd n => exact forceI_eq n (fun n => k (.int kd n))
  | bool b => cases b <;> rfl
  | agg cs =>
    have h : forceV (.agg cs) k = forceL cs.toList fun l => k (.agg l.toArray) := rfl
    rw [h, forceL_eq]
  | _ => rfl
theorem forceVs_eq {β : Type} : ∀ (l : List Value) (k : List Value → β), forceVs l k = k l
  | [], k => rfl
  | v :: l, k => by
    have h : forceVs (v :: l) k = forceV v fun v => forceVs l fun l => k (v :: l) := rfl
    rw [h, forceV_eq, forceVs_eq l]

/-- the temporaries within a region -/
structure RRel (P : Pg) (M : Mp) (loc base : Tm) (tmps : Array Value) (nt : Nat) : Prop where
  size : tmps.size = nt
  at_ : ∀ t v, rd loc base t = some v → ∃ v', tmps[t]? = some v' ∧ VRel P M v v'
theorem RRel.ext {M M' : Mp} {loc base : Tm} {tmps : Array Value} {nt : Nat} (hx : Ext M M') (h : RRel P M loc base tmps nt) : RRel P M' loc base tmps nt :=
  ⟨h.size, fun t v e => (h.at_ t v e).imp fun _ k => ⟨k.1, k.2.ext hx⟩⟩
theorem RRel.erel {M : Mp} {loc base : Tm} {nt : Nat} {a : Act} (h : RRel P M loc base a.tmps nt) : ERel P M (evX loc base) a.eval := by
  intro x v e
  cases x with
  | tmp t =>
    obtain ⟨v', e', hr⟩ := h.at_ t v e
    have : a.eval (.tmp t) = v' := by simp [Act.eval, e']
    rw [this]; exact hr
  | const c =>
    obtain ⟨hf, e⟩ := ck_some (b := flat c) e
    cases e
    exact flat_same M hf
  | global g => cases e
  | func f => cases e; exact .func f rfl (fun i v v' h => by simp at h) rfl (fun i v v' h => by simp at h)
def locPut (dst : Option Tmp) (v : Value) (loc : Tm) : Tm :=
  match dst with
  | some d => (d, v) :: loc
  | none => loc
theorem putT_spec {loc : Tm} {nt : Nat} {hp : T AObj} {nid : Nat} {dst : Option Tmp} {v : Value} {s : RS} (h : putT loc nt hp nid dst v = some s) :
    s.hp = hp ∧ s.nid = nid ∧ s.loc = locPut dst v loc ∧ ∀ d, dst = some d → d < nt := by
  cases dst with
  | none => cases h; exact ⟨rfl, rfl, rfl, fun d e => by cases e⟩
  | some d =>
    have h' : ck (Nat.ble (Nat.succ d) nt) (forceV v fun v => some ⟨(d, v) :: loc, hp, nid⟩) = some s := h
    obtain ⟨hd, h'⟩ := ck_some h'
    rw [forceV_eq] at h'
    cases h'
    exact ⟨rfl, rfl, rfl, fun e he => by cases he; exact Nat.le_of_ble_eq_true hd⟩
theorem RRel.put {M : Mp} {loc base : Tm} {nt : Nat} {a : Act} (h : RRel P M loc base a.tmps nt) {dst : Option Tmp} {v v' : Value} (hv : VRel P M v v') (hd : ∀ d, dst = some d → d < nt) :
    RRel P M (locPut dst v loc) base (a.put dst v').tmps nt := by
  cases dst with
  | none => exact h
  | some d =>
    have hlt := hd d rfl
    show RRel P M ((d, v) :: loc) base _ nt
    refine ⟨by simpa [Act.put] using h.size, fun t u e => ?_⟩
    rw [rd_cons] at e
    simp only [Act.put]
    by_cases ht : d = t
    · subst ht
      simp only [if_true] at e
      cases e
      exact ⟨v', by simp [Array.getElem?_setIfInBounds, h.size, hlt], hv⟩
    · simp only [ht, if_false] at e
      obtain ⟨u', e', hr⟩ := h.at_ t u e
      exact ⟨u', by rw [Array.getElem?_setIfInBounds_ne ht]; exact e', hr⟩

theorem isB_rel {M : Mp} {v v' : Value} (h : VRel P M v v') (want : Bool) : isB v' want = isB v want := by
  cases h with
  | hol h1 h2 h3 => rw [h3]; rfl
  | fvl hz hd h1 => obtain ⟨a, n, k, e⟩ := h1; rw [e]; rfl
  | _ => rfl
theorem wantedV_spec {M : Mp} {ops : Array Oper} {loc base : Tm} {nt : Nat} {a : Act} {o : Oper} {b : Bool} (h : wantedV ops loc base o = some b) (hr : RRel P M loc base a.tmps nt) :
    Region.wanted o (yielded ops a.tmps) = b := by
  unfold wantedV at h
  unfold Region.wanted
  cases hg : o.guard with
  | none => rw [hg] at h; cases h; rfl
  | some g =>
    rw [hg] at h
    obtain ⟨j, want⟩ := g
    have h' : (ob (dstOf ops j) fun d => ob (rd loc base d) fun v => some (isB v want)) = some b := h
    obtain ⟨d, hd, h'⟩ := ob_some h'
    obtain ⟨v, hv, h'⟩ := ob_some h'
    cases h'
    obtain ⟨v', e', hvr⟩ := hr.at_ d v hv
    have hd' : (ops[j]?).bind (·.dst) = some d := hd
    simp only [yielded, hd', Option.bind_some, e']
    rw [← isB_rel hvr want]
    cases v' <;> simp [isB]

/-- the fence of a function's frame (none), of a round's -/
def Fr (r : Option Nat) : Fence := match r with
  | none => Fence.wide
  | some l => Fence.wide.inRound l
theorem Fr_fn (r : Option Nat) (f : FuncId) : (Fr r).fn f := by cases r <;> trivial
theorem Fr_depth (r : Option Nat) : (Fr r).depth = none := by cases r <;> rfl
theorem Fr_round (r : Option Nat) : (Fr r).round = r := by cases r <;> rfl
theorem callsIn_fr {P : Pg} (r : Option Nat) {n : Nat} {f : FuncId} {args : Array Value} {w : World} {R : Ending → World → Prop} (h : Calls P f args w R) : CallsIn (Fr r) n P f args w R := by
  have h1 := (callsIn_wide (n := n)).2 h
  cases r <;> exact h1
theorem roundIn_fr {P : Pg} (r : Option Nat) {n : Nat} {l : Nat} {f : FuncId} {tmps : Array Value} {as_ body : Code} {w : World} {R : Ending → World → Prop}
    (h : RoundIn Fence.wide n P l f tmps as_ body w R) : RoundIn (Fr r) n P l f tmps as_ body w R := by cases r <;> exact h
/-- what a call of a function, or of yield, comes to -/
def CallsT (P : Pg) (M : Mp) (t : Tgt) (args : Array Value) (w : World) (R : Ending → World → Prop) : Prop :=
  match t with
  | .fn f => Calls P f args w R
  | .yield l => ∃ l' rr f tmps as_ body, M l = some (l', rr) ∧ (Instr.yield l' args).run P w = .ok (.round l' f tmps as_ body) w ∧ RoundIn Fence.wide 0 P l' f tmps as_ body w R
theorem CallsT.mono {P : Pg} {M : Mp} {t : Tgt} {args : Array Value} {w : World} {R R' : Ending → World → Prop} (h : CallsT P M t args w R) (hr : ∀ e w', R e w' → R' e w') : CallsT P M t args w R' := by
  cases t with
  | fn f => exact Calls.mono h hr
  | yield l =>
    obtain ⟨l', rr, f, tmps, as_, body, h1, h2, h3⟩ := h
    exact ⟨l', rr, f, tmps, as_, body, h1, h2, h3.mono hr⟩
theorem CallsT.of_none {P : Pg} {M : Mp} {t : Tgt} {args : Array Value} {w : World} {R : Ending → World → Prop} (h : CallsT P (fun _ => none) t args w R) : CallsT P M t args w R := by
  cases t with
  | fn f => exact h
  | yield l =>
    obtain ⟨l', rr, f, tmps, as_, body, h1, _⟩ := h
    cases h1
theorem upon_call {P : Pg} {M : Mp} {r : Option Nat} {o : Oper} {a : Act} {w : World} {next : Act → World → Prop} {Q : Exit → Act → World → Prop} {t : Tgt} {args' : Array Value} {s : Result Next}
    (hm : match t with
      | .fn f => s = .ok (.enter f args') w ∧ callable P f = true
      | .yield l => ∃ l' rr, M l = some (l', rr) ∧ s = (Instr.yield l' args').run P w)
    (hc : CallsT P M t args' w fun e w' => ∃ v, e = .returned v ∧ next (a.put o.dst v) w') : o.uponIn (Fr r) 0 P a next Q s := by
  cases t with
  | fn f =>
    obtain ⟨rfl, _⟩ := hm
    refine ⟨fun hd => (by rw [Fr_depth] at hd; cases hd), (callsIn_fr r hc).mono ?_⟩
    rintro e w' ⟨v, rfl, hn⟩
    exact hn
  | yield l =>
    obtain ⟨l1, r1, e1, rfl⟩ := hm
    obtain ⟨l', rr, f, tmps, as_, body, e2, e3, e4⟩ := hc
    rw [e1] at e2
    cases e2
    rw [e3]
    refine ⟨fun hd => (by rw [Fr_depth] at hd; cases hd), (roundIn_fr r e4).mono ?_⟩
    rintro e w' ⟨v, rfl, hn⟩
    exact hn
theorem sem_fr' {o : Oper} (h : ∀ c, o.op ≠ .defer c) (r : Option Nat) (ρ : Operand → Value) : o.semAt (Fr r).round ρ = execOp ρ o := by
  rw [Fr_round]
  cases r with
  | none => rfl
  | some l => exact Oper.semAt_some l ρ o h
/-- no operation that is reckoned defers -/
theorem sem_fr {P : Pg} {e : Operand → Option Value} {o : Oper} {hp : T AObj} {nid : Nat} {x : OR} (h : evOp P e o hp nid = some x) (r : Option Nat) (ρ : Operand → Value) : o.semAt (Fr r).round ρ = execOp ρ o := by
  rw [Fr_round]
  cases r with
  | none => rfl
  | some l =>
    refine Oper.semAt_some l ρ o fun c ho => ?_
    have h1 : opSel o.op P e o hp nid = some x := h
    rw [ho] at h1
    have h2 : evFlat P e o = some x := h1
    obtain ⟨_, h3⟩ := ck_some h2
    obtain ⟨v, h4, _⟩ := ob_some h3
    unfold onVal at h4
    split at h4
    · rename_i v' h5
      have h6 := prun_run (w := default) _ _ h5
      unfold execOp at h6
      rw [ho] at h6
      simp only [Sem.run_bind] at h6
      cases h7 : (resolve (totX e) c o.type).run P default with
      | ok d w' => rw [h7] at h6; simp [Result.andThen] at h6
      | halt y w' => rw [h7] at h6; cases h6
    · cases h4

def CallOk (P : Pg) (callF : CallF) : Prop := ∀ f args hp nid v hp' nid', callF f args hp nid = some (v, hp', nid') → nid ≤ nid' ∧
  ∀ B M (args' : Array Value) w, LRel P M args args'.toList → HRel P B M hp.get w → B ≤ w.heap.size → (∀ id, nid ≤ id → id < nid' → M id = none) →
    CallsT P M f args' w fun e w' => ∃ M' v', e = .returned v' ∧ VRel P M' v v' ∧ HRel P B M' hp'.get w' ∧ Evol M hp.get nid w M' hp'.get nid' w'

structure SInv (ds : List Deferred) (P : Pg) (B : Nat) (M : Mp) (loc base : Tm) (nt : Nat) (hp : T AObj) (a : Act) (w : World) : Prop where
  defers : a.defers = ds
  tmps : RRel P M loc base a.tmps nt
  heap : HRel P B M hp.get w
  base_ : B ≤ w.heap.size
theorem Act.put_defers' (a : Act) (dst : Option Tmp) (v : Value) : (a.put dst v).defers = a.defers := by cases dst <;> rfl

section
variable {P : Pg} {callF : CallF} {ops : Array Oper} {base : Tm} {nt : Nat} {Q : Exit → Act → World → Prop} {ds : List Deferred} {rf : Option Nat}

theorem le_step {o : Oper} {s s' : RS} (h : evStep P callF ops base nt o s = some s') : s.nid ≤ s'.nid := by
  obtain ⟨b, hb, h⟩ := ob_some h
  rcases bi_some h with ⟨_, h⟩ | ⟨_, h⟩
  · obtain ⟨r, hr, h⟩ := ob_some h
    cases r with
    | val v => rw [(putT_spec h).2.1]; exact Nat.le_refl _
    | new v ob' =>
      obtain ⟨hp, _, h⟩ := ob_some h
      rw [(putT_spec h).2.1]; exact Nat.le_succ _
    | eff v hp nid =>
      obtain ⟨hc, h⟩ := ck_some h
      rw [(putT_spec h).2.1]; exact Nat.le_of_ble_eq_true hc
    | call f args =>
      obtain ⟨q, _, h⟩ := ob_some h
      obtain ⟨hc, h⟩ := ck_some h
      rw [(putT_spec h).2.1]; exact Nat.le_of_ble_eq_true hc
  · rw [(putT_spec h).2.1]; exact Nat.le_refl _
theorem le_steps : ∀ (l : List Oper) (s s' : RS), evSteps P callF ops base nt l s = some s' → s.nid ≤ s'.nid
  | [], s, s', h => by cases h; exact Nat.le_refl _
  | o :: l, s, s', h => by
    have h' : (ob (evStep P callF ops base nt o s) fun s => evSteps P callF ops base nt l s) = some s' := h
    obtain ⟨s1, h1, h'⟩ := ob_some h'
    exact Nat.le_trans (le_step h1) (le_steps l s1 s' h')

/-- one operation -/
theorem ok_step (hc : CallOk P callF) {i : Nat} {o : Oper} (hi : ops[i]? = some o) {s s' : RS} (h : evStep P callF ops base nt o s = some s') {B : Nat} {M : Mp} {a : Act} {w : World}
    (hs : SInv ds P B M s.loc base nt s.hp a w) (hf : ∀ id, s.nid ≤ id → id < s'.nid → M id = none) {K : Act → World → Prop}
    (hK : ∀ M' a' w', SInv ds P B M' s'.loc base nt s'.hp a' w' → Evol M s.hp.get s.nid w M' s'.hp.get s'.nid w' → K a' w') : wpOpIn (Fr rf) 0 P ops Q i K a w := by
  unfold wpOpIn
  simp only [hi]
  replace h := ob_some h
  obtain ⟨b, hb, h⟩ := h
  rw [wantedV_spec hb hs.tmps]
  rcases bi_some h with ⟨e, h1⟩ | ⟨e, h1⟩ <;> clear h <;> subst e
  · rw [if_pos rfl]
    replace h1 := ob_some h1
    obtain ⟨r, hr, h⟩ := h1
    refine ⟨fun _ _ => Fr_fn _ _, ?_⟩
    rw [sem_fr hr]
    have hn : s.nid < topOf s.nid r → M s.nid = none := by
      intro hlt
      refine hf _ (Nat.le_refl _) ?_
      cases r with
      | val v => simp [topOf] at hlt
      | new v ob' =>
        obtain ⟨hp, _, h2⟩ := ob_some h
        rw [(putT_spec h2).2.1]; exact Nat.lt_succ_self _
      | eff v hp nid =>
        obtain ⟨_, h2⟩ := ck_some h
        rw [(putT_spec h2).2.1]; exact hlt
      | call f args => simp [topOf] at hlt
    have hok := ok_op (B := B) (w := w) hr hs.tmps.erel hs.heap hs.base_ hn
    cases r with
    | val v =>
      obtain ⟨v', e1, hv⟩ := hok
      rw [e1]
      obtain ⟨p1, p2, p3, p4⟩ := putT_spec h
      refine hK M _ _ ⟨by rw [Act.put_defers']; exact hs.defers, ?_, by rw [p1]; exact hs.heap, hs.base_⟩ (by rw [p1, p2]; exact Evol.refl _ _ _ _)
      rw [p3]; exact hs.tmps.put hv p4
    | new v ob' =>
      obtain ⟨v', obj, e1, hv, ho⟩ := hok
      rw [e1]
      obtain ⟨hp, hset, h2⟩ := ob_some h
      obtain ⟨p1, p2, p3, p4⟩ := putT_spec h2
      have hM := hn (by simp [topOf])
      have hget := T.get_set _ _ _ _ hset
      have ho' := ho.ext (Mp.upd_ext (b := w.heap.size) (r := 0) hM)
      refine hK (M.upd s.nid w.heap.size 0) _ _ ⟨by rw [Act.put_defers']; exact hs.defers, ?_, ?_, ?_⟩ ?_
      · rw [p3]; exact (hs.tmps.ext (Mp.upd_ext hM)).put hv p4
      · rw [p1]; exact hs.heap.push hs.base_ hM hget rfl ho'
      · simp; exact Nat.le_succ_of_le hs.base_
      · rw [p1, p2]; exact Evol.push hs.heap hM hget rfl rfl rfl rfl
    | eff v hp nid =>
      obtain ⟨x, v', w', M', e1, hx, hv, hh, hev⟩ := hok
      obtain ⟨_, h2⟩ := ck_some h
      obtain ⟨p1, p2, p3, p4⟩ := putT_spec h2
      have hfin : K (a.put o.dst v') w' := by
        refine hK M' _ _ ⟨by rw [Act.put_defers']; exact hs.defers, ?_, by rw [p1]; exact hh, Nat.le_trans hs.base_ hev.size⟩ (by rw [p1, p2]; exact hev)
        rw [p3]; exact (hs.tmps.ext hev.ext).put hv p4
      rw [e1]
      rcases hx with rfl | ⟨rfl, rfl⟩
      · exact hfin
      · exact hfin
    | call f args =>
      obtain ⟨args', hl, hm⟩ := hok
      obtain ⟨⟨v, hp, nid⟩, hcall, h2⟩ := ob_some h
      obtain ⟨_, h3⟩ := ck_some h2
      obtain ⟨p1, p2, p3, p4⟩ := putT_spec h3
      obtain ⟨_, hrun⟩ := hc _ _ _ _ _ _ _ hcall
      refine upon_call hm ((hrun B M args' w hl hs.heap hs.base_ (fun id h1 h2 => hf id h1 (by rw [p2]; exact h2))).mono ?_)
      rintro e w' ⟨M', v', rfl, hv, hh, hev⟩
      refine ⟨v', rfl, ?_⟩
      refine hK M' _ _ ⟨by rw [Act.put_defers']; exact hs.defers, ?_, by rw [p1]; exact hh, Nat.le_trans hs.base_ hev.size⟩ (by rw [p1, p2]; exact hev)
      rw [p3]; exact (hs.tmps.ext hev.ext).put hv p4
  · rw [if_neg (by simp)]
    refine ⟨fun _ _ => Fr_fn _ _, ?_⟩
    obtain ⟨p1, p2, p3, p4⟩ := putT_spec h1
    refine hK M _ _ ⟨by rw [Act.put_defers']; exact hs.defers, ?_, by rw [p1]; exact hs.heap, hs.base_⟩ (by rw [p1, p2]; exact Evol.refl _ _ _ _)
    rw [p3]; exact hs.tmps.put (LRel.tup (LRel.nil M)) p4

theorem ok_steps (hc : CallOk P callF) : ∀ (l : List Oper) (i : Nat) (s s' : RS), (∀ k, l[k]? = ops[i + k]?) → evSteps P callF ops base nt l s = some s' → ∀ {B : Nat} {M : Mp} {a : Act} {w : World},
    SInv ds P B M s.loc base nt s.hp a w → (∀ id, s.nid ≤ id → id < s'.nid → M id = none) →
    (∀ M' a' w', SInv ds P B M' s'.loc base nt s'.hp a' w' → Evol M s.hp.get s.nid w M' s'.hp.get s'.nid w' → Q .normal a' w') → wpOpsIn (Fr rf) 0 P ops Q (List.range' i l.length) a w
  | [], i, s, s', hl, h, B, M, a, w, hs, hf, hK => by
    cases h
    exact hK M a w hs (Evol.refl _ _ _ _)
  | o :: l, i, s, s', hl, h, B, M, a, w, hs, hf, hK => by
    have h' : (ob (evStep P callF ops base nt o s) fun s => evSteps P callF ops base nt l s) = some s' := h
    obtain ⟨s1, h1, h2⟩ := ob_some h'
    have l1 := le_step h1
    have l2 := le_steps l s1 s' h2
    rw [List.length_cons, List.range'_succ, wpOpsIn_cons]
    have hi : ops[i]? = some o := by have := hl 0; simpa using this.symm
    refine ok_step hc hi h1 hs (fun id a1 a2 => hf id a1 (by omega)) fun M' a' w' hs' hev => ?_
    refine ok_steps hc l (i + 1) s1 s' (fun k => by have := hl (k + 1); rw [show i + (k + 1) = i + 1 + k by omega] at this; simpa using this) h2 hs' (fun id a1 a2 => ?_) fun M2 a2 w2 hs2 hev2 => hK M2 a2 w2 hs2 (hev.trans hev2)
    cases e : M' id with
    | none => rfl
    | some x =>
      have := hev.dom id (hf id (by omega) a2) (by rw [e]; simp)
      omega
end
end Sy
end Go.Proofs.Ytlmnhlmgbcpclaa

set_option linter.unusedSimpArgs false
set_option linter.unusedVariables false
namespace Go.Proofs.Ytlmnhlmgbcpclaa
namespace Sy
variable {P : Pg}

/-! What must lie ahead. -/

theorem bit_test (m j : Nat) : bit m j = m.testBit j := by
  have h : bit m j = Nat.beq (m >>> j % 2) 1 := rfl
  rw [h, beq_eq, Nat.testBit_eq_decide_div_mod_eq, Nat.shiftRight_eq_div_pow]
theorem bit_lor (a b j : Nat) : bit (Nat.lor a b) j = (bit a j || bit b j) := by
  rw [bit_test, bit_test, bit_test]
  exact Nat.testBit_or a b j
theorem bit_one (a j : Nat) (h : bit (Nat.shiftLeft 1 a) j = true) : j = a := by
  rw [bit_test] at h
  have e : Nat.shiftLeft 1 a = 1 <<< a := rfl
  rw [e, Nat.one_shiftLeft, Nat.testBit_two_pow] at h
  exact (of_decide_eq_true h).symm
theorem bit_full (n j : Nat) (h : j < n) : bit (Nat.sub (Nat.shiftLeft 1 n) 1) j = true := by
  rw [bit_test]
  have e : Nat.sub (Nat.shiftLeft 1 n) 1 = 1 <<< n - 1 := rfl
  rw [e, Nat.one_shiftLeft, Nat.testBit_two_pow_sub_one]
  simpa using h
theorem bit_zero (j : Nat) : bit 0 j = false := by rw [bit_test]; simp

theorem mustOf_spec {acc : List Nat} {o : Oper} {j : Nat} (h : bit (mustOf acc o) j = true) :
    ∃ e ∈ o.after, Region.binds .any e = true ∧ (e.on = j ∨ ∃ m, acc[e.on]? = some m ∧ bit m j = true) := by
  have key : ∀ l : List Edge, bit (List.rec 0 (fun e _ ih => bi (Region.binds .any e) (Nat.lor (Nat.lor (Nat.shiftLeft 1 e.on) (Option.rec 0 (fun m => m) acc[e.on]?)) ih) ih) l : Nat) j = true →
      ∃ e ∈ l, Region.binds .any e = true ∧ (e.on = j ∨ ∃ m, acc[e.on]? = some m ∧ bit m j = true) := by
    intro l
    induction l with
    | nil => intro h; have h : bit 0 j = true := h; rw [bit_zero] at h; cases h
    | cons e l ih =>
      intro h
      have h : bit (bi (Region.binds .any e) (Nat.lor (Nat.lor (Nat.shiftLeft 1 e.on) (Option.rec 0 (fun m => m) acc[e.on]?)) (List.rec 0 (fun e _ ih => bi (Region.binds .any e) (Nat.lor (Nat.lor (Nat.shiftLeft 1 e.on) (Option.rec 0 (fun m => m) acc[e.on]?)) ih) ih) l)) (List.rec 0 (fun e _ ih => bi (Region.binds .any e) (Nat.lor (Nat.lor (Nat.shiftLeft 1 e.on) (Option.rec 0 (fun m => m) acc[e.on]?)) ih) ih) l)) j = true := h
      rw [bi_if] at h
      split at h
      · rename_i hb
        rw [bit_lor, bit_lor, Bool.or_eq_true, Bool.or_eq_true] at h
        rcases h with (h | h) | h
        · exact ⟨e, by simp, hb, .inl (bit_one _ _ h).symm⟩
        · cases ha : acc[e.on]? with
          | none => rw [ha] at h; have h : bit 0 j = true := h; rw [bit_zero] at h; cases h
          | some m => rw [ha] at h; exact ⟨e, by simp, hb, .inr ⟨m, ha, h⟩⟩
        · obtain ⟨e', h1, h2⟩ := ih h
          exact ⟨e', by simp [h1], h2⟩
      · obtain ⟨e', h1, h2⟩ := ih h
        exact ⟨e', by simp [h1], h2⟩
  obtain ⟨e, h1, h2⟩ := key _ h
  exact ⟨e, by simpa using h1, h2⟩
theorem musts_spec : ∀ (l : List Oper) (acc : List Nat), (musts l acc).length = acc.length + l.length ∧ (∀ k, k < acc.length → (musts l acc)[k]? = acc[k]?) ∧
    ∀ t o, l[t]? = some o → (musts l acc)[acc.length + t]? = some (mustOf ((musts l acc).take (acc.length + t)) o)
  | [], acc => ⟨rfl, fun k h => rfl, fun t o h => by simp at h⟩
  | o :: l, acc => by
    have e : musts (o :: l) acc = musts l (acc ++ [mustOf acc o]) := rfl
    obtain ⟨h1, h2, h3⟩ := musts_spec l (acc ++ [mustOf acc o])
    rw [e]
    refine ⟨by rw [h1]; simp; omega, fun k hk => by rw [h2 k (by simp; omega), List.getElem?_append_left hk], fun t o' ht => ?_⟩
    cases t with
    | zero =>
      simp at ht
      subst ht
      rw [Nat.add_zero, h2 acc.length (by simp)]
      have : (musts l (acc ++ [mustOf acc o])).take acc.length = acc := by
        apply List.ext_getElem?
        intro k
        rw [List.getElem?_take]
        split
        · rename_i hk; rw [h2 k (by simp; omega), List.getElem?_append_left hk]
        · rename_i hk; rw [List.getElem?_eq_none (by omega)]
      rw [this]
      simp
    | succ t =>
      have := h3 t o' (by simpa using ht)
      simp only [List.length_append, List.length_cons, List.length_nil] at this
      rw [show acc.length + (t + 1) = acc.length + (0 + 1) + t by omega]
      exact this

/-- what lies ahead of a listed operation is listed -/
def Closed (ops : Array Oper) (L : Nat → Prop) : Prop := ∀ k ok, L k → ops[k]? = some ok → ∀ e ∈ ok.after, Region.binds .any e = true → L e.on
theorem ahead {ops : Array Oper} {L : Nat → Prop} (hL : Closed ops L) : ∀ (j : Nat) (o : Oper) (m : Nat), ops[j]? = some o → (musts ops.toList [])[j]? = some m → (∀ e ∈ o.after, Region.binds .any e = true → L e.on) →
    ∀ i, bit m i = true → L i := by
  intro j
  induction j using Nat.strongRecOn with
  | _ j ih =>
    intro o m ho hm hp i hb
    obtain ⟨h1, h2, h3⟩ := musts_spec ops.toList []
    have h4 := h3 j o (by simpa using ho)
    simp only [List.length_nil, Nat.zero_add] at h4
    rw [hm] at h4
    cases h4
    obtain ⟨e, he, hbd, hor⟩ := mustOf_spec hb
    have hLe := hp e he hbd
    rcases hor with rfl | ⟨m', hm', hb'⟩
    · exact hLe
    · rw [List.getElem?_take] at hm'
      split at hm'
      · rename_i hlt
        have hlen : e.on < ops.toList.length := by
          have h5 := (List.getElem?_eq_some_iff.1 hm').1
          rw [h1, List.length_nil, Nat.zero_add] at h5
          exact h5
        have ho' : ops[e.on]? = some ops[e.on] := Array.getElem?_eq_getElem (by simpa using hlen)
        exact ih e.on hlt _ m' ho' hm' (fun e' he' hb2 => hL e.on _ hLe ho' e' he' hb2) i hb'
      · cases hm'
theorem ahead' {ops : Array Oper} {L : Nat → Prop} (hL : Closed ops L) {j : Nat} {o : Oper} {m : Nat} (ho : ops[j]? = some o) (hm : (musts ops.toList [])[j]? = some m) (hj : L j) {i : Nat} (hb : bit m i = true) : L i :=
  ahead hL j o m ho hm (fun e he hbd => hL j o hj ho e he hbd) i hb

/-! The checks of a region. -/
theorem once_spec : ∀ (l : List Oper) (seen : List Nat), onceOk l seen = true → (∀ (i : Nat) o d, l[i]? = some o → o.dst = some d → d ∉ seen) ∧
    ∀ (i j : Nat) (a b : Oper) (d : Tmp), l[i]? = some a → l[j]? = some b → a.dst = some d → b.dst = some d → i = j
  | [], seen, h => ⟨fun i o d h => by simp at h, fun i j a b d h => by simp at h⟩
  | o :: l, seen, h => by
    have h' : (Option.rec (onceOk l seen) (fun d => bi (seen.all fun e => !(Nat.beq e d)) (onceOk l (d :: seen)) false) o.dst : Bool) = true := h
    cases ho : o.dst with
    | none =>
      rw [ho] at h'
      obtain ⟨k1, k2⟩ := once_spec l seen h'
      refine ⟨fun i a d hi hd => ?_, fun i j a b d hi hj ha hb => ?_⟩
      · cases i with
        | zero => simp at hi; subst hi; rw [ho] at hd; cases hd
        | succ i => exact k1 i a d (by simpa using hi) hd
      · cases i with
        | zero => simp at hi; subst hi; rw [ho] at ha; cases ha
        | succ i => cases j with
          | zero => simp at hj; subst hj; rw [ho] at hb; cases hb
          | succ j => rw [k2 i j a b d (by simpa using hi) (by simpa using hj) ha hb]
    | some d0 =>
      rw [ho] at h'
      have h'' : bi (seen.all fun e => !(Nat.beq e d0)) (onceOk l (d0 :: seen)) false = true := h'
      rw [bi_if] at h''
      split at h''
      · rename_i hs
        obtain ⟨k1, k2⟩ := once_spec l (d0 :: seen) h''
        have hns : d0 ∉ seen := fun hm => by
          have := List.all_eq_true.1 hs d0 hm
          simp at this
        refine ⟨fun i a d hi hd => ?_, fun i j a b d hi hj ha hb => ?_⟩
        · cases i with
          | zero => simp at hi; subst hi; rw [ho] at hd; cases hd; exact hns
          | succ i => exact fun hm => k1 i a d (by simpa using hi) hd (by simp [hm])
        · cases i with
          | zero => cases j with
            | zero => rfl
            | succ j =>
              simp at hi; subst hi; rw [ho] at ha; cases ha
              exact absurd (by simp) (k1 j b d0 (by simpa using hj) hb)
          | succ i => cases j with
            | zero =>
              simp at hj; subst hj; rw [ho] at hb; cases hb
              exact absurd (by simp) (k1 i a d0 (by simpa using hi) ha)
            | succ j => rw [k2 i j a b d (by simpa using hi) (by simpa using hj) ha hb]
      · cases h''
theorem row_spec {ops : Array Oper} {m : Nat} {b : Oper} : ∀ (l : List Oper) (i : Nat), rowOk ops m b l i = true → ∀ k a, l[k]? = some a → pairOk ops m (i + k) a b = true
  | [], i, h, k, a, hk => by simp at hk
  | x :: l, i, h, k, a, hk => by
    have h' : bi (pairOk ops m i x b) (rowOk ops m b l (i + 1)) false = true := h
    rw [bi_if] at h'
    split at h'
    · rename_i hp
      cases k with
      | zero => simp at hk; subst hk; exact hp
      | succ k => rw [show i + (k + 1) = i + 1 + k by omega]; exact row_spec l (i + 1) h' k a (by simpa using hk)
    · cases h'
theorem pairs_spec {ops : Array Oper} {ms : List Nat} : ∀ (l : List Oper) (j : Nat) (pre : List Oper), pre.length = j → pairsOk ops ms l j pre = true →
    ∀ (k i : Nat) (a b : Oper), l[k]? = some b → i < j + k → (pre ++ l)[i]? = some a → ∃ m, ms[j + k]? = some m ∧ pairOk ops m i a b = true
  | [], j, pre, hp, h, k, i, a, b, hk => by simp at hk
  | x :: l, j, pre, hp, h, k, i, a, b, hk => by
    intro hi ha
    have h' : bi (Option.rec false (fun m => rowOk ops m x pre 0) ms[j]?) (pairsOk ops ms l (j + 1) (pre ++ [x])) false = true := h
    rw [bi_if] at h'
    split at h'
    · rename_i hr
      cases k with
      | zero =>
        simp at hk
        subst hk
        cases hm : ms[j]? with
        | none => rw [hm] at hr; cases hr
        | some m =>
          rw [hm] at hr
          have := row_spec pre 0 hr i a (by rw [List.getElem?_append_left (by omega)] at ha; exact ha)
          rw [Nat.zero_add] at this
          exact ⟨m, by simp, this⟩
      | succ k =>
        rw [show j + (k + 1) = j + 1 + k by omega]
        exact pairs_spec l (j + 1) (pre ++ [x]) (by simp [hp]) h' k i a b (by simpa using hk) (by omega) (by simpa using ha)
    · cases h'
theorem edges_spec : ∀ (l : List Oper) (i : Nat), edgesOk l i = true → ∀ k o, l[k]? = some o → ∀ e ∈ o.after, Region.binds .any e = true → e.on < i + k
  | [], i, h, k, o, hk => by simp at hk
  | x :: l, i, h, k, o, hk => by
    intro e he hb
    have h' : bi (x.after.toList.all fun e => bi (Region.binds .any e) (Nat.blt e.on i) true) (edgesOk l (i + 1)) false = true := h
    rw [bi_if] at h'
    split at h'
    · rename_i hx
      cases k with
      | zero =>
        simp at hk
        subst hk
        have := List.all_eq_true.1 hx e (by simpa using he)
        rw [hb] at this
        have h2 : Nat.blt e.on i = true := this
        rw [blt_dec] at h2
        simpa using h2
      | succ k =>
        have := edges_spec l (i + 1) h' k o (by simpa using hk) e he hb
        omega
    · cases h'

structure Reg (ops : Array Oper) : Prop where
  sel : Region.noSelect ops = true
  edges : ∀ k o, ops[k]? = some o → ∀ e ∈ o.after, Region.binds .any e = true → e.on < k
  once : ∀ (i j : Nat) (a b : Oper) (d : Tmp), ops[i]? = some a → ops[j]? = some b → a.dst = some d → b.dst = some d → i = j
  pair : ∀ (i j : Nat) (a b : Oper), ops[i]? = some a → ops[j]? = some b → i < j → ∃ m, (musts ops.toList [])[j]? = some m ∧ (bit m i = true ∨ (Oper.apart ops a b = true ∧ (isEff a && isEff b) = false))
theorem regOk_spec {ops : Array Oper} (h : regOk ops = true) : Reg ops := by
  simp only [regOk, Bool.and_eq_true] at h
  obtain ⟨h1, h2, h3, h4, h5⟩ := h
  refine ⟨h1, fun k o ho e he hb => ?_, fun i j a b d ha hb hda hdb => (once_spec _ _ h3).2 i j a b d (by simpa using ha) (by simpa using hb) hda hdb, fun i j a b ha hb hij => ?_⟩
  · have := edges_spec _ _ h2 k o (by simpa using ho) e he hb
    omega
  · obtain ⟨m, hm, hp⟩ := pairs_spec ops.toList 0 [] rfl h5 j i a b (by simpa using hb) (by omega) (by simpa using ha)
    rw [Nat.zero_add] at hm
    refine ⟨m, hm, ?_⟩
    simp only [pairOk, Bool.or_eq_true, Bool.and_eq_true, Bool.not_eq_true'] at hp
    exact hp

/-- what must lie ahead comes ahead in the text -/
theorem must_lt {ops : Array Oper} (hr : Reg ops) {i : Nat} {o : Oper} {m : Nat} (ho : ops[i]? = some o) (hm : (musts ops.toList [])[i]? = some m) {j : Nat} (hb : bit m j = true) : j < i := by
  have h : ∀ k, k < i → (fun x => x < i) k := fun k hk => hk
  refine ahead (L := fun x => x < i) (fun k ok hk hok e he hbd => ?_) i o m ho hm (fun e he hbd => hr.edges i o ho e he hbd) j hb
  have := hr.edges k ok hok e he hbd
  omega
theorem eqA_eq {a b : Value} (h : eqA a b = true) : a = b := by
  unfold eqA at h
  split at h
  · simpa using h
  · simp only [Bool.and_eq_true, decide_eq_true_eq, eqI_eq] at h; rw [h.1, h.2]
  · simpa using h
  · rfl
  · simp only [Bool.and_eq_true, beq_eq, decide_eq_true_eq] at h; rw [h.1, h.2]
  · simp only [Bool.and_eq_true, beq_eq, decide_eq_true_eq] at h; rw [h.1, h.2]
  · simp only [Bool.and_eq_true, beq_eq, decide_eq_true_eq] at h; rw [h.1, h.2.1, h.2.2.1, h.2.2.2]
  · rfl
  · exact eqT_eq _ _ _ h
  · rename_i f a c g b d
    simp only [Bool.and_eq_true, beq_eq, decide_eq_true_eq] at h
    obtain ⟨rfl, h1, h2, h3, h4⟩ := h
    rw [Array.eq_empty_of_size_eq_zero h1, Array.eq_empty_of_size_eq_zero h2, Array.eq_empty_of_size_eq_zero h3, Array.eq_empty_of_size_eq_zero h4]
  · rename_i f a c g b d
    simp only [Bool.and_eq_true, beq_eq, decide_eq_true_eq] at h
    obtain ⟨rfl, h1, h2, h3, h4⟩ := h
    rw [Array.eq_empty_of_size_eq_zero h1, Array.eq_empty_of_size_eq_zero h2, Array.eq_empty_of_size_eq_zero h3, Array.eq_empty_of_size_eq_zero h4]
  · cases h
theorem eqAs_eq : ∀ (l r : List Value), eqAs l r = true → l = r
  | [], r, h => by
    have h' : Nat.beq r.length 0 = true := h
    exact (List.eq_nil_of_length_eq_zero (Nat.eq_of_beq_eq_true h')).symm
  | v :: l, [], h => by cases h
  | v :: l, u :: r, h => by
    have h' : bi (eqA v u) (eqAs l r) false = true := h
    rw [bi_if] at h'
    split at h'
    · rename_i e; rw [eqA_eq e, eqAs_eq l r h']
    · cases h'
theorem eqV_eq {a b : Value} (h : eqV a b = true) : a = b := by
  unfold eqV at h
  split at h
  · rw [Array.toList_inj.1 (eqAs_eq _ _ h)]
  · simp only [Bool.and_eq_true, beq_eq, decide_eq_true_eq] at h
    rw [h.1, Array.toList_inj.1 (eqAs_eq _ _ h.2.1), Array.toList_inj.1 (eqAs_eq _ _ h.2.2)]
  · exact eqA_eq h
theorem sameV_eq {o : Option Value} {v : Value} (h : sameV o v = true) : o = some v := by
  cases o with
  | none => cases h
  | some u => rw [eqV_eq (a := u) (b := v) h]

end Sy
end Go.Proofs.Ytlmnhlmgbcpclaa

set_option linter.unusedSimpArgs false
set_option linter.unusedVariables false
namespace Go.Proofs.Ytlmnhlmgbcpclaa
namespace Sy
variable {P : Pg}

/-! The way through a region, operation by operation. -/

def putD (dst : Option Tmp) (v : Value) (loc : Tm) : Tm := locPut dst v loc

/-- how one operation turns the state -/
inductive Kind (P : Pg) (callF : CallF) (ops : Array Oper) (base : Tm) (nt i m : Nat) (o : Oper) (s s' : DS) : Prop
  | skip (hw : wantedV ops s.loc base o = some false) (hl : s'.loc = locPut o.dst undef s.loc) (hs : s'.core = s.core ∧ s'.abs = s.abs ∧ s'.nid = s.nid ∧ s'.fls = s.fls ∧ s'.old = s.old ∧ s'.lds = s.lds)
  | val (v : Value) (hw : wantedV ops s.loc base o = some true) (he : isEff o = false) (hv : evOp P (evXr (Oper.looksAt ops o) s.loc base) o .leaf s.nid = some (.val v)) (hl : s'.loc = locPut o.dst v s.loc)
      (hs : s'.core = s.core ∧ s'.abs = s.abs ∧ s'.nid = s.nid ∧ s'.fls = s.fls ∧ s'.old = s.old ∧ s'.lds = s.lds)
  | load (t : TypeId) (x : Operand) (b off : Nat) (v : Value) (hw : wantedV ops s.loc base o = some true) (he : isEff o = false) (ho : o.op = .load t x)
      (p : Value) (hx : evXr (Oper.looksAt ops o) s.loc base x = some p) (hpw : ptrW p = some (b, off)) (hv : loadO P (lookAt m s.core s.abs s.fls b) t off = some v)
      (hold : ∀ q ∈ s.old, bit m q.1 = true ∨ loadO P (lookAt m q.2.1 q.2.2 s.fls b) t off = some v) (hl : s'.loc = locPut o.dst v s.loc)
      (hs : s'.core = s.core ∧ s'.abs = s.abs ∧ s'.nid = s.nid ∧ s'.fls = s.fls ∧ s'.old = s.old ∧ s'.lds = ⟨i, m, t, b, off, v⟩ :: s.lds)
  | new (v : Value) (ob : AObj) (hw : wantedV ops s.loc base o = some true) (he : isEff o = false) (hv : evOp P (evXr (Oper.looksAt ops o) s.loc base) o .leaf s.nid = some (.new v ob)) (hl : s'.loc = locPut o.dst v s.loc)
      (hs : s'.core = s.core ∧ s'.abs = s.abs ∧ s'.nid = s.nid + 1 ∧ s'.fls = (i, s.nid, ob) :: s.fls ∧ s'.old = s.old ∧ s'.lds = s.lds)
  | iso (f : Tgt) (args : List Value) (c : T AObj × List Nat) (v : Value) (hp : T AObj) (nid : Nat) (hw : wantedV ops s.loc base o = some true) (he : isEff o = true)
      (hc : absorb m s.fls s.abs s.core = some c) (hv : evOp P (evXr (Oper.looksAt ops o) s.loc base) o c.1 s.nid = some (.call f args)) (hf : args.all flat = true) (hcall : callF f args .leaf 0 = some (v, hp, nid)) (hfl : flat v = true)
      (hl : s'.loc = locPut o.dst v s.loc) (hs : s'.core = s.core ∧ s'.abs = s.abs ∧ s'.nid = s.nid ∧ s'.fls = s.fls ∧ s'.old = s.old ∧ s'.lds = s.lds)
  | turn (c : T AObj × List Nat) (v : Value) (core : T AObj) (nid : Nat) (hw : wantedV ops s.loc base o = some true) (he : isEff o = true) (hc : absorb m s.fls s.abs s.core = some c)
      (hv : evOp P (evXr (Oper.looksAt ops o) s.loc base) o c.1 s.nid = some (.eff v core nid) ∨ ∃ f args, evOp P (evXr (Oper.looksAt ops o) s.loc base) o c.1 s.nid = some (.call f args) ∧ callF f args c.1 s.nid = some (v, core, nid))
      (hle : s.nid ≤ nid) (hlds : ∀ q ∈ s.lds, bit m q.op = true ∨ loadO P (lookAt q.m core c.2 s.fls q.b) q.t q.off = some q.v) (hl : s'.loc = locPut o.dst v s.loc)
      (hs : s'.core = core ∧ s'.abs = c.2 ∧ s'.nid = nid ∧ s'.fls = s.fls ∧ s'.old = (i, s.core, s.abs) :: s.old ∧ s'.lds = s.lds)

theorem dPut_spec {s s' : DS} {nt : Nat} {dst : Option Tmp} {v : Value} {core : T AObj} {abs : List Nat} {nid : Nat} {fls : List (Nat × Nat × AObj)} {old : List (Nat × T AObj × List Nat)} {lds : List LD}
    (h : dPut s nt dst v core abs nid fls old lds = some s') : (s'.loc = locPut dst v s.loc ∧ ∀ d, dst = some d → d < nt) ∧ s'.core = core ∧ s'.abs = abs ∧ s'.nid = nid ∧ s'.fls = fls ∧ s'.old = old ∧ s'.lds = lds := by
  obtain ⟨r, hr, h⟩ := ob_some h
  cases h
  obtain ⟨_, _, p3, p4⟩ := putT_spec hr
  exact ⟨⟨p3, p4⟩, rfl, rfl, rfl, rfl, rfl, rfl⟩

section
variable {P : Pg} {callF : CallF} {ops : Array Oper} {base : Tm} {nt : Nat}

theorem dStep_kind {i m : Nat} {o : Oper} {s s' : DS} (h : dStep P callF ops base nt i m o s = some s') : Kind P callF ops base nt i m o s s' ∧ ∀ d, o.dst = some d → d < nt := by
  obtain ⟨w, hw, h⟩ := ob_some h
  rcases bi_some h with ⟨e, h1⟩ | ⟨e, h1⟩ <;> clear h <;> subst e
  · cases hl : loadOf o with
    | some l =>
      rw [hl] at h1
      obtain ⟨t, x⟩ := l
      have ho : o.op = .load t x := by
        unfold loadOf at hl
        split at hl
        · rename_i e; cases hl; exact e
        · cases hl
      have he : isEff o = false := by simp [isEff, ho]
      have h1 : orE (ob (evXr (Oper.looksAt ops o) s.loc base x) fun p => ob (famLoad P t p) fun v => dPut s nt o.dst v s.core s.abs s.nid s.fls s.old s.lds) (dLoad P i m nt (Oper.looksAt ops o) base o.dst t x s) = some s' := h1
      rcases orE_some h1 with h2 | h2 <;> clear h1
      · replace h2 := ob_some h2
        obtain ⟨p, hp, h2⟩ := h2
        replace h2 := ob_some h2
        obtain ⟨v, hv, h2⟩ := h2
        obtain ⟨⟨q1, q1'⟩, q2⟩ := dPut_spec h2
        refine ⟨.val v hw he ?_ q1 q2, q1'⟩
        unfold evOp
        rw [ho]
        show (ob (evXr (Oper.looksAt ops o) s.loc base x) fun v => orE (oval (famLoad P t v)) (ob (ptrW v) fun p => oval (loadO P (T.get .leaf p.1) t p.2))) = _
        rw [hp]
        show orE (oval (famLoad P t p)) _ = _
        rw [hv]
        rfl
      have h1 := h2
      clear h2
      replace h1 := ob_some h1
      obtain ⟨p, hp, h1⟩ := h1
      replace h1 := ob_some h1
      obtain ⟨⟨b, off⟩, hpw, h1⟩ := h1
      replace h1 := ob_some h1
      obtain ⟨v, hv, h1⟩ := h1
      replace h1 := ck_some h1
      obtain ⟨hold, h1⟩ := h1
      obtain ⟨⟨q1, q1'⟩, q2⟩ := dPut_spec h1
      refine ⟨.load t x b off v hw he ho p hp hpw hv (fun q hq => ?_) q1 q2, q1'⟩
      have := List.all_eq_true.1 hold q hq
      rw [Bool.or_eq_true] at this
      exact this.imp (fun a => a) sameV_eq
    | none =>
      rw [hl] at h1
      have h1 : bi (isEff o) (dEff P callF i m nt (Oper.looksAt ops o) base o s) (dPlain P i nt (Oper.looksAt ops o) base o s) = some s' := h1
      rcases bi_some h1 with ⟨he, h2⟩ | ⟨he, h2⟩ <;> clear h1
      · replace h2 := ob_some h2
        obtain ⟨c, hc, h2⟩ := h2
        replace h2 := ob_some h2
        obtain ⟨r, hr, h2⟩ := h2
        cases r with
        | val v => cases h2
        | new v ob => cases h2
        | eff v hp nid =>
          obtain ⟨hck, h3⟩ := ck_some h2
          rw [Bool.and_eq_true] at hck
          obtain ⟨⟨q1, q1'⟩, q2⟩ := dPut_spec h3
          refine ⟨.turn c v hp nid hw he hc (.inl hr) (Nat.le_of_ble_eq_true hck.1) (fun q hq => ?_) q1 q2, q1'⟩
          have := List.all_eq_true.1 hck.2 q hq
          rw [Bool.or_eq_true] at this
          exact this.imp (fun a => a) sameV_eq
        | call f args =>
          rcases bi_some h2 with ⟨hpl, h3⟩ | ⟨hpl, h3⟩
          · rw [Bool.and_eq_true] at hpl
            obtain ⟨⟨v, hp, nid⟩, hq, h4⟩ := ob_some h3
            obtain ⟨hfl, h5⟩ := ck_some h4
            obtain ⟨⟨q1, q1'⟩, q2⟩ := dPut_spec h5
            exact ⟨.iso f args c v hp nid hw he hc hr hpl.2 hq hfl q1 q2, q1'⟩
          · obtain ⟨⟨v, hp, nid⟩, hq, h4⟩ := ob_some h3
            obtain ⟨hck, h5⟩ := ck_some h4
            rw [Bool.and_eq_true] at hck
            obtain ⟨⟨q1, q1'⟩, q2⟩ := dPut_spec h5
            refine ⟨.turn c v hp nid hw he hc (.inr ⟨f, args, hr, hq⟩) (Nat.le_of_ble_eq_true hck.1) (fun q hq => ?_) q1 q2, q1'⟩
            have := List.all_eq_true.1 hck.2 q hq
            rw [Bool.or_eq_true] at this
            exact this.imp (fun a => a) sameV_eq
      · replace h2 := ob_some h2
        obtain ⟨r, hr, h2⟩ := h2
        cases r with
        | val v =>
          obtain ⟨⟨q1, q1'⟩, q2⟩ := dPut_spec h2
          exact ⟨.val v hw he hr q1 q2, q1'⟩
        | new v ob =>
          obtain ⟨⟨q1, q1'⟩, q2⟩ := dPut_spec h2
          exact ⟨.new v ob hw he hr q1 q2, q1'⟩
        | eff v hp nid => cases h2
        | call f args => cases h2
  · obtain ⟨⟨q1, q1'⟩, q2⟩ := dPut_spec h1
    exact ⟨.skip hw q1 q2, q1'⟩

/-- the states along the text -/
theorem trace : ∀ (ms : List Nat) (l : List Oper) (i : Nat) (s s' : DS), dSteps P callF ops ms base nt l i s = some s' → ∃ σ : Nat → DS, σ i = s ∧ σ (i + l.length) = s' ∧
    ∀ k o, l[k]? = some o → ∃ m, ms[i + k]? = some m ∧ dStep P callF ops base nt (i + k) m o (σ (i + k)) = some (σ (i + k + 1))
  | ms, [], i, s, s', h => by cases h; exact ⟨fun _ => s, rfl, rfl, fun k o h => by simp at h⟩
  | ms, o :: l, i, s, s', h => by
    have h' : (ob ms[i]? fun m => ob (dStep P callF ops base nt i m o s) fun s => dSteps P callF ops ms base nt l (i + 1) s) = some s' := h
    obtain ⟨m, hm, h'⟩ := ob_some h'
    obtain ⟨s1, h1, h'⟩ := ob_some h'
    obtain ⟨σ, e1, e2, e3⟩ := trace ms l (i + 1) s1 s' h'
    refine ⟨fun j => if j ≤ i then s else σ j, by simp, by simp only [List.length_cons]; rw [if_neg (by omega)]; rw [show i + (l.length + 1) = i + 1 + l.length by omega]; exact e2, fun k o' hk => ?_⟩
    cases k with
    | zero =>
      simp at hk
      subst hk
      refine ⟨m, by simpa using hm, ?_⟩
      simp only [Nat.add_zero, Nat.le_refl, if_true]
      rw [if_neg (by omega), e1]
      exact h1
    | succ k =>
      obtain ⟨m', hm', h2⟩ := e3 k o' (by simpa using hk)
      refine ⟨m', by rw [show i + (k + 1) = i + 1 + k by omega]; exact hm', ?_⟩
      have n1 : ¬ (i + (k + 1) ≤ i) := by omega
      have n2 : ¬ (i + (k + 1) + 1 ≤ i) := by omega
      simp only [n1, n2, if_false]
      rw [show i + (k + 1) = i + 1 + k by omega]
      exact h2

/-- a way through the whole region -/
structure Way (P : Pg) (callF : CallF) (ops : Array Oper) (base : Tm) (nt : Nat) (hp0 : T AObj) (nid0 : Nat) (σ : Nat → DS) : Prop where
  reg : Reg ops
  start : σ 0 = ⟨[], hp0, [], nid0, [], [], []⟩
  step : ∀ i o, ops[i]? = some o → ∃ m, (musts ops.toList [])[i]? = some m ∧ Kind P callF ops base nt i m o (σ i) (σ (i + 1)) ∧ ∀ d, o.dst = some d → d < nt
  clean1 : clean (σ ops.size).fls (σ ops.size).core (σ ops.size).abs = true
  clean2 : ∀ q ∈ (σ ops.size).old, clean (σ ops.size).fls q.2.1 q.2.2 = true
end

section
variable {P : Pg} {callF : CallF} {ops : Array Oper} {base : Tm} {nt : Nat} {hp0 : T AObj} {nid0 : Nat} {σ : Nat → DS}

theorem Way.op (W : Way P callF ops base nt hp0 nid0 σ) {i : Nat} (hi : i < ops.size) : ∃ o m, ops[i]? = some o ∧ (musts ops.toList [])[i]? = some m ∧ Kind P callF ops base nt i m o (σ i) (σ (i + 1)) ∧ ∀ d, o.dst = some d → d < nt := by
  obtain ⟨m, h1, h2⟩ := W.step i _ (Array.getElem?_eq_getElem hi)
  exact ⟨_, m, Array.getElem?_eq_getElem hi, h1, h2⟩
theorem Kind.nid_le {i m : Nat} {o : Oper} {s s' : DS} (k : Kind P callF ops base nt i m o s s') : s.nid ≤ s'.nid := by
  cases k with
  | skip hw hl hs => rw [hs.2.2.1]; exact Nat.le_refl _
  | val v hw he hv hl hs => rw [hs.2.2.1]; exact Nat.le_refl _
  | load t x b off v hw he ho pv hx hpw hv hold hl hs => rw [hs.2.2.1]; exact Nat.le_refl _
  | new v ob hw he hv hl hs => rw [hs.2.2.1]; exact Nat.le_succ _
  | iso f args c v hp nid hw he hc hv hf hcall hfl hl hs => rw [hs.2.2.1]; exact Nat.le_refl _
  | turn c v core nid hw he hc hv hle hlds hl hs => rw [hs.2.2.1]; exact hle
theorem Way.nid (W : Way P callF ops base nt hp0 nid0 σ) {i j : Nat} (hij : i ≤ j) (hj : j ≤ ops.size) : (σ i).nid ≤ (σ j).nid := by
  induction j with
  | zero => have : i = 0 := by omega
            subst this; exact Nat.le_refl _
  | succ j ih =>
    by_cases h : i = j + 1
    · subst h; exact Nat.le_refl _
    · obtain ⟨o, m, _, _, hk, _⟩ := W.op (i := j) (by omega)
      exact Nat.le_trans (ih (by omega) (by omega)) hk.nid_le
theorem Kind.loc_eq {i m : Nat} {o : Oper} {s s' : DS} (k : Kind P callF ops base nt i m o s s') : ∃ v, s'.loc = locPut o.dst v s.loc := by
  cases k with
  | skip hw hl hs => exact ⟨_, hl⟩
  | val v hw he hv hl hs => exact ⟨_, hl⟩
  | load t x b off v hw he ho pv hx hpw hv hold hl hs => exact ⟨_, hl⟩
  | new v ob hw he hv hl hs => exact ⟨_, hl⟩
  | iso f args c v hp nid hw he hc hv hf hcall hfl hl hs => exact ⟨_, hl⟩
  | turn c v core nid hw he hc hv hle hlds hl hs => exact ⟨_, hl⟩
theorem agt_locPut {dst : Option Tmp} {v : Value} {loc : Tm} {t : Nat} : agt (locPut dst v loc) t = if dst = some t then some v else agt loc t := by
  cases dst with
  | none => simp [locPut]
  | some d => simp only [locPut]; rw [agt_cons]; simp
theorem Way.written (W : Way P callF ops base nt hp0 nid0 σ) : ∀ (i : Nat), i ≤ ops.size → ∀ t, (agt (σ i).loc t).isSome = true ↔ ∃ j o, j < i ∧ ops[j]? = some o ∧ o.dst = some t
  | 0, _, t => by rw [W.start]; simp [agt]
  | i + 1, hi, t => by
    obtain ⟨o, m, ho, _, hk, _⟩ := W.op (i := i) (by omega)
    obtain ⟨v, hl⟩ := hk.loc_eq
    rw [hl, agt_locPut]
    by_cases hd : o.dst = some t
    · simp only [hd, if_true, Option.isSome_some, true_iff]
      exact ⟨i, o, by omega, ho, hd⟩
    · simp only [hd, if_false]
      rw [W.written i (by omega) t]
      constructor
      · rintro ⟨j, o', h1, h2, h3⟩; exact ⟨j, o', by omega, h2, h3⟩
      · rintro ⟨j, o', h1, h2, h3⟩
        refine ⟨j, o', ?_, h2, h3⟩
        by_cases hj : j = i
        · subst hj; rw [ho] at h2; cases h2; exact absurd h3 hd
        · omega
theorem Way.keeps (W : Way P callF ops base nt hp0 nid0 σ) {i : Nat} {t : Nat} {v : Value} (h : agt (σ i).loc t = some v) (hi : i ≤ ops.size) : ∀ (j : Nat), i ≤ j → j ≤ ops.size → agt (σ j).loc t = some v
  | 0, h1, _ => by have : i = 0 := by omega
                   subst this; exact h
  | j + 1, h1, h2 => by
    by_cases hij : i = j + 1
    · rw [← hij]; exact h
    · have ih := W.keeps h hi j (by omega) (by omega)
      obtain ⟨o, m, ho, _, hk, _⟩ := W.op (i := j) (by omega)
      obtain ⟨u, hl⟩ := hk.loc_eq
      rw [hl, agt_locPut]
      obtain ⟨k, o', k1, k2, k3⟩ := (W.written i hi t).1 (by rw [h]; rfl)
      by_cases hd : o.dst = some t
      · have := W.reg.once k j o' o t k2 ho k3 hd
        omega
      · simp only [hd, if_false]; exact ih

/-! blocks made in the region -/
theorem flOf_cons (x : Nat × Nat × AObj) (l : List (Nat × Nat × AObj)) (id : Nat) : flOf (x :: l) id = if x.2.1 = id then some (x.1, x.2.2) else flOf l id := by
  have h : flOf (x :: l) id = bi (Nat.beq x.2.1 id) (some (x.1, x.2.2)) (flOf l id) := rfl
  rw [h, bi_if, beq_eq]
  simp only [decide_eq_true_eq]
theorem flOf_mem : ∀ (l : List (Nat × Nat × AObj)) (id : Nat) (x : Nat × AObj), flOf l id = some x → (x.1, id, x.2) ∈ l
  | [], id, x, h => by cases h
  | y :: l, id, x, h => by
    rw [flOf_cons] at h
    split at h
    · rename_i e; cases h; subst e; simp
    · exact List.mem_cons_of_mem _ (flOf_mem l id x h)
theorem Kind.fls_eq {i m : Nat} {o : Oper} {s s' : DS} (k : Kind P callF ops base nt i m o s s') : s'.fls = s.fls ∨ ∃ ob, s'.fls = (i, s.nid, ob) :: s.fls ∧ s'.nid = s.nid + 1 := by
  cases k with
  | skip hw hl hs => exact .inl hs.2.2.2.1
  | val v hw he hv hl hs => exact .inl hs.2.2.2.1
  | load t x b off v hw he ho pv hx hpw hv hold hl hs => exact .inl hs.2.2.2.1
  | new v ob hw he hv hl hs => exact .inr ⟨ob, hs.2.2.2.1, hs.2.2.1⟩
  | iso f args c v hp nid hw he hc hv hf hcall hfl hl hs => exact .inl hs.2.2.2.1
  | turn c v core nid hw he hc hv hle hlds hl hs => exact .inl hs.2.2.2.1
/-- where a made block comes from -/
theorem Way.made (W : Way P callF ops base nt hp0 nid0 σ) : ∀ (i : Nat), i ≤ ops.size → ∀ x ∈ (σ i).fls, x.1 < i ∧ x.2.1 = (σ x.1).nid ∧ (σ (x.1 + 1)).nid = (σ x.1).nid + 1 ∧ (σ (x.1 + 1)).fls = (x.1, x.2.1, x.2.2) :: (σ x.1).fls
  | 0, _, x, hx => by rw [W.start] at hx; simp at hx
  | i + 1, hi, x, hx => by
    obtain ⟨o, m, ho, _, hk, _⟩ := W.op (i := i) (by omega)
    rcases hk.fls_eq with e | ⟨ob, e, e2⟩
    · rw [e] at hx
      obtain ⟨h1, h2⟩ := W.made i (by omega) x hx
      exact ⟨by omega, h2⟩
    · rw [e] at hx
      rcases List.mem_cons.1 hx with rfl | hx
      · exact ⟨by simp, rfl, e2, e⟩
      · obtain ⟨h1, h2⟩ := W.made i (by omega) x hx
        exact ⟨by omega, h2⟩
theorem Way.fl_keeps (W : Way P callF ops base nt hp0 nid0 σ) {i : Nat} {id : Nat} {x : Nat × AObj} (h : flOf (σ i).fls id = some x) (hi : i ≤ ops.size) : ∀ (j : Nat), i ≤ j → j ≤ ops.size → flOf (σ j).fls id = some x
  | 0, h1, _ => by have : i = 0 := by omega
                   subst this; exact h
  | j + 1, h1, h2 => by
    by_cases hij : i = j + 1
    · rw [← hij]; exact h
    · have ih := W.fl_keeps h hi j (by omega) (by omega)
      obtain ⟨o, m, ho, _, hk, _⟩ := W.op (i := j) (by omega)
      rcases hk.fls_eq with e | ⟨ob, e, e2⟩
      · rw [e]; exact ih
      · rw [e, flOf_cons]
        obtain ⟨k1, k2, k3, k4⟩ := W.made i hi _ (flOf_mem _ _ _ h)
        simp only at k1 k2 k3
        have := W.nid (i := x.1 + 1) (j := j) (by omega) (by omega)
        rw [if_neg (by simp only; omega)]
        exact ih
end
end Sy
end Go.Proofs.Ytlmnhlmgbcpclaa

set_option linter.unusedSimpArgs false
set_option linter.unusedVariables false
namespace Go.Proofs.Ytlmnhlmgbcpclaa
namespace Sy
variable {P : Pg}

/-! Counting what is listed. -/
def cnt (l : List Bool) : Nat := (l.filter fun b => b).length
theorem cnt_le (l : List Bool) : cnt l ≤ l.length := List.length_filter_le _ _
theorem cnt_all {l : List Bool} (h : l.length ≤ cnt l) : ∀ i, i < l.length → l.getD i false = true := by
  have e : cnt l = l.length := Nat.le_antisymm (cnt_le l) h
  have := (List.length_filter_eq_length_iff).1 e
  intro i hi
  rw [List.getD_eq_getElem?_getD, List.getElem?_eq_getElem hi]
  exact this _ (List.getElem_mem hi)
theorem cnt_set : ∀ (l : List Bool) (i : Nat), l[i]? = some false → cnt (l.set i true) = cnt l + 1
  | [], i, h => by simp at h
  | b :: l, 0, h => by simp at h; subst h; simp [cnt]
  | b :: l, i + 1, h => by
    have ih := cnt_set l i (by simpa using h)
    cases b <;> simp [cnt] at ih ⊢ <;> omega

section
variable {P : Pg} {ops : Array Oper} {Q : Exit → Act → World → Prop} {F : Fence} {n : Nat}

/-- any order, by what holds along the way -/
theorem any_inv (I : Array Bool → Act → World → Prop) (hsz : ∀ l a w, I l a w → l.size = ops.size)
    (hed : ∀ k o, ops[k]? = some o → ∀ e ∈ o.after, Region.binds .any e = true → e.on < k)
    (hstep : ∀ l a w i, I l a w → i ∈ Region.ready .any ops l → wpOpIn F n P ops Q i (fun a' w' => I (l.setIfInBounds i true) a' w') a w)
    (hend : ∀ l a w, I l a w → (∀ i, i < ops.size → l.getD i false = true) → Q .normal a w) :
    ∀ (fuel : Nat) (l : Array Bool) (a : Act) (w : World), I l a w → ops.size ≤ fuel + cnt l.toList → wpAnyIn F n P .any ops Q fuel l a w := by
  have hready : ∀ (l : Array Bool) a w, I l a w → Region.ready .any ops l = [] → ∀ i, i < ops.size → l.getD i false = true := by
    intro l a w hI hr i
    induction i using Nat.strongRecOn with
    | _ i ih =>
      intro hi
      cases hl : l.getD i false with
      | true => rfl
      | false =>
        exfalso
        have hs := hsz l a w hI
        have hm : i ∈ Region.ready .any ops l := by
          rw [mem_ready]
          refine ⟨?_, ops[i], Array.getElem?_eq_getElem hi, fun e he hb => ih e.on (hed i _ (Array.getElem?_eq_getElem hi) e he hb) ?_⟩
          · have : i < l.size := by omega
            simp [this] at hl ⊢
            exact hl
          · have := hed i _ (Array.getElem?_eq_getElem hi) e he hb
            omega
        rw [hr] at hm
        cases hm
  intro fuel
  induction fuel with
  | zero =>
    intro l a w hI hc
    have hs := hsz l a w hI
    have hall : ∀ i, i < ops.size → l.getD i false = true := fun i hi => by
      have := cnt_all (l := l.toList) (by simp at hc ⊢; omega) i (by simp; omega)
      simpa using this
    refine ⟨?_, hend l a w hI hall⟩
    apply List.eq_nil_iff_forall_not_mem.2
    intro i hi
    obtain ⟨h1, o, ho, _⟩ := mem_ready.1 hi
    have hlt := (Array.getElem?_eq_some_iff.1 ho).1
    have h2 := hall i hlt
    have : i < l.size := by omega
    simp [this] at h1 h2
    rw [h1] at h2; cases h2
  | succ fuel ih =>
    intro l a w hI hc
    refine ⟨fun hr => hend l a w hI (hready l a w hI hr), fun i hi => ?_⟩
    refine wpOpIn_mono (fun a' w' h => ih _ a' w' h ?_) (hstep l a w i hI hi)
    obtain ⟨h1, o, ho, _⟩ := mem_ready.1 hi
    have hlt := (Array.getElem?_eq_some_iff.1 ho).1
    have hs := hsz l a w hI
    have hl : i < l.size := by omega
    have hget : l.toList[i]? = some false := by
      simp [hl] at h1
      simp [hl, h1]
    rw [Array.toList_setIfInBounds, cnt_set _ _ hget]
    omega
end

/-- the frame of a call that has been reckoned on a part of the memory -/
theorem frame_rel {P : Pg} {B : Nat} {M M' : Mp} {g c1 c2 g' : Mem} {nid nid' : Nat} {w w' : World} (h : HRel P B M g w) (hsub : ∀ id o, c1 id = some o → g id = some o) (h2 : HRel P B M' c2 w')
    (hev : Evol M c1 nid w M' c2 nid' w') (hg : ∀ id o, g' id = some o → c2 id = some o ∨ (c2 id = none ∧ g id = some o ∧ c1 id = none)) : HRel P B M' g' w' ∧ Evol M g nid w M' g' nid' w' := by
  have hold : ∀ id o b r, g id = some o → c1 id = none → M id = some (b, r) → w'.heap[b]? = w.heap[b]? := by
    intro id o b r ho hc e
    refine hev.frame b (h.lt (by rw [ho]; rfl) e) fun id1 r1 hi e1 => ?_
    obtain ⟨o1, ho1⟩ := Option.isSome_iff_exists.1 (wrt_some hi)
    have := h.inj id1 id b r1 r (by rw [ho1] at hi; rw [hsub id1 o1 ho1]; exact hi) (by rw [ho]; rfl) e1 e
    subst this
    rw [hc] at ho1; cases ho1
  have hMap : ∀ id o, g id = some o → ∃ b r, M id = some (b, r) ∧ M' id = some (b, r) := fun id o ho => by
    obtain ⟨b, r, ob, e, _⟩ := h.has id o ho
    exact ⟨b, r, e, hev.ext _ _ e⟩
  have hmix : ∀ i j b r r', (c2 i).isSome = true → (wrt (c2 i) = true ∨ wrt (g j) = true) → c2 j = none → (∃ o, g j = some o ∧ c1 j = none) → M' i = some (b, r) → M' j = some (b, r') → False := by
    rintro i j b r r' hi hw _ ⟨o, ho, hc⟩ ei ej
    obtain ⟨b', r'', e1, e2⟩ := hMap j o ho
    rw [ej] at e2
    cases e2
    have hf : (∃ id0 r0, ((c1 id0).isSome = true ∧ (wrt (c1 id0) = true ∨ wrt (g j) = true)) ∧ M id0 = some (b, r0)) ∨ w.heap.size ≤ b := by
      rcases hw with hw | hw
      · exact (hev.freshW i b r hw ei).imp (fun ⟨i0, r0, k, e0⟩ => ⟨i0, r0, ⟨wrt_some k, .inl k⟩, e0⟩) id
      · exact (hev.fresh i b r hi ei).imp (fun ⟨i0, r0, k, e0⟩ => ⟨i0, r0, ⟨k, .inr hw⟩, e0⟩) id
    rcases hf with ⟨id0, r0, ⟨h0, h0w⟩, e0⟩ | hge
    · obtain ⟨o0, ho0⟩ := Option.isSome_iff_exists.1 h0
      have : id0 = j := by
        rcases h0w with k | k
        · exact h.inj id0 j b r0 r' (by rw [ho0] at k; rw [hsub id0 o0 ho0]; exact k) (by rw [ho]; rfl) e0 e1
        · exact (h.inj j id0 b r' r0 k (by rw [hsub id0 o0 ho0]; rfl) e1 e0).symm
      subst this
      rw [hc] at ho0; cases ho0
    · have := h.lt (id := j) (by rw [ho]; rfl) e1
      omega
  refine ⟨⟨fun id o e => ?_, fun i j b r r' hi hj ei ej => ?_, fun k c hk => ⟨(h2.old k c hk).1, fun i r hi ei => ?_⟩⟩, ?_⟩
  · rcases hg id o e with e | ⟨e1, e2, e3⟩
    · exact h2.has id o e
    · obtain ⟨b, r, ob, k1, k2, k3, k4⟩ := h.has id o e2
      exact ⟨b, r, ob, hev.ext _ _ k1, k2, by rw [hold id o b r e2 e3 k1]; exact k3, k4.ext hev.ext⟩
  · obtain ⟨oi, hoi⟩ := Option.isSome_iff_exists.1 (wrt_some hi)
    rw [hoi] at hi
    obtain ⟨oj, hoj⟩ := Option.isSome_iff_exists.1 hj
    rcases hg i oi hoi with e | ⟨e1, e2, e3⟩
    · rcases hg j oj hoj with f | ⟨f1, f2, f3⟩
      · exact h2.inj i j b r r' (by rw [e]; exact hi) (by rw [f]; rfl) ei ej
      · exact (hmix i j b r r' (by rw [e]; rfl) (.inl (by rw [e]; exact hi)) f1 ⟨oj, f2, f3⟩ ei ej).elim
    · rcases hg j oj hoj with f | ⟨f1, f2, f3⟩
      · exact (hmix j i b r' r (by rw [f]; rfl) (.inr (by rw [e2]; exact hi)) e1 ⟨oi, e2, e3⟩ ej ei).elim
      · obtain ⟨b1, r1, k1, k2⟩ := hMap i oi e2
        obtain ⟨b2, r2, l1, l2⟩ := hMap j oj f2
        rw [ei] at k2
        rw [ej] at l2
        cases k2
        cases l2
        exact h.inj i j b r r' (by rw [e2]; exact hi) (by rw [f2]; rfl) k1 l1
  · obtain ⟨oi, hoi⟩ := Option.isSome_iff_exists.1 (wrt_some hi)
    rw [hoi] at hi
    rcases hg i oi hoi with e | ⟨e1, e2, e3⟩
    · exact (h2.old k c hk).2 i r (by rw [e]; exact hi) ei
    · obtain ⟨b1, r1, k1, k2⟩ := hMap i oi e2
      rw [ei] at k2
      cases k2
      exact (h.old k c hk).2 i r (by rw [e2]; exact hi) k1
  · exact {
      os := hev.os, tape := hev.tape, output := hev.output, size := hev.size, ext := hev.ext, dom := hev.dom, le := hev.le
      frame := fun b hb hx => hev.frame b hb fun id r hi => hx id r (by obtain ⟨o, ho⟩ := Option.isSome_iff_exists.1 (wrt_some hi); rw [ho] at hi; rw [hsub id o ho]; exact hi)
      freshW := fun id b r hi ei => by
        obtain ⟨o, ho⟩ := Option.isSome_iff_exists.1 (wrt_some hi)
        rw [ho] at hi
        rcases hg id o ho with e | ⟨e1, e2, e3⟩
        · rcases hev.freshW id b r (by rw [e]; exact hi) ei with ⟨i0, r0, h0, e0⟩ | hge
          · obtain ⟨o0, ho0⟩ := Option.isSome_iff_exists.1 (wrt_some h0)
            exact .inl ⟨i0, r0, by rw [ho0] at h0; rw [hsub i0 o0 ho0]; exact h0, e0⟩
          · exact .inr hge
        · obtain ⟨b1, r1, k1, k2⟩ := hMap id o e2
          rw [ei] at k2
          cases k2
          exact .inl ⟨id, r, by rw [e2]; exact hi, k1⟩
      fresh := fun id b r hi ei => by
        obtain ⟨o, ho⟩ := Option.isSome_iff_exists.1 hi
        rcases hg id o ho with e | ⟨e1, e2, e3⟩
        · rcases hev.fresh id b r (by rw [e]; rfl) ei with ⟨i0, r0, h0, e0⟩ | hge
          · obtain ⟨o0, ho0⟩ := Option.isSome_iff_exists.1 h0
            exact .inl ⟨i0, r0, by rw [hsub i0 o0 ho0]; rfl, e0⟩
          · exact .inr hge
        · obtain ⟨b1, r1, k1, k2⟩ := hMap id o e2
          rw [ei] at k2
          cases k2
          exact .inl ⟨id, r, by rw [e2]; rfl, k1⟩ }

/-- both ways within the same numbers -/
theorem Evol.trans2 {M M1 M2 : Mp} {g g1 g2 : Mem} {n n1 : Nat} {w w1 w2 : World} (h : Evol M g n w M1 g1 n1 w1) (k : Evol M1 g1 n w1 M2 g2 n1 w2) : Evol M g n w M2 g2 n1 w2 where
  os := k.os.trans h.os
  tape := k.tape.trans h.tape
  output := k.output.trans h.output
  size := Nat.le_trans h.size k.size
  frame := fun b hb hn => by
    rw [k.frame b (Nat.lt_of_lt_of_le hb h.size) ?_, h.frame b hb hn]
    intro id r hg he
    rcases h.freshW id b r hg he with ⟨id0, r0, h0, e0⟩ | hlt
    · exact hn id0 r0 h0 e0
    · omega
  fresh := fun id b r hg he => by
    rcases k.fresh id b r hg he with ⟨id1, r1, h1, e1⟩ | hlt
    · exact h.fresh id1 b r1 h1 e1
    · exact .inr (Nat.le_trans h.size hlt)
  freshW := fun id b r hg he => by
    rcases k.freshW id b r hg he with ⟨id1, r1, h1, e1⟩ | hlt
    · exact h.freshW id1 b r1 h1 e1
    · exact .inr (Nat.le_trans h.size hlt)
  ext := h.ext.trans k.ext
  dom := fun id hn hm => by
    cases e : M1 id with
    | none => exact k.dom id e hm
    | some x => exact h.dom id hn (by simp [e])
  le := h.le
theorem Evol.wide {M M' : Mp} {g g' : Mem} {n n' a b : Nat} {w w' : World} (h : Evol M g n w M' g' n' w') (ha : a ≤ n) (hb : n' ≤ b) : Evol M g a w M' g' b w' :=
  { h with dom := fun id hn hm => by have := h.dom id hn hm; omega
           le := by have := h.le; omega }

theorem absorb_spec {m : Nat} : ∀ (fls : List (Nat × Nat × AObj)) (abs : List Nat) (core : T AObj) (c : T AObj × List Nat), absorb m fls abs core = some c →
    (∀ id o, c.1.get id = some o → core.get id = some o ∨ ∃ j, (j, id, o) ∈ fls ∧ bit m j = true ∧ id ∉ abs) ∧
    (∀ id, c.1.get id = none → core.get id = none) ∧ (∀ id, id ∈ abs → id ∈ c.2) ∧
    (∀ id, id ∈ c.2 → id ∈ abs ∨ ∃ j o, (j, id, o) ∈ fls ∧ bit m j = true) ∧ (∀ id, id ∉ c.2 → ∀ j o, (j, id, o) ∈ fls → bit m j = false) ∧
    (∀ id, id ∉ c.2 → c.1.get id = core.get id) ∧ (∀ id, id ∈ abs → c.1.get id = core.get id)
  | [], abs, core, c, h => by
    cases h
    exact ⟨fun id o e => .inl e, fun id e => e, fun id e => e, fun id e => .inl e, fun id _ j o hm => by simp at hm, fun id _ => rfl, fun id _ => rfl⟩
  | x :: fls, abs, core, c, h => by
    have h' : (ob (absorb m fls abs core) fun r => bi (bit m x.1 && abs.all (fun a => !(Nat.beq a x.2.1))) (ob (r.1.set x.2.1 (some x.2.2)) fun c => some (c, x.2.1 :: r.2)) (some r)) = some c := h
    obtain ⟨r, hr, h'⟩ := ob_some h'
    obtain ⟨k1, k2, k3, k4, k5, k6, k7⟩ := absorb_spec fls abs core r hr
    rcases bi_some h' with ⟨hc, h2⟩ | ⟨hc, h2⟩
    · rw [Bool.and_eq_true] at hc
      have hna : x.2.1 ∉ abs := fun hm => by
        have := List.all_eq_true.1 hc.2 _ hm
        simp at this
      obtain ⟨c1, hset, h2⟩ := ob_some h2
      cases h2
      have hget := T.get_set _ _ _ _ hset
      refine ⟨fun id o e => ?_, fun id e => ?_, fun id e => by simp [k3 id e], fun id e => ?_, fun id hn j o hm => ?_, fun id hn => ?_, fun id hm => ?_⟩
      · rw [hget] at e
        split at e
        · rename_i hi
          cases e
          subst hi
          exact .inr ⟨x.1, by simp, hc.1, hna⟩
        · exact (k1 id o e).imp (fun z => z) fun ⟨j, a1, a2⟩ => ⟨j, by simp [a1], a2⟩
      · rw [hget] at e
        split at e
        · cases e
        · exact k2 id e
      · rcases List.mem_cons.1 e with rfl | e
        · exact .inr ⟨x.1, x.2.2, by simp, hc.1⟩
        · exact (k4 id e).imp (fun z => z) fun ⟨j, o, a1, a2⟩ => ⟨j, o, by simp [a1], a2⟩
      · simp only [List.mem_cons, not_or] at hn
        rcases List.mem_cons.1 hm with e | hm
        · rw [← e] at hn; exact absurd rfl hn.1
        · exact k5 id hn.2 j o hm
      · simp only [List.mem_cons, not_or] at hn
        rw [hget, if_neg hn.1]
        exact k6 id hn.2
      · rw [hget, if_neg (fun e2 => by rw [e2] at hm; exact hna hm)]
        exact k7 id hm
    · cases h2
      refine ⟨fun id o e => (k1 id o e).imp (fun z => z) fun ⟨j, a1, a2⟩ => ⟨j, by simp [a1], a2⟩, k2, k3, fun id e => (k4 id e).imp (fun z => z) fun ⟨j, o, a1, a2⟩ => ⟨j, o, by simp [a1], a2⟩, fun id hn j o hm => ?_, k6, k7⟩
      rcases List.mem_cons.1 hm with e | hm
      · have hb := hc
        rw [← e] at hb
        simp only at hb
        have ha : (abs.all fun a => !(Nat.beq a id)) = true := by
          apply List.all_eq_true.2
          intro a ham
          cases hbe : Nat.beq a id with
          | false => rfl
          | true => exact absurd (k3 a ham) (by rw [Nat.eq_of_beq_eq_true hbe]; exact hn)
        rw [ha, Bool.and_true] at hb
        exact hb
      · exact k5 id hn j o hm
end Sy
end Go.Proofs.Ytlmnhlmgbcpclaa

set_option linter.unusedSimpArgs false
set_option linter.unusedVariables false
namespace Go.Proofs.Ytlmnhlmgbcpclaa
namespace Sy
variable {P : Pg}

abbrev Lst (l : Array Bool) (i : Nat) : Prop := l.getD i false = true

section
variable {P : Pg} {callF : CallF} {ops : Array Oper} {base : Tm} {nt : Nat} {hp0 : T AObj} {nid0 : Nat} {σ : Nat → DS}

noncomputable def stg (ops : Array Oper) (σ : Nat → DS) (p : Nat) (l : Array Bool) : Mem := fun id =>
  match (σ p).core.get id with
  | some o => some o
  | none => match flOf (σ ops.size).fls id with
    | some x => if Lst l x.1 ∧ id ∉ (σ p).abs then some x.2 else none
    | none => none

structure IsStage (ops : Array Oper) (l : Array Bool) (p : Nat) : Prop where
  le : p ≤ ops.size
  done : ∀ e o, e < p → ops[e]? = some o → isEff o = true → Lst l e
  todo : ∀ e o, p ≤ e → ops[e]? = some o → isEff o = true → ¬ Lst l e
  here : p = ops.size ∨ ∃ o, ops[p]? = some o ∧ isEff o = true

theorem next_stage {l : Array Bool} : ∀ (d k : Nat), k + d = ops.size → (∀ e o, e < k → ops[e]? = some o → isEff o = true → Lst l e) → (∀ e o, k ≤ e → ops[e]? = some o → isEff o = true → ¬ Lst l e) →
    ∃ p, k ≤ p ∧ IsStage ops l p ∧ ∀ e o, k ≤ e → e < p → ops[e]? = some o → isEff o = false
  | 0, k, hk, h1, h2 => ⟨k, Nat.le_refl _, ⟨by omega, h1, h2, .inl (by omega)⟩, fun e o a b => by omega⟩
  | d + 1, k, hk, h1, h2 => by
    have hlt : k < ops.size := by omega
    have ho := Array.getElem?_eq_getElem hlt
    cases he : isEff ops[k] with
    | true => exact ⟨k, Nat.le_refl _, ⟨by omega, h1, h2, .inr ⟨_, ho, he⟩⟩, fun e o a b => by omega⟩
    | false =>
      obtain ⟨p, p1, p2, p3⟩ := next_stage d (k + 1) (by omega) (fun e o a b c => by
        by_cases hek : e = k
        · subst hek; rw [ho] at b; cases b; rw [he] at c; cases c
        · exact h1 e o (by omega) b c) (fun e o a => h2 e o (by omega))
      refine ⟨p, by omega, p2, fun e o a b c => ?_⟩
      by_cases hek : e = k
      · subst hek; rw [ho] at c; cases c; exact he
      · exact p3 e o (by omega) b c

theorem Kind.same {i m : Nat} {o : Oper} {s s' : DS} (k : Kind P callF ops base nt i m o s s') (he : isEff o = false) : s'.core = s.core ∧ s'.abs = s.abs ∧ s'.old = s.old := by
  cases k with
  | skip hw hl hs => exact ⟨hs.1, hs.2.1, hs.2.2.2.2.1⟩
  | val v hw _ hv hl hs => exact ⟨hs.1, hs.2.1, hs.2.2.2.2.1⟩
  | load t x b off v hw _ ho pv hx hpw hv hold hl hs => exact ⟨hs.1, hs.2.1, hs.2.2.2.2.1⟩
  | new v ob hw _ hv hl hs => exact ⟨hs.1, hs.2.1, hs.2.2.2.2.1⟩
  | iso f args c v hp nid hw h2 => rw [he] at h2; cases h2
  | turn c v core nid hw h2 => rw [he] at h2; cases h2
theorem Way.still (W : Way P callF ops base nt hp0 nid0 σ) {k : Nat} : ∀ (p : Nat), k ≤ p → p ≤ ops.size → (∀ e o, k ≤ e → e < p → ops[e]? = some o → isEff o = false) → (σ p).core = (σ k).core ∧ (σ p).abs = (σ k).abs
  | 0, h1, h2, h3 => by have : k = 0 := by omega
                        subst this; exact ⟨rfl, rfl⟩
  | p + 1, h1, h2, h3 => by
    by_cases hk : k = p + 1
    · subst hk; exact ⟨rfl, rfl⟩
    · obtain ⟨o, m, ho, _, hkd, _⟩ := W.op (i := p) (by omega)
      obtain ⟨e1, e2, _⟩ := hkd.same (h3 p o (by omega) (by omega) ho)
      obtain ⟨f1, f2⟩ := W.still p (by omega) (by omega) (fun e o a b => h3 e o a (by omega))
      exact ⟨e1.trans f1, e2.trans f2⟩
/-- either the memory has not turned, or the turn is noted -/
theorem Kind.core_or {i m : Nat} {o : Oper} {s s' : DS} (k : Kind P callF ops base nt i m o s s') : (s'.core = s.core ∧ s'.abs = s.abs ∧ s'.old = s.old) ∨ s'.old = (i, s.core, s.abs) :: s.old := by
  cases k with
  | skip hw hl hs => exact .inl ⟨hs.1, hs.2.1, hs.2.2.2.2.1⟩
  | val v hw _ hv hl hs => exact .inl ⟨hs.1, hs.2.1, hs.2.2.2.2.1⟩
  | load t x b off v hw _ ho pv hx hpw hv hold hl hs => exact .inl ⟨hs.1, hs.2.1, hs.2.2.2.2.1⟩
  | new v ob hw _ hv hl hs => exact .inl ⟨hs.1, hs.2.1, hs.2.2.2.2.1⟩
  | iso f args c v hp nid hw h2 hc hv hf hcall hfl hl hs => exact .inl ⟨hs.1, hs.2.1, hs.2.2.2.2.1⟩
  | turn c v core nid hw h2 hc hv hle hlds hl hs => exact .inr hs.2.2.2.2.1
theorem Way.old_keeps (W : Way P callF ops base nt hp0 nid0 σ) {i : Nat} {q : Nat × T AObj × List Nat} (h : q ∈ (σ i).old) : ∀ j, i ≤ j → j ≤ ops.size → q ∈ (σ j).old
  | 0, h1, _ => by have : i = 0 := by omega
                   subst this; exact h
  | j + 1, h1, h2 => by
    by_cases hij : i = j + 1
    · rw [← hij]; exact h
    · have ih := W.old_keeps h j (by omega) (by omega)
      obtain ⟨o, m, ho, _, hk, _⟩ := W.op (i := j) (by omega)
      rcases hk.core_or with ⟨_, _, e⟩ | e
      · rw [e]; exact ih
      · rw [e]; exact List.mem_cons_of_mem _ ih
/-- the first turn from a place on, up to another -/
theorem Way.turns (W : Way P callF ops base nt hp0 nid0 σ) : ∀ (d p i : Nat), p + d = i → i ≤ ops.size → ((σ p).core = (σ i).core ∧ (σ p).abs = (σ i).abs) ∨
    ∃ e o, p ≤ e ∧ e < i ∧ ops[e]? = some o ∧ isEff o = true ∧ (e, (σ p).core, (σ p).abs) ∈ (σ i).old
  | 0, p, i, h, hi => by have : p = i := by omega
                         subst this; exact .inl ⟨rfl, rfl⟩
  | d + 1, p, i, h, hi => by
    obtain ⟨o, m, ho, _, hk, _⟩ := W.op (i := p) (by omega)
    rcases hk.core_or with ⟨e1, e2, e3⟩ | e
    · rcases W.turns d (p + 1) i (by omega) hi with ⟨f1, f2⟩ | ⟨e', o', a1, a2, a3, a4, a5⟩
      · exact .inl ⟨e1.symm.trans f1, e2.symm.trans f2⟩
      · refine .inr ⟨e', o', by omega, a2, a3, a4, ?_⟩
        rw [e1, e2] at a5
        exact a5
    · right
      refine ⟨p, o, Nat.le_refl _, by omega, ho, ?_, W.old_keeps (by rw [e]; simp) i (by omega) hi⟩
      cases hx : isEff o with
      | true => rfl
      | false =>
        have := (hk.same hx).2.2
        rw [e] at this
        have := congrArg List.length this
        simp at this
theorem clean_spec {fls : List (Nat × Nat × AObj)} {core : T AObj} {abs : List Nat} (h : clean fls core abs = true) {x : Nat × Nat × AObj} (hx : x ∈ fls) : x.2.1 ∈ abs ∨ core.get x.2.1 = none := by
  have := List.all_eq_true.1 h x hx
  rw [Bool.or_eq_true] at this
  rcases this with h1 | h1
  · obtain ⟨a, ha, hb⟩ := List.any_eq_true.1 h1
    rw [Nat.eq_of_beq_eq_true hb] at ha
    exact .inl ha
  · right
    cases hg : core.get x.2.1 with
    | none => rfl
    | some o => rw [hg] at h1; cases h1
theorem Way.noclash (W : Way P callF ops base nt hp0 nid0 σ) {i : Nat} (hi : i ≤ ops.size) {x : Nat × Nat × AObj} (hx : x ∈ (σ ops.size).fls) : x.2.1 ∈ (σ i).abs ∨ (σ i).core.get x.2.1 = none := by
  rcases W.turns (ops.size - i) i ops.size (by omega) (Nat.le_refl _) with ⟨e1, e2⟩ | ⟨e, o, _, _, _, _, hm⟩
  · rw [e1, e2]; exact clean_spec W.clean1 hx
  · exact clean_spec (W.clean2 _ hm) hx
/-- what has been taken in had to lie ahead of something that is done -/
theorem Way.abs_from (W : Way P callF ops base nt hp0 nid0 σ) : ∀ (p : Nat), p ≤ ops.size → ∀ id, id ∈ (σ p).abs → ∃ e o m j ob, e < p ∧ ops[e]? = some o ∧ isEff o = true ∧ (musts ops.toList [])[e]? = some m ∧ bit m j = true ∧ (j, id, ob) ∈ (σ p).fls
  | 0, _, id, h => by rw [W.start] at h; simp at h
  | p + 1, hp, id, h => by
    obtain ⟨o, m, ho, hm, hk, _⟩ := W.op (i := p) (by omega)
    have hfl : ∀ x, x ∈ (σ p).fls → x ∈ (σ (p + 1)).fls := fun x hx => by
      rcases hk.fls_eq with e | ⟨ob, e, _⟩
      · rw [e]; exact hx
      · rw [e]; exact List.mem_cons_of_mem _ hx
    have old : id ∈ (σ p).abs → ∃ e o m j ob, e < p + 1 ∧ ops[e]? = some o ∧ isEff o = true ∧ (musts ops.toList [])[e]? = some m ∧ bit m j = true ∧ (j, id, ob) ∈ (σ (p + 1)).fls := fun h => by
      obtain ⟨e, o, m, j, ob, a1, a2, a3, a4, a5, a6⟩ := W.abs_from p (by omega) id h
      exact ⟨e, o, m, j, ob, by omega, a2, a3, a4, a5, hfl _ a6⟩
    cases hk with
    | skip hw hl hs => rw [hs.2.1] at h; exact old h
    | val v hw _ hv hl hs => rw [hs.2.1] at h; exact old h
    | load t x b off v hw _ ho pv hx hpw hv hold hl hs => rw [hs.2.1] at h; exact old h
    | new v ob hw _ hv hl hs => rw [hs.2.1] at h; exact old h
    | iso f args c v hp nid hw h2 hc hv hf hcall hfl hl hs => rw [hs.2.1] at h; exact old h
    | turn c v core nid hw h2 hc hv hle hlds hl hs =>
      rw [hs.2.1] at h
      obtain ⟨_, _, _, k4, _⟩ := absorb_spec _ _ _ _ hc
      rcases k4 id h with h | ⟨j, ob, h1, h3⟩
      · exact old h
      · exact ⟨p, o, m, j, ob, by omega, ho, h2, hm, h3, hfl _ h1⟩

theorem lookAt_some {m : Nat} {core : T AObj} {abs : List Nat} {fls : List (Nat × Nat × AObj)} {id : Nat} {o : AObj} (h : lookAt m core abs fls id = some o) :
    core.get id = some o ∨ (core.get id = none ∧ ∃ j, flOf fls id = some (j, o) ∧ bit m j = true ∧ id ∉ abs) := by
  unfold lookAt at h
  cases hg : core.get id with
  | some o' => rw [hg] at h; cases h; exact .inl rfl
  | none =>
    rw [hg] at h
    have h : (ob (flOf fls id) fun x => ck (bit m x.1 && abs.all (fun a => !(Nat.beq a id))) (some x.2)) = some o := h
    obtain ⟨x, hx, h⟩ := ob_some h
    obtain ⟨hc, h⟩ := ck_some h
    cases h
    rw [Bool.and_eq_true] at hc
    refine .inr ⟨rfl, x.1, hx, hc.1, fun hm => ?_⟩
    have := List.all_eq_true.1 hc.2 id hm
    simp at this
/-- what holds when some operations of the region are done, in whatever order -/
structure DInv (ds : List Deferred) (P : Pg) (ops : Array Oper) (base : Tm) (nt : Nat) (hp0 : T AObj) (nid0 : Nat) (σ : Nat → DS) (B : Nat) (M0 : Mp) (w0 : World) (l : Array Bool) (p : Nat) (M : Mp) (a : Act) (w : World) : Prop where
  size : l.size = ops.size
  closed : Closed ops (Lst l)
  stage : IsStage ops l p
  defers : a.defers = ds
  tsize : a.tmps.size = nt
  tmps1 : ∀ j o d v, ops[j]? = some o → o.dst = some d → Lst l j → agt (σ ops.size).loc d = some v → ∃ v', a.tmps[d]? = some v' ∧ VRel P M v v'
  tmps0 : ∀ t v, (∀ j o, ops[j]? = some o → o.dst = some t → ¬ Lst l j) → agt base t = some v → ∃ v', a.tmps[t]? = some v' ∧ VRel P M v v'
  heap : HRel P B M (stg ops σ p l) w
  base_ : B ≤ w.heap.size
  dom : ∀ id, M id ≠ none → M0 id ≠ none ∨ ∃ j, j < ops.size ∧ Lst l j ∧ (σ j).nid ≤ id ∧ id < (σ (j + 1)).nid
  evol : Evol M0 hp0.get nid0 w0 M (stg ops σ p l) (σ ops.size).nid w
end
end Sy
end Go.Proofs.Ytlmnhlmgbcpclaa

set_option linter.unusedSimpArgs false
set_option linter.unusedVariables false
namespace Go.Proofs.Ytlmnhlmgbcpclaa
namespace Sy
variable {P : Pg}

section
variable {P : Pg} {callF : CallF} {ops : Array Oper} {base : Tm} {nt : Nat} {hp0 : T AObj} {nid0 : Nat} {σ : Nat → DS} {B : Nat} {M0 M : Mp} {w0 w : World} {l : Array Bool} {p : Nat} {a : Act} {ds : List Deferred} {rf : Option Nat}

theorem lst_set {i j : Nat} (hi : i < l.size) : Lst (l.setIfInBounds i true) j ↔ j = i ∨ Lst l j := by
  unfold Lst
  by_cases h : i = j
  · subst h; simp [hi]
  · simp [Array.getElem?_setIfInBounds_ne h, show ¬ j = i from fun e => h e.symm]
structure Rdy (ops : Array Oper) (l : Array Bool) (i : Nat) (o : Oper) : Prop where
  op : ops[i]? = some o
  un : ¬ Lst l i
  pre : ∀ e ∈ o.after, Region.binds .any e = true → Lst l e.on
theorem rdy_of {i : Nat} (hs : l.size = ops.size) (h : i ∈ Region.ready .any ops l) : ∃ o, Rdy ops l i o := by
  obtain ⟨h1, o, ho, h2⟩ := mem_ready.1 h
  refine ⟨o, ho, ?_, h2⟩
  have hlt := (Array.getElem?_eq_some_iff.1 ho).1
  have hl : i < l.size := by omega
  unfold Lst
  simp [hl] at h1 ⊢
  exact h1

theorem DInv.look (W : Way P callF ops base nt hp0 nid0 σ) (h : DInv ds P ops base nt hp0 nid0 σ B M0 w0 l p M a w) {i : Nat} {o : Oper} (hr : Rdy ops l i o) :
    ∀ t v, t ∈ Oper.looksAt ops o → rd (σ i).loc base t = some v → ∃ v', a.tmps[t]? = some v' ∧ VRel P M v v' := by
  have hlt : i < ops.size := (Array.getElem?_eq_some_iff.1 hr.op).1
  obtain ⟨o', m, ho', hm, _, _⟩ := W.op hlt
  rw [hr.op] at ho'
  cases ho'
  intro t v ht e
  rw [rd_def] at e
  cases hloc : agt (σ i).loc t with
  | some u =>
    rw [hloc] at e
    cases e
    obtain ⟨j, oj, hj, hoj, hdj⟩ := (W.written i (by omega) t).1 (by rw [hloc]; rfl)
    obtain ⟨m', hm', hor⟩ := W.reg.pair j i oj o hoj hr.op hj
    rw [hm] at hm'
    cases hm'
    rcases hor with hb | ⟨hap, _⟩
    · have hL := ahead h.closed i o m hr.op hm hr.pre j hb
      exact h.tmps1 j oj t v hoj hdj hL (W.keeps hloc (by omega) _ (by omega) (Nat.le_refl _))
    · exact absurd ht ((Oper.apart_spec hap).1 t hdj)
  | none =>
    rw [hloc] at e
    refine h.tmps0 t v (fun j oj hoj hdj hL => ?_) e
    rcases Nat.lt_trichotomy j i with hji | hji | hji
    · have := (W.written i (by omega) t).2 ⟨j, oj, hji, hoj, hdj⟩
      rw [hloc] at this; cases this
    · subst hji; exact hr.un hL
    · obtain ⟨m', hm', hor⟩ := W.reg.pair i j o oj hr.op hoj hji
      rcases hor with hb | ⟨hap, _⟩
      · exact hr.un (ahead' h.closed hoj hm' hL hb)
      · exact (Oper.apart_spec hap).2.2 t hdj ht
theorem DInv.erel (W : Way P callF ops base nt hp0 nid0 σ) (h : DInv ds P ops base nt hp0 nid0 σ B M0 w0 l p M a w) {i : Nat} {o : Oper} (hr : Rdy ops l i o) :
    ERel P M (evXr (Oper.looksAt ops o) (σ i).loc base) a.eval := by
  intro x v e
  cases x with
  | tmp t =>
    obtain ⟨hc, e⟩ := ck_some (b := (Oper.looksAt ops o).any fun u => Nat.beq u t) e
    obtain ⟨u, hu, hb⟩ := List.any_eq_true.1 hc
    rw [Nat.eq_of_beq_eq_true hb] at hu
    obtain ⟨v', e', hv⟩ := h.look W hr t v hu e
    have : a.eval (.tmp t) = v' := by simp [Act.eval, e']
    rw [this]; exact hv
  | const c =>
    obtain ⟨hf, e⟩ := ck_some (b := flat c) e
    cases e
    exact flat_same M hf
  | global g => cases e
  | func f => cases e; exact .func f rfl (fun i v v' h => by simp at h) rfl (fun i v v' h => by simp at h)
theorem DInv.wanted (W : Way P callF ops base nt hp0 nid0 σ) (h : DInv ds P ops base nt hp0 nid0 σ B M0 w0 l p M a w) {i : Nat} {o : Oper} (hr : Rdy ops l i o) {b : Bool}
    (hw : wantedV ops (σ i).loc base o = some b) : Region.wanted o (yielded ops a.tmps) = b := by
  unfold wantedV at hw
  unfold Region.wanted
  cases hg : o.guard with
  | none => rw [hg] at hw; cases hw; rfl
  | some g =>
    rw [hg] at hw
    obtain ⟨j, want⟩ := g
    have h' : (ob (dstOf ops j) fun d => ob (rd (σ i).loc base d) fun v => some (isB v want)) = some b := hw
    obtain ⟨d, hd, h'⟩ := ob_some h'
    obtain ⟨v, hv, h'⟩ := ob_some h'
    cases h'
    have hd' : (ops[j]?).bind (·.dst) = some d := hd
    obtain ⟨v', e', hvr⟩ := h.look W hr d v (by simp [Oper.looksAt, hg, hd']) hv
    simp only [yielded, hd', Option.bind_some, e']
    rw [← isB_rel hvr want]
    cases v' <;> simp [isB]

theorem DInv.advance (W : Way P callF ops base nt hp0 nid0 σ) (h : DInv ds P ops base nt hp0 nid0 σ B M0 w0 l p M a w) {i : Nat} {o : Oper} (hr : Rdy ops l i o) {v v' : Value} {p' : Nat} {M' : Mp} {w' : World}
    (hdst : ∀ d, o.dst = some d → d < nt) (hl : (σ (i + 1)).loc = locPut o.dst v (σ i).loc) (hst : IsStage ops (l.setIfInBounds i true) p') (hv : VRel P M' v v')
    (hh : HRel P B M' (stg ops σ p' (l.setIfInBounds i true)) w') (hev : Evol M (stg ops σ p l) nid0 w M' (stg ops σ p' (l.setIfInBounds i true)) (σ ops.size).nid w')
    (hdom : ∀ id, M id = none → M' id ≠ none → (σ i).nid ≤ id ∧ id < (σ (i + 1)).nid) :
    DInv ds P ops base nt hp0 nid0 σ B M0 w0 (l.setIfInBounds i true) p' M' (a.put o.dst v') w' := by
  have hlt : i < ops.size := (Array.getElem?_eq_some_iff.1 hr.op).1
  have hli : i < l.size := by rw [h.size]; exact hlt
  refine ⟨by simp [h.size], ?_, hst, by rw [Act.put_defers']; exact h.defers, ?_, ?_, ?_, hh, Nat.le_trans h.base_ hev.size, ?_, h.evol.trans2 hev⟩
  · intro k ok hk hok e he hb
    rw [lst_set hli] at hk ⊢
    right
    rcases hk with rfl | hk
    · rw [hr.op] at hok; cases hok; exact hr.pre e he hb
    · exact h.closed k ok hk hok e he hb
  · cases hd : o.dst <;> simp [Act.put, h.tsize]
  · intro j oj d u hoj hdj hL hu
    rw [lst_set hli] at hL
    by_cases hji : j = i
    · subst hji
      rw [hr.op] at hoj
      cases hoj
      have h1 : agt (σ (j + 1)).loc d = some v := by rw [hl, agt_locPut, if_pos hdj]
      rw [W.keeps h1 (by omega) _ (by omega) (Nat.le_refl _)] at hu
      cases hu
      refine ⟨v', ?_, hv⟩
      rw [hdj]
      simp [Act.put, Array.getElem?_setIfInBounds, h.tsize, hdst d hdj]
    · have hL := hL.resolve_left hji
      obtain ⟨u', e', hr'⟩ := h.tmps1 j oj d u hoj hdj hL hu
      refine ⟨u', ?_, hr'.ext hev.ext⟩
      cases hd : o.dst with
      | none => exact e'
      | some d0 =>
        have hne : d0 ≠ d := fun e => hji (W.reg.once j i oj o d hoj hr.op hdj (by rw [hd, e]))
        simp [Act.put, Array.getElem?_setIfInBounds_ne hne, e']
  · intro t u hno hu
    obtain ⟨u', e', hr'⟩ := h.tmps0 t u (fun j oj hoj hdj hL => hno j oj hoj hdj ((lst_set hli).2 (.inr hL))) hu
    refine ⟨u', ?_, hr'.ext hev.ext⟩
    cases hd : o.dst with
    | none => exact e'
    | some d0 =>
      have hne : d0 ≠ t := fun e => hno i o hr.op (by rw [hd, e]) ((lst_set hli).2 (.inl rfl))
      simp [Act.put, Array.getElem?_setIfInBounds_ne hne, e']
  · intro id hid
    cases e : M id with
    | some x =>
      rcases h.dom id (by rw [e]; simp) with h1 | ⟨j, j1, j2, j3⟩
      · exact .inl h1
      · exact .inr ⟨j, j1, (lst_set hli).2 (.inr j2), j3⟩
    | none => exact .inr ⟨i, hlt, (lst_set hli).2 (.inl rfl), hdom id e hid⟩

theorem stage_same (W : Way P callF ops base nt hp0 nid0 σ) (h : DInv ds P ops base nt hp0 nid0 σ B M0 w0 l p M a w) {i : Nat} {o : Oper} (hr : Rdy ops l i o) (he : isEff o = false) :
    IsStage ops (l.setIfInBounds i true) p := by
  have hlt : i < ops.size := (Array.getElem?_eq_some_iff.1 hr.op).1
  have hli : i < l.size := by rw [h.size]; exact hlt
  refine ⟨h.stage.le, fun e oe a1 a2 a3 => (lst_set hli).2 (.inr (h.stage.done e oe a1 a2 a3)), fun e oe a1 a2 a3 hL => ?_, h.stage.here⟩
  rcases (lst_set hli).1 hL with rfl | hL
  · rw [hr.op] at a2; cases a2; rw [he] at a3; cases a3
  · exact h.stage.todo e oe a1 a2 a3 hL
theorem stage_next (W : Way P callF ops base nt hp0 nid0 σ) (h : DInv ds P ops base nt hp0 nid0 σ B M0 w0 l p M a w) {i : Nat} {o : Oper} (hr : Rdy ops l i o) (he : isEff o = true) :
    p = i ∧ ∃ p', IsStage ops (l.setIfInBounds i true) p' ∧ i + 1 ≤ p' ∧ (σ p').core = (σ (i + 1)).core ∧ (σ p').abs = (σ (i + 1)).abs := by
  have hlt : i < ops.size := (Array.getElem?_eq_some_iff.1 hr.op).1
  have hli : i < l.size := by rw [h.size]; exact hlt
  obtain ⟨o', m, ho', hm, _, _⟩ := W.op hlt
  rw [hr.op] at ho'
  cases ho'
  have hpi : p = i := by
    rcases Nat.lt_trichotomy p i with hp | hp | hp
    · exfalso
      rcases h.stage.here with hn | ⟨op, hop, hep⟩
      · omega
      · obtain ⟨m', hm', hor⟩ := W.reg.pair p i op o hop hr.op hp
        rw [hm] at hm'
        cases hm'
        rcases hor with hb | ⟨_, hne⟩
        · exact h.stage.todo p op (Nat.le_refl _) hop hep (ahead h.closed i o m hr.op hm hr.pre p hb)
        · rw [hep, he] at hne; cases hne
    · exact hp
    · exact absurd (h.stage.done i o hp hr.op he) hr.un
  subst hpi
  refine ⟨rfl, ?_⟩
  obtain ⟨p', h1, h2, h3⟩ := next_stage (l := l.setIfInBounds p true) (ops := ops) (ops.size - (p + 1)) (p + 1) (by omega)
    (fun e oe a1 a2 a3 => by
      rw [lst_set hli]
      by_cases hep : e = p
      · exact .inl hep
      · exact .inr (h.stage.done e oe (by omega) a2 a3))
    (fun e oe a1 a2 a3 hL => by
      rcases (lst_set hli).1 hL with hx | hx
      · omega
      · exact h.stage.todo e oe (by omega) a2 a3 hx)
  obtain ⟨e1, e2⟩ := W.still p' h1 h2.le h3
  exact ⟨p', h2, h1, e1, e2⟩

theorem no_fl (W : Way P callF ops base nt hp0 nid0 σ) {i : Nat} (hf : (σ (i + 1)).fls = (σ i).fls) {id : Nat} {x : Nat × AObj} (hx : flOf (σ ops.size).fls id = some x) : x.1 ≠ i := by
  intro e
  obtain ⟨_, _, _, k⟩ := W.made ops.size (Nat.le_refl _) _ (flOf_mem _ _ _ hx)
  simp only at k
  rw [e] at k
  rw [hf] at k
  have := congrArg List.length k
  simp at this
theorem stg_same (W : Way P callF ops base nt hp0 nid0 σ) {i p' : Nat} (hli : i < l.size) (hf : (σ (i + 1)).fls = (σ i).fls) (h1 : (σ p').core = (σ p).core) (h2 : (σ p').abs = (σ p).abs) :
    stg ops σ p' (l.setIfInBounds i true) = stg ops σ p l := by
  funext id
  unfold stg
  rw [h1, h2]
  cases (σ p).core.get id with
  | some o => rfl
  | none =>
    simp only
    cases hx : flOf (σ ops.size).fls id with
    | none => rfl
    | some x =>
      have hne := no_fl W hf hx
      simp only
      have : Lst (l.setIfInBounds i true) x.1 ↔ Lst l x.1 := by rw [lst_set hli]; simp [hne]
      simp only [this]
theorem stg_fl {x : Nat × AObj} {id : Nat} (W : Way P callF ops base nt hp0 nid0 σ) (hp : p ≤ ops.size) (hx : flOf (σ ops.size).fls id = some x) (hL : Lst l x.1) (ha : id ∉ (σ p).abs) : stg ops σ p l id = some x.2 := by
  unfold stg
  have := (W.noclash hp (flOf_mem _ _ _ hx)).resolve_left ha
  simp only at this
  rw [this]
  simp only [hx]
  rw [if_pos ⟨hL, ha⟩]

/-- one operation of a region that draws, whichever comes -/
theorem d_step (W : Way P callF ops base nt hp0 nid0 σ) (hc : CallOk P callF) {Q : Exit → Act → World → Prop} (h : DInv ds P ops base nt hp0 nid0 σ B M0 w0 l p M a w)
    (hfree : ∀ id, nid0 ≤ id → id < (σ ops.size).nid → M0 id = none) {i : Nat} (hi : i ∈ Region.ready .any ops l) :
    wpOpIn (Fr rf) 0 P ops Q i (fun a' w' => ∃ p' M', DInv ds P ops base nt hp0 nid0 σ B M0 w0 (l.setIfInBounds i true) p' M' a' w') a w := by
  obtain ⟨o, hr⟩ := rdy_of h.size hi
  have hlt : i < ops.size := (Array.getElem?_eq_some_iff.1 hr.op).1
  have hli : i < l.size := by rw [h.size]; exact hlt
  obtain ⟨o', m, ho', hm, hk, hdst⟩ := W.op hlt
  rw [hr.op] at ho'
  cases ho'
  have herel := h.erel W hr
  have hmust : ∀ j, bit m j = true → Lst l j := fun j hb => ahead h.closed i o m hr.op hm hr.pre j hb
  -- numbers of this operation lie nowhere yet
  have hnew : ∀ id, (σ i).nid ≤ id → id < (σ (i + 1)).nid → M id = none := by
    intro id a1 a2
    cases e : M id with
    | none => rfl
    | some x =>
      exfalso
      rcases h.dom id (by rw [e]; simp) with h1 | ⟨j, j1, j2, j3, j4⟩
      · have n1 := W.nid (i := 0) (j := i) (by omega) (by omega)
        have n2 := W.nid (i := i + 1) (j := ops.size) (by omega) (Nat.le_refl _)
        rw [W.start] at n1
        exact h1 (hfree id (by simp only at n1; omega) (by omega))
      · rcases Nat.lt_trichotomy j i with hji | hji | hji
        · have := W.nid (i := j + 1) (j := i) (by omega) (by omega); omega
        · subst hji; exact hr.un j2
        · have := W.nid (i := i + 1) (j := j) (by omega) (by omega); omega
  have hrefl : ∀ g : Mem, Evol M (stg ops σ p l) nid0 w M (stg ops σ p l) (σ ops.size).nid w := fun _ => (Evol.refl M (stg ops σ p l) nid0 w).wide (Nat.le_refl _) (by have := W.nid (i := 0) (j := ops.size) (by omega) (Nat.le_refl _); rw [W.start] at this; exact this)
  unfold wpOpIn
  simp only [hr.op]
  -- nothing turns but the temporary
  have plain : ∀ {v v' : Value}, isEff o = false → (σ (i + 1)).loc = locPut o.dst v (σ i).loc → (σ (i + 1)).fls = (σ i).fls → VRel P M v v' →
      ∃ p' M', DInv ds P ops base nt hp0 nid0 σ B M0 w0 (l.setIfInBounds i true) p' M' (a.put o.dst v') w := by
    intro v v' he hl hf hv
    have hs := stg_same (l := l) (p := p) (p' := p) W hli hf rfl rfl
    refine ⟨p, M, h.advance W hr hdst hl (stage_same W h hr he) hv (by rw [hs]; exact h.heap) (by rw [hs]; exact hrefl (stg ops σ p l)) (fun id a1 a2 => absurd a1 a2)⟩
  -- the same where the operation is one of those that may turn the memory
  have plainE : ∀ {v v' : Value} {w' : World}, isEff o = true → (σ (i + 1)).loc = locPut o.dst v (σ i).loc → (σ (i + 1)).fls = (σ i).fls → (σ (i + 1)).core = (σ i).core → (σ (i + 1)).abs = (σ i).abs → VRel P M v v' →
      HRel P B M (stg ops σ p l) w' → Evol M (stg ops σ p l) nid0 w M (stg ops σ p l) (σ ops.size).nid w' →
      ∃ p' M', DInv ds P ops base nt hp0 nid0 σ B M0 w0 (l.setIfInBounds i true) p' M' (a.put o.dst v') w' := by
    intro v v' w' he hl hf h1 h2 hv hh hev
    obtain ⟨hpi, p', q1, q2, q3, q4⟩ := stage_next W h hr he
    subst hpi
    have hs := stg_same (l := l) (p := p) (p' := p') W hli hf (q3.trans h1) (q4.trans h2)
    refine ⟨p', M, h.advance W hr hdst hl q1 hv (by rw [hs]; exact hh) (by rw [hs]; exact hev) (fun id a1 a2 => absurd a1 a2)⟩
  cases hk with
  | skip hw hl hs =>
    rw [h.wanted W hr hw, if_neg (by simp)]
    refine ⟨fun _ _ => Fr_fn _ _, ?_⟩
    cases he : isEff o with
    | false => exact plain he hl hs.2.2.2.1 (LRel.tup (LRel.nil M))
    | true => exact plainE he hl hs.2.2.2.1 hs.1 hs.2.1 (LRel.tup (LRel.nil M)) h.heap (hrefl (stg ops σ p l))
  | val v hw he hv hl hs =>
    rw [h.wanted W hr hw, if_pos rfl]
    refine ⟨fun _ _ => Fr_fn _ _, ?_⟩
    rw [sem_fr hv]
    obtain ⟨v', e1, hvr⟩ := ok_op (B := B) (w := w) hv herel (h.heap.sub fun id o e => by cases e) h.base_ (by simp [topOf])
    rw [e1]
    exact plain he hl hs.2.2.2.1 hvr
  | load t x b off v hw he ho pv hx hpw hv hold hl hs =>
    rw [h.wanted W hr hw, if_pos rfl]
    refine ⟨fun _ _ => Fr_fn _ _, ?_⟩
    rw [sem_fr' (fun c hc => by rw [ho] at hc; cases hc)]
    -- the same value at the stage where it is done
    have hstage : loadO P (lookAt m (σ p).core (σ p).abs (σ i).fls b) t off = some v := by
      rcases Nat.lt_or_ge i p with hip | hip
      · -- the last turn behind the load
        have key : ∀ d q, i + 1 + d = q → q ≤ p → loadO P (lookAt m (σ q).core (σ q).abs (σ i).fls b) t off = some v ∧ ⟨i, m, t, b, off, v⟩ ∈ (σ q).lds := by
          intro d
          induction d with
          | zero =>
            intro q hq _
            have : q = i + 1 := by omega
            subst this
            exact ⟨by rw [hs.1, hs.2.1]; exact hv, by rw [hs.2.2.2.2.2]; simp⟩
          | succ d ih =>
            intro q hq hqp
            obtain ⟨k1, k2⟩ := ih (q - 1) (by omega) (by omega)
            have hqs : q - 1 + 1 = q := by omega
            have hple := h.stage.le
            obtain ⟨oq, mq, hoq, hmq, hkq, _⟩ := W.op (i := q - 1) (by omega)
            rw [hqs] at hkq
            have hfls : ∀ x, flOf (σ i).fls b = some x → flOf (σ (q - 1)).fls b = some x := fun x hx => W.fl_keeps hx (by omega) (q - 1) (by omega) (by omega)
            have hnb : ∀ oq', ops[q - 1]? = some oq' → isEff oq' = true → bit mq i = false := fun oq' h1 h2 => by
              cases hb : bit mq i with
              | false => rfl
              | true => exact absurd (ahead' h.closed hoq hmq (h.stage.done (q - 1) oq' (by omega) h1 h2) hb) hr.un
            cases hkq with
            | skip hw' hl' hs' => rw [hs'.1, hs'.2.1, hs'.2.2.2.2.2]; exact ⟨k1, k2⟩
            | val v' hw' he' hv' hl' hs' => rw [hs'.1, hs'.2.1, hs'.2.2.2.2.2]; exact ⟨k1, k2⟩
            | load t' x' b' off' v' hw' he' ho' pv' hx' hpw' hv' hold' hl' hs' => rw [hs'.1, hs'.2.1, hs'.2.2.2.2.2]; exact ⟨k1, by simp [k2]⟩
            | new v' ob' hw' he' hv' hl' hs' => rw [hs'.1, hs'.2.1, hs'.2.2.2.2.2]; exact ⟨k1, k2⟩
            | iso f' args' c' v' hp' nid' hw' he' hc' hv' hf' hcall' hfl' hl' hs' => rw [hs'.1, hs'.2.1, hs'.2.2.2.2.2]; exact ⟨k1, k2⟩
            | turn c' v' core' nid' hw' he' hc' hv' hle' hlds' hl' hs' =>
              rw [hs'.1, hs'.2.1, hs'.2.2.2.2.2]
              refine ⟨?_, k2⟩
              have h6 := (hlds' _ k2).resolve_left (by simp only; rw [hnb oq hoq he']; simp)
              simp only at h6
              -- what was made by then, of what lies ahead, is the same
              have hsame : lookAt m core' c'.2 (σ (q - 1)).fls b = lookAt m core' c'.2 (σ i).fls b := by
                unfold lookAt
                cases core'.get b with
                | some o => rfl
                | none =>
                  have : (ob (flOf (σ (q - 1)).fls b) fun x => ck (bit m x.1 && c'.2.all (fun a => !(Nat.beq a b))) (some x.2)) = (ob (flOf (σ i).fls b) fun x => ck (bit m x.1 && c'.2.all (fun a => !(Nat.beq a b))) (some x.2)) := by
                    cases hfi : flOf (σ i).fls b with
                    | some x => rw [hfls x hfi]
                    | none =>
                      cases hfq : flOf (σ (q - 1)).fls b with
                      | none => rfl
                      | some x =>
                        have hx1 : bit m x.1 = false := by
                          cases hb : bit m x.1 with
                          | false => rfl
                          | true =>
                            exfalso
                            obtain ⟨y1, y2, y3, y4⟩ := W.made (q - 1) (by omega) _ (flOf_mem _ _ _ hfq)
                            simp only at y1 y2 y3 y4
                            have hLx := hmust x.1 hb
                            have hxi : x.1 < i := by
                              rcases Nat.lt_trichotomy x.1 i with z | z | z
                              · exact z
                              · rw [z] at hLx; exact absurd hLx hr.un
                              · obtain ⟨ox, mx, hox, hmx, _, _⟩ := W.op (i := x.1) (by omega)
                                -- what lies ahead comes ahead in the text
                                exact absurd hb (by
                                  have hsm := must_lt W.reg hr.op hm (j := x.1)
                                  intro hb'
                                  have := hsm hb'
                                  omega)
                            have hin : flOf (σ (x.1 + 1)).fls b = some x := by rw [y4, flOf_cons]; simp
                            have := W.fl_keeps hin (by omega) i (by omega) (by omega)
                            rw [hfi] at this; cases this
                        show ck (bit m x.1 && _) (some x.2) = none
                        rw [hx1]; rfl
                  exact this
              rw [← hsame]
              exact h6
        exact (key (p - (i + 1)) p (by omega) (Nat.le_refl _)).1
      · rcases W.turns (i - p) p i (by omega) (by omega) with ⟨e1, e2⟩ | ⟨e, oe, a1, a2, a3, a4, a5⟩
        · rw [e1, e2]; exact hv
        · have h6 := (hold _ a5).resolve_left (by
            intro hb
            simp only at hb
            exact h.stage.todo e oe a1 a3 a4 (hmust e hb))
          exact h6
    have hlook : ∀ y, lookAt m (σ p).core (σ p).abs (σ i).fls b = some y → stg ops σ p l b = some y := by
      intro y hy
      rcases lookAt_some hy with hy | ⟨hy, j, hj, hbj, hab⟩
      · unfold stg; rw [hy]
      · exact stg_fl (x := (j, y)) W h.stage.le (W.fl_keeps hj (by omega) _ (by omega) (Nat.le_refl _)) (hmust j hbj) hab
    have hpv := herel x _ hx
    have hex : ∃ v', (execOp a.eval o).run P w = .ok (.value v') w ∧ VRel P M v v' := by
      unfold execOp
      rw [ho]
      simp only
      obtain ⟨b', r', o', ey, hb, hoff⟩ := ptrW_rel hpw hpv
      obtain ⟨v', e1, hvr⟩ := run_loadO h.heap hb hoff hlook hstage
      exact ⟨v', by rw [ey]; simp [Instr.loadAt, Instr.sureAddr, e1], hvr⟩
    obtain ⟨v', e1, hvr⟩ := hex
    rw [e1]
    exact plain he hl hs.2.2.2.1 hvr
  | new v ob hw he hv hl hs =>
    rw [h.wanted W hr hw, if_pos rfl]
    refine ⟨fun _ _ => Fr_fn _ _, ?_⟩
    rw [sem_fr hv]
    have hM : M (σ i).nid = none := hnew _ (Nat.le_refl _) (by rw [hs.2.2.1]; omega)
    obtain ⟨v', obj, e1, hvr, ho⟩ := ok_op (B := B) (w := w) hv herel (h.heap.sub fun id o e => by cases e) h.base_ (fun _ => hM)
    rw [e1]
    have hfl : flOf (σ ops.size).fls (σ i).nid = some (i, ob) := W.fl_keeps (i := i + 1) (by rw [hs.2.2.2.1, flOf_cons]; simp) (by omega) _ (by omega) (Nat.le_refl _)
    have hcore : (σ p).core.get (σ i).nid = none := by
      cases hg : (σ p).core.get (σ i).nid with
      | none => rfl
      | some oo =>
        have : stg ops σ p l (σ i).nid = some oo := by unfold stg; rw [hg]
        obtain ⟨b, r, ob', e, _⟩ := h.heap.has _ _ this
        rw [hM] at e; cases e
    have habs : (σ i).nid ∉ (σ p).abs := by
      intro hin
      obtain ⟨e, oe, me, j, ob', a1, a2, a3, a4, a5, a6⟩ := W.abs_from p h.stage.le _ hin
      have hje : j = i := by
        obtain ⟨y1, y2, y3, y4⟩ := W.made p h.stage.le _ a6
        simp only at y1 y2 y3 y4
        have hin2 : flOf (σ (j + 1)).fls (σ i).nid = some (j, ob') := by rw [y4, flOf_cons]; simp
        have hple := h.stage.le
        have := W.fl_keeps hin2 (by omega) ops.size (by omega) (Nat.le_refl _)
        rw [hfl] at this
        cases this
        rfl
      subst hje
      exact hr.un (ahead' h.closed a2 a4 (h.stage.done e oe a1 a2 a3) a5)
    have hs' : ∀ id, stg ops σ p (l.setIfInBounds i true) id = if id = (σ i).nid then some ob else stg ops σ p l id := by
      intro id
      by_cases hid : id = (σ i).nid
      · subst hid
        rw [if_pos rfl]
        unfold stg
        rw [hcore]
        simp only [hfl]
        rw [if_pos ⟨(lst_set hli).2 (.inl rfl), habs⟩]
      · rw [if_neg hid]
        unfold stg
        cases (σ p).core.get id with
        | some o => rfl
        | none =>
          simp only
          cases hx : flOf (σ ops.size).fls id with
          | none => rfl
          | some x =>
            have hne : x.1 ≠ i := by
              intro e
              obtain ⟨_, y2, _⟩ := W.made _ (Nat.le_refl _) _ (flOf_mem _ _ _ hx)
              simp only at y2
              rw [e] at y2
              exact hid y2
            simp only
            have : Lst (l.setIfInBounds i true) x.1 ↔ Lst l x.1 := by rw [lst_set hli]; simp [hne]
            simp only [this]
    have ho' := ho.ext (Mp.upd_ext (b := w.heap.size) (r := 0) hM)
    have n0 := W.nid (i := 0) (j := i) (by omega) (by omega)
    rw [W.start] at n0
    have n1 := W.nid (i := i + 1) (j := ops.size) (by omega) (Nat.le_refl _)
    rw [hs.2.2.1] at n1
    simp only at n0
    have hpush : Evol M (stg ops σ p l) (σ i).nid w (M.upd (σ i).nid w.heap.size 0) (stg ops σ p (l.setIfInBounds i true)) ((σ i).nid + 1) { w with heap := w.heap.push obj } := Evol.push h.heap hM hs' rfl rfl rfl rfl
    refine ⟨p, M.upd (σ i).nid w.heap.size 0, h.advance W hr hdst hl (stage_same W h hr he) hvr (h.heap.push h.base_ hM hs' rfl ho') (hpush.wide n0 n1) (fun id a1 a2 => ?_)⟩
    rw [hs.2.2.1]
    unfold Mp.upd at a2
    by_cases hid : id = (σ i).nid
    · omega
    · rw [if_neg hid] at a2; exact absurd a1 a2
  | iso f args c v hp nid hw he hcc hv hf hcall hfl hl hs =>
    rw [h.wanted W hr hw, if_pos rfl]
    refine ⟨fun _ _ => Fr_fn _ _, ?_⟩
    rw [sem_fr hv]
    obtain ⟨hpi, _⟩ := stage_next W h hr he
    subst hpi
    obtain ⟨k1, _⟩ := absorb_spec _ _ _ _ hcc
    have hsub : ∀ id o, c.1.get id = some o → stg ops σ p l id = some o := by
      intro id o e
      rcases k1 id o e with e | ⟨j, hj, hb, hab⟩
      · unfold stg; rw [e]
      · obtain ⟨y1, y2, y3, y4⟩ := W.made p (by omega) _ hj
        simp only at y1 y2 y3 y4
        have hin : flOf (σ (j + 1)).fls id = some (j, o) := by rw [y4, flOf_cons]; simp
        exact stg_fl (x := (j, o)) W h.stage.le (W.fl_keeps hin (by omega) _ (by omega) (Nat.le_refl _)) (hmust j hb) hab
    obtain ⟨args', hla, hmt⟩ := ok_op (B := B) (w := w) hv herel (h.heap.sub hsub) h.base_ (by simp [topOf])
    obtain ⟨_, hrun⟩ := hc _ _ _ _ _ _ _ hcall
    have hargs : args'.toList = args := LRel.eq hla (fun u hu u' hr' => flat_eq (List.all_eq_true.1 hf u hu) hr')
    refine upon_call hmt (CallsT.of_none ((hrun w.heap.size (fun _ => none) args' w (by rw [hargs]; exact LRel.same fun u hu => flat_same _ (List.all_eq_true.1 hf u hu)) ⟨fun id o e => (by cases e), fun i j b r r' hi => (by cases hi), fun b c hb => ⟨(h.heap.old b c hb).1, fun id r hi => (by cases hi)⟩⟩ (Nat.le_refl _) (fun _ _ _ => rfl)).mono ?_))
    rintro e w' ⟨M', v', rfl, hvr, hh, hev⟩
    refine ⟨v', rfl, ?_⟩
    have hv' : v' = v := flat_eq hfl hvr
    subst hv'
    have hall : ∀ b, b < w.heap.size → w'.heap[b]? = w.heap[b]? := fun b hb => hev.frame b hb fun id r hi => by cases hi
    refine plainE he hl hs.2.2.2.1 hs.1 hs.2.1 (flat_same M hfl) ⟨fun id o e => ?_, h.heap.inj, fun b c hb => ⟨(by
      obtain ⟨⟨el, fr, h1⟩, _⟩ := h.heap.old b c hb
      exact ⟨el, fr, by rw [hall b (Array.getElem?_eq_some_iff.1 h1).1]; exact h1⟩), (h.heap.old b c hb).2⟩⟩ ⟨hev.os, hev.tape, hev.output, hev.size, fun b hb _ => hall b hb, fun id b r hi e => .inl ⟨id, r, hi, e⟩, fun id b r hi e => .inl ⟨id, r, hi, e⟩, Ext.refl _, fun id a1 a2 => absurd a1 a2, (hrefl (stg ops σ p l)).le⟩
    obtain ⟨b, r, ob, e1, e2, e3, e4⟩ := h.heap.has id o e
    exact ⟨b, r, ob, e1, e2, by rw [hall b (Array.getElem?_eq_some_iff.1 e3).1]; exact e3, e4⟩
  | turn c v core nid hw he hcc hv hle hlds hl hs =>
    rw [h.wanted W hr hw, if_pos rfl]
    refine ⟨fun _ _ => Fr_fn _ _, ?_⟩
    obtain ⟨hpi, p', q1, q2, q3, q4⟩ := stage_next W h hr he
    subst hpi
    obtain ⟨k1, k2, k3, k4, k5, k6, k7⟩ := absorb_spec _ _ _ _ hcc
    have hsub : ∀ id o, c.1.get id = some o → stg ops σ p l id = some o := by
      intro id o e
      rcases k1 id o e with e | ⟨j, hj, hb, hab⟩
      · unfold stg; rw [e]
      · obtain ⟨y1, y2, y3, y4⟩ := W.made p (by omega) _ hj
        simp only at y1 y2 y3 y4
        have hin : flOf (σ (j + 1)).fls id = some (j, o) := by rw [y4, flOf_cons]; simp
        exact stg_fl (x := (j, o)) W h.stage.le (W.fl_keeps hin (by omega) _ (by omega) (Nat.le_refl _)) (hmust j hb) hab
    have hg' : ∀ id o, stg ops σ p' (l.setIfInBounds p true) id = some o → core.get id = some o ∨ (core.get id = none ∧ stg ops σ p l id = some o ∧ c.1.get id = none) := by
      intro id o e
      unfold stg at e
      rw [q3, hs.1] at e
      cases hg : core.get id with
      | some oo => rw [hg] at e; exact .inl e
      | none =>
        rw [hg] at e
        simp only at e
        cases hx : flOf (σ ops.size).fls id with
        | none => rw [hx] at e; cases e
        | some x =>
          rw [hx] at e
          simp only at e
          split at e
          · rename_i hcond
            cases e
            obtain ⟨hL, hna⟩ := hcond
            rw [q4, hs.2.1] at hna
            have hne := no_fl W (i := p) hs.2.2.2.1 hx
            have hL : Lst l x.1 := ((lst_set hli).1 hL).resolve_left hne
            have hna0 : id ∉ (σ p).abs := fun hm' => hna (k3 id hm')
            refine .inr ⟨rfl, stg_fl W h.stage.le hx hL hna0, ?_⟩
            rw [k6 id hna]
            exact (W.noclash h.stage.le (flOf_mem _ _ _ hx)).resolve_left hna0
          · cases e
    have n0 := W.nid (i := 0) (j := p) (by omega) (by omega)
    rw [W.start] at n0
    have n1 := W.nid (i := p + 1) (j := ops.size) (by omega) (Nat.le_refl _)
    rw [hs.2.2.1] at n1
    have hn2 : ∀ id, (σ p).nid ≤ id → id < nid → M id = none := fun id a1 a2 => hnew id a1 (by rw [hs.2.2.1]; exact a2)
    have fin : ∀ {v' : Value} {M' : Mp} {w' : World}, VRel P M' v v' → HRel P B M' core.get w' → Evol M c.1.get (σ p).nid w M' core.get nid w' →
        ∃ p' M', DInv ds P ops base nt hp0 nid0 σ B M0 w0 (l.setIfInBounds p true) p' M' (a.put o.dst v') w' := by
      intro v' M' w' hvr hh hev
      obtain ⟨f1, f2⟩ := frame_rel h.heap hsub hh hev hg'
      exact ⟨p', M', h.advance W hr hdst hl q1 hvr f1 (f2.wide n0 n1) (fun id a1 a2 => by rw [hs.2.2.1]; exact hev.dom id a1 a2)⟩
    rcases hv with hv | ⟨f, args, hv, hcall⟩
    · obtain ⟨x, v', w', M', e1, hx, hvr, hh, hev⟩ := ok_op (B := B) (w := w) hv herel (h.heap.sub hsub) h.base_ (fun hlt => hn2 _ (Nat.le_refl _) hlt)
      rw [sem_fr hv, e1]
      rcases hx with rfl | ⟨rfl, rfl⟩
      · exact fin hvr hh hev
      · exact fin hvr hh hev
    · obtain ⟨args', hla, hmt⟩ := ok_op (B := B) (w := w) hv herel (h.heap.sub hsub) h.base_ (by simp [topOf])
      rw [sem_fr hv]
      obtain ⟨_, hrun⟩ := hc _ _ _ _ _ _ _ hcall
      refine upon_call hmt ((hrun B M args' w hla (h.heap.sub hsub) h.base_ hn2).mono ?_)
      rintro e w' ⟨M', v', rfl, hvr, hh, hev⟩
      refine ⟨v', rfl, ?_⟩
      exact fin hvr hh hev
end
end Sy
end Go.Proofs.Ytlmnhlmgbcpclaa

set_option linter.unusedSimpArgs false
set_option linter.unusedVariables false
namespace Go.Proofs.Ytlmnhlmgbcpclaa
namespace Sy
variable {P : Pg}

section
variable {P : Pg} {callF : CallF} {ops : Array Oper} {base : Tm} {nt : Nat} {ds : List Deferred} {rf : Option Nat}

/-- a region that draws its order -/
theorem ok_draw (hc : CallOk P callF) (hm : P.prog.follows .mixedOrders = true) {hp : T AObj} {nid : Nat} {s' : RS} (h : evDraw P callF ops base nt hp nid = some s') : nid ≤ s'.nid ∧
    ∀ {Q : Exit → Act → World → Prop} {id : Nat} {B : Nat} {M : Mp} {a : Act} {w : World}, SInv ds P B M [] base nt hp a w → (∀ id, nid ≤ id → id < s'.nid → M id = none) →
      (∀ M' a' w', SInv ds P B M' s'.loc base nt s'.hp a' w' → Evol M hp.get nid w M' s'.hp.get s'.nid w' → Q .normal a' w') → (Code.region id ops true).wpIn (Fr rf) 0 P Q a w := by
  obtain ⟨hreg, h⟩ := ck_some h
  obtain ⟨sn, hsn, h⟩ := ob_some h
  obtain ⟨hcl, h⟩ := ck_some h
  obtain ⟨c, hcc, h⟩ := ob_some h
  cases h
  rw [Bool.and_eq_true] at hcl
  obtain ⟨σ, e1, e2, e3⟩ := trace _ _ _ _ _ hsn
  simp only [Nat.zero_add, Array.length_toList] at e2
  have W : Way P callF ops base nt hp nid σ := by
    refine ⟨regOk_spec hreg, e1, fun i o ho => ?_, by rw [e2]; exact hcl.1, fun q hq => ?_⟩
    · obtain ⟨m, hm, hd⟩ := e3 i o (by simpa using ho)
      rw [Nat.zero_add] at hm hd
      exact ⟨m, hm, dStep_kind hd⟩
    · rw [e2] at hq ⊢
      exact List.all_eq_true.1 hcl.2 q hq
  have hn0 := W.nid (i := 0) (j := ops.size) (by omega) (Nat.le_refl _)
  rw [e1, e2] at hn0
  refine ⟨hn0, ?_⟩
  intro Q id B M a w hs hfree hK
  refine wpIn_region_any hm ?_
  obtain ⟨p0, p1, p2, p3⟩ := next_stage (ops := ops) (l := Array.replicate ops.size false) ops.size 0 (by omega) (fun e o h => by omega) (fun e o _ ho _ hL => by
    have := (Array.getElem?_eq_some_iff.1 ho).1
    simp [Lst, this] at hL)
  have hnl : ∀ j, ¬ Lst (Array.replicate ops.size false) j := fun j hL => by
    unfold Lst at hL
    rcases Nat.lt_or_ge j ops.size with hj | hj
    · simp [hj] at hL
    · rw [Array.getD_eq_getD_getElem?, Array.getElem?_eq_none (by simpa using hj)] at hL; cases hL
  obtain ⟨c1, c2⟩ := W.still p0 (Nat.zero_le _) p2.le p3
  rw [e1] at c1 c2
  have hst0 : stg ops σ p0 (Array.replicate ops.size false) = hp.get := by
    funext id
    unfold stg
    rw [c1]
    simp only
    cases hp.get id with
    | some o => rfl
    | none =>
      simp only
      cases flOf (σ ops.size).fls id with
      | none => rfl
      | some x => simp only; rw [if_neg (fun hx => hnl _ hx.1)]
  have hend : ∀ (l : Array Bool) (a : Act) (w' : World), (∃ p M', DInv ds P ops base nt hp nid σ B M w l p M' a w') → (∀ i, i < ops.size → l.getD i false = true) → Q .normal a w' := by
    rintro l a w' ⟨p, M', hd⟩ hall
    have hL : ∀ j, j < ops.size → Lst l j := hall
    have hp : p = ops.size := by
      rcases hd.stage.here with h | ⟨o, ho, he⟩
      · exact h
      · exact absurd (hL p (Array.getElem?_eq_some_iff.1 ho).1) (hd.stage.todo p o (Nat.le_refl _) ho he)
    subst hp
    obtain ⟨k1, k2, k3, k4, k5, k6, k7⟩ := absorb_spec _ _ _ _ hcc
    have hsub : ∀ id o, c.1.get id = some o → stg ops σ ops.size l id = some o := by
      intro id o e
      rcases k1 id o e with e | ⟨j, hj, hb, hab⟩
      · unfold stg; rw [e2, e]
      · rw [← e2] at hj hab
        obtain ⟨y1, y2, y3, y4⟩ := W.made _ (Nat.le_refl _) _ hj
        simp only at y1 y2 y3 y4
        have hin : flOf (σ (j + 1)).fls id = some (j, o) := by rw [y4, flOf_cons]; simp
        exact stg_fl (x := (j, o)) W (Nat.le_refl _) (W.fl_keeps hin (by omega) _ (by omega) (Nat.le_refl _)) (hL j y1) hab
    refine hK M' a w' ⟨hd.defers, ⟨hd.tsize, fun t v e => ?_⟩, hd.heap.sub hsub, hd.base_⟩ ?_
    · simp only at e
      rw [← e2, rd_def] at e
      cases hloc : agt (σ ops.size).loc t with
      | some u =>
        rw [hloc] at e
        cases e
        obtain ⟨j, o, hj, ho, hdj⟩ := (W.written _ (Nat.le_refl _) t).1 (by rw [hloc]; rfl)
        exact hd.tmps1 j o t v ho hdj (hL j hj) hloc
      | none =>
        rw [hloc] at e
        refine hd.tmps0 t v (fun j o ho hdj _ => ?_) e
        have := (W.written _ (Nat.le_refl _) t).2 ⟨j, o, (Array.getElem?_eq_some_iff.1 ho).1, ho, hdj⟩
        rw [hloc] at this; cases this
    · have hev := hd.evol
      rw [e2] at hev
      exact { hev with
        fresh := fun id b r hi ei => hev.fresh id b r (by obtain ⟨o, ho⟩ := Option.isSome_iff_exists.1 hi; rw [hsub id o ho]; rfl) ei
        freshW := fun id b r hi ei => hev.freshW id b r (by obtain ⟨o, ho⟩ := Option.isSome_iff_exists.1 (wrt_some hi); rw [ho] at hi; rw [hsub id o ho]; exact hi) ei }
  have hstart : DInv ds P ops base nt hp nid σ B M w (Array.replicate ops.size false) p0 M a { w with drawn := w.drawn + 1 } := by
    refine ⟨by simp, fun k ok hk => absurd hk (hnl k), p2, hs.defers, hs.tmps.size, fun j o d v _ _ hL => absurd hL (hnl j), fun t v _ e => hs.tmps.at_ t v (by rw [rd_nil]; exact e), ?_, hs.base_, fun id hid => .inl hid, ?_⟩
    · rw [hst0]; exact ⟨hs.heap.has, hs.heap.inj, hs.heap.old⟩
    · rw [hst0]
      rw [← e2] at hn0
      exact ((⟨rfl, rfl, rfl, Nat.le_refl _, fun _ _ _ => rfl, fun id b r h e => .inl ⟨id, r, h, e⟩, fun id b r h e => .inl ⟨id, r, h, e⟩, Ext.refl _, fun id h k => absurd h k, Nat.le_refl _⟩ : Evol M hp.get nid w M hp.get nid { w with drawn := w.drawn + 1 })).wide (Nat.le_refl _) hn0
  exact any_inv (fun l a w' => ∃ p M', DInv ds P ops base nt hp nid σ B M w l p M' a w') (fun l a w' hx => by obtain ⟨p, M', hd⟩ := hx; exact hd.size) (regOk_spec hreg).edges
    (fun l a w' i hx hi => by obtain ⟨p, M', hd⟩ := hx; exact d_step W hc hd (by rw [e2]; exact hfree) hi) hend ops.size _ a _ ⟨p0, M, hstart⟩ (by omega)
end

/-! Code. -/
def exitOf : AX → Exit
  | .normal => .normal
  | .exit id => .exit id
  | .goto l => .goto l
  | .ret => .ret

/-- the marks for deferred calls of rounds -/
inductive MRel (M : Mp) : List Nat → List Deferred → Prop
  | nil : MRel M [] []
  | cons {d b r : Nat} {df : List Nat} {ds : List Deferred} (h : M d = some (b, r)) (hs : MRel M df ds) : MRel M (d :: df) ({ target := .collected b, args := #[] } :: ds)
theorem MRel.ext {M M' : Mp} (hx : Ext M M') {df : List Nat} {ds : List Deferred} (h : MRel M df ds) : MRel M' df ds := by
  induction h with
  | nil => exact .nil
  | cons h hs ih => exact .cons (hx _ _ h) ih
/-- the round that a frame is of -/
def RdRel (M : Mp) : Option Nat → Option Nat → Prop
  | none, none => True
  | some l, some l' => ∃ rr, M l = some (l', rr)
  | _, _ => False
theorem RdRel.ext {M M' : Mp} (hx : Ext M M') {x y : Option Nat} (h : RdRel M x y) : RdRel M' x y := by
  cases x <;> cases y <;> first | trivial | exact h.elim | (obtain ⟨rr, h⟩ := h; exact ⟨rr, hx _ _ h⟩)

structure CInv (P : Pg) (B : Nat) (M : Mp) (rf : Option Nat) (s : St) (a : Act) (w : World) : Prop where
  defers : MRel M s.df a.defers
  rnd : RdRel M s.rnd rf
  size : a.tmps.size = s.nt
  tmps : ∀ t v, agt s.tm t = some v → kept s.kp t = true ∧ ∃ v', a.tmps[t]? = some v' ∧ VRel P M v v'
  heap : HRel P B M s.hp.get w
  base_ : B ≤ w.heap.size

def CodeOk (P : Pg) (rec : CodeF) : Prop := ∀ c s x s', rec c s = some (x, s') → s.nid ≤ s'.nid ∧ s'.kp = s.kp ∧ s'.nt = s.nt ∧
  ∀ B M rf a w, CInv P B M rf s a w → (∀ id, s.nid ≤ id → id < s'.nid → M id = none) → c.wpIn (Fr rf) 0 P (fun e a' w' => ∃ M', e = exitOf x ∧ CInv P B M' rf s' a' w' ∧ Evol M s.hp.get s.nid w M' s'.hp.get s'.nid w') a w

theorem stepR_scope {P : Program} {b : Frame} {a : Act} {k : List Item} {cs : List Frame} {w : World} {c : Code} : step P (lone (b.atR a (.code (.scope c) :: k)) cs w) = .next (lone (b.atR a (.code c :: .inScope c :: k)) cs w) :=
  step_lone_go (by simp [stepG, stepG.exec, Frame.atR])
theorem stepR_inScope {P : Program} {b : Frame} {a : Act} {k : List Item} {cs : List Frame} {w : World} {c : Code} : step P (lone (b.atR a (.inScope c :: k)) cs w) = .next (lone (b.atR a k) cs w) :=
  step_lone_go (by simp [stepG, stepG.exec, Frame.atR])
/-- a scope out of which no jump goes -/
theorem wpIn_scope {F : Fence} {n : Nat} {P : Program} {Q : Exit → Act → World → Prop} {a : Act} {w : World} {c : Code} (h : c.wpIn F n P (fun e a w => (∀ l, e ≠ .goto l) ∧ Q e a w) a w) : (Code.scope c).wpIn F n P Q a w := by
  intro b k cs hro hb hr
  have h0 : (lone (b.atR a (.code (.scope c) :: k)) cs w).fenced P F := fenced_calm hb hr rfl
  obtain ⟨e, a₁, w₁, ⟨hg, hq⟩, harr⟩ := h b (.inScope c :: k) cs hro hb hr
  cases e with
  | normal => exact ⟨.normal, a₁, w₁, hq, .head h0 stepR_scope (StepsIn.trans harr (.one (fenced_calm hb hr rfl) stepR_inScope))⟩
  | exit id =>
    have hx : exitTo id (.inScope c :: k) = exitTo id k := by simp [exitTo]
    exact ⟨.exit id, a₁, w₁, hq, fun k' hk => .head h0 stepR_scope (harr.1 k' (by rw [hx]; exact hk)), fun hr' hk => let ⟨k₁, h1, h2⟩ := harr.2 hr' (by rw [hx]; exact hk); ⟨k₁, h1, .head h0 stepR_scope h2⟩⟩
  | goto l => exact absurd rfl (hg l)
  | ret => exact ⟨_, a₁, w₁, hq, .of_steps (.one h0 stepR_scope) harr⟩
  | panic ch => exact ⟨_, a₁, w₁, hq, .of_steps (.one h0 stepR_scope) harr⟩
  | outgrown => exact ⟨_, a₁, w₁, hq, .of_steps (.one h0 stepR_scope) harr⟩
/-- a loop that is run so and so often -/
theorem wp_loop_fuel {F : Fence} {d : Nat} {P : Pg} {Q : Exit → Act → World → Prop} {c : Code} (R : Nat → Act → World → Prop) (h0 : ∀ a w, ¬ R 0 a w)
    (round : ∀ n a w, R (n + 1) a w → c.wpIn F d P (Exit.then (R n) Q) a w) : ∀ n a w, R n a w → (Code.loop c).wpIn F d P Q a w := by
  intro n a w h b k cs hro hb hr
  have key : ∀ n a w, R n a w → ∃ e a' w', Q e a' w' ∧ ArrivesIn (Machine.fenced P F) P (lone (b.atR a (.code c :: .inLoop c :: k)) cs w) b k cs e a' w' := by
    intro n
    induction n with
    | zero => intro a w h; exact absurd h (h0 a w)
    | succ n ih =>
      intro a w h
      obtain ⟨e, a₁, w₁, hq, harr⟩ := round n a w h b (.inLoop c :: k) cs hro hb hr
      cases e with
      | normal =>
        obtain ⟨e₂, a₂, w₂, hq₂, harr₂⟩ := ih a₁ w₁ hq
        exact ⟨e₂, a₂, w₂, hq₂, .of_steps (StepsIn.trans harr (.one (fenced_calm hb hr rfl) stepR_inLoop)) harr₂⟩
      | exit id => exact ⟨_, a₁, w₁, hq, .pass (x := .inLoop c) rfl (fun _ _ => .inl (by simp)) harr⟩
      | goto l => exact ⟨_, a₁, w₁, hq, .pass (x := .inLoop c) rfl (fun _ _ => .inl (by simp)) harr⟩
      | ret => exact ⟨_, a₁, w₁, hq, .pass (x := .inLoop c) rfl (fun _ _ => .inl (by simp)) harr⟩
      | panic ch => exact ⟨_, a₁, w₁, hq, .pass (x := .inLoop c) rfl (fun _ _ => .inl (by simp)) harr⟩
      | outgrown => exact ⟨_, a₁, w₁, hq, .pass (x := .inLoop c) rfl (fun _ _ => .inl (by simp)) harr⟩
  obtain ⟨e, a', w', hq, harr⟩ := key n a w h
  exact ⟨e, a', w', hq, .of_steps (.one (fenced_calm hb hr rfl) stepR_loop) harr⟩

section
variable {P : Pg} {callF : CallF}

theorem thenN_some {r : Option (AX × St)} {k : St → Option (AX × St)} {x : AX} {s' : St} (h : thenN r k = some (x, s')) :
    (∃ s1, r = some (.normal, s1) ∧ k s1 = some (x, s')) ∨ (r = some (x, s') ∧ x ≠ .normal) := by
  obtain ⟨⟨y, s1⟩, hr, h⟩ := ob_some h
  cases y with
  | normal => exact .inl ⟨s1, hr, h⟩
  | exit id => cases h; exact .inr ⟨hr, by simp⟩
  | goto l => cases h; exact .inr ⟨hr, by simp⟩
  | ret => cases h; exact .inr ⟨hr, by simp⟩
theorem outOf_some {id : Nat} {r : Option (AX × St)} {x : AX} {s' : St} (h : outOf id r = some (x, s')) :
    (r = some (.exit id, s') ∧ x = .normal) ∨ (r = some (x, s') ∧ x ≠ .exit id) := by
  obtain ⟨⟨y, s1⟩, hr, h⟩ := ob_some h
  cases y with
  | normal => cases h; exact .inr ⟨hr, by simp⟩
  | goto l => cases h; exact .inr ⟨hr, by simp⟩
  | ret => cases h; exact .inr ⟨hr, by simp⟩
  | exit id' =>
    have h : bi (Nat.beq id' id) (some (AX.normal, s1)) (some (AX.exit id', s1)) = some (x, s') := h
    rcases bi_some h with ⟨e, h2⟩ | ⟨e, h2⟩
    · cases h2; rw [Nat.eq_of_beq_eq_true e] at hr; exact .inl ⟨hr, rfl⟩
    · cases h2; exact .inr ⟨hr, fun hx => by cases hx; exact Nat.ne_of_beq_eq_false e rfl⟩
theorem CInv.erel {B : Nat} {M : Mp} {rf : Option Nat} {s : St} {a : Act} {w : World} (h : CInv P B M rf s a w) : RRel P M [] s.tm a.tmps s.nt :=
  ⟨h.size, fun t v e => (h.tmps t v e).2⟩
theorem commit_inv {B : Nat} {M M' : Mp} {rf : Option Nat} {s : St} {a a' : Act} {w w' : World} {r : RS} {tm : Tm} (hx : Ext M M') (h : CInv P B M rf s a w) (hr : SInv a.defers P B M' r.loc s.tm s.nt r.hp a' w') (hcm : commit s.kp r.loc s.tm = some tm) :
    CInv P B M' rf ⟨tm, s.kp, s.nt, r.hp, r.nid, s.df, s.rnd⟩ a' w' := by
  refine ⟨by rw [hr.defers]; exact h.defers.ext hx, h.rnd.ext hx, hr.tmps.size, fun t v e => ?_, hr.heap, hr.base_⟩
  simp only at e ⊢
  rw [commit_spec _ _ _ hcm] at e
  split at e
  · rename_i hk; exact ⟨hk, hr.tmps.at_ t v e⟩
  · rename_i hk; exact absurd (h.tmps t v e).1 hk
theorem ok_region (hc : CallOk P callF) (hm : P.prog.follows .mixedOrders = true) {ops : Array Oper} {draw : Bool} {id : Nat} {rec : CodeF} {s s' : St} {x : AX} (h : cRegion ops draw P callF rec s = some (x, s')) :
    s.nid ≤ s'.nid ∧ s'.kp = s.kp ∧ s'.nt = s.nt ∧ ∀ B M rf a w, CInv P B M rf s a w → (∀ id, s.nid ≤ id → id < s'.nid → M id = none) →
      (Code.region id ops draw).wpIn (Fr rf) 0 P (fun e a' w' => ∃ M', e = exitOf x ∧ CInv P B M' rf s' a' w' ∧ Evol M s.hp.get s.nid w M' s'.hp.get s'.nid w') a w := by
  obtain ⟨r, hr, h⟩ := ob_some h
  obtain ⟨tm, htm, h⟩ := ob_some h
  cases h
  cases draw with
  | true =>
    have hr : evDraw P callF ops s.tm s.nt s.hp s.nid = some r := hr
    refine ⟨(ok_draw (ds := []) (rf := none) hc hm hr).1, rfl, rfl, fun B M rf a w hi hf => ?_⟩
    obtain ⟨hle, hrun⟩ := ok_draw (ds := a.defers) (rf := rf) hc hm hr
    exact hrun ⟨rfl, hi.erel, hi.heap, hi.base_⟩ hf (fun M' a' w' hs hev => ⟨M', rfl, commit_inv hev.ext hi hs htm, hev⟩)
  | false =>
    have hr : evSteps P callF ops s.tm s.nt ops.toList ⟨[], s.hp, s.nid⟩ = some r := hr
    refine ⟨le_steps _ _ _ hr, rfl, rfl, fun B M rf a w hi hf => wpIn_region ?_⟩
    have := ok_steps (ds := a.defers) (rf := rf) (Q := fun e a' w' => ∃ M', e = exitOf .normal ∧ CInv P B M' rf ⟨tm, s.kp, s.nt, r.hp, r.nid, s.df, s.rnd⟩ a' w' ∧ Evol M s.hp.get s.nid w M' r.hp.get r.nid w') hc ops.toList 0 ⟨[], s.hp, s.nid⟩ r
      (fun k => by simp) hr (B := B) (M := M) (a := a) (w := w) ⟨rfl, hi.erel, hi.heap, hi.base_⟩ hf (fun M' a' w' hs hev => ⟨M', rfl, commit_inv hev.ext hi hs htm, hev⟩)
    rw [List.range_eq_range']
    simpa using this

/-- a block that is written anew -/
theorem HRel.put {B : Nat} {M : Mp} {g g' : Mem} {w : World} (h : HRel P B M g w) {id b r : Nat} {o : AObj} {o' : Option AObj} {ob : Obj} (hg : g id = some o) (hwr : wrt (some o) = true) (e : M id = some (b, r))
    (ho : ∀ x, o' = some x → ORel P M r x ob) (hg' : ∀ i, g' i = if i = id then o' else g i) : HRel P B M g' (w.putObj b ob) where
  has := fun i x ex => by
    rw [hg'] at ex
    split at ex
    · rename_i hi
      subst hi
      obtain ⟨b', r', ob', e1, e2, e3, _⟩ := h.has i o hg
      rw [e] at e1
      cases e1
      exact ⟨b, r, ob, e, e2, World.putObj_heap_same (Array.getElem?_eq_some_iff.1 e3).1, ho x ex⟩
    · rename_i hi
      obtain ⟨b', r', ob', e1, e2, e3, e4⟩ := h.has i x ex
      refine ⟨b', r', ob', e1, e2, ?_, e4⟩
      rw [World.putObj_heap_other (fun eb => ?_)]
      · exact e3
      · subst eb
        exact hi (h.inj id i b' r r' (by rw [hg]; exact hwr) (by rw [ex]; rfl) e e1).symm
  inj := fun i j b1 r1 r2 hi hj e1 e2 => by
    have key : ∀ k, (g' k).isSome = true → (g k).isSome = true := fun k hk => by
      rw [hg'] at hk
      split at hk
      · rename_i h1; rw [h1, hg]; rfl
      · exact hk
    have keyW : wrt (g i) = true := by
      rw [hg'] at hi
      split at hi
      · rename_i h1; rw [h1, hg]; exact hwr
      · exact hi
    exact h.inj i j b1 r1 r2 keyW (key j hj) e1 e2
  old := fun k c hk => by
    obtain ⟨⟨el2, fr2, h1⟩, h2⟩ := h.old k c hk
    have hne : b ≠ k := fun ek => h2 id r (by rw [hg]; exact hwr) (by rw [← ek]; exact e)
    refine ⟨⟨el2, fr2, by rw [World.putObj_heap_other (fun ek => hne ek.symm)]; exact h1⟩, fun i r1 hi e1 => ?_⟩
    rw [hg'] at hi
    split at hi
    · rename_i hid
      subst hid
      rw [e] at e1
      cases e1
      exact hne rfl
    · exact h2 i r1 hi e1
theorem Evol.put {M : Mp} {g g' : Mem} {w : World} {id b r : Nat} {o : AObj} (ob : Obj) (nid : Nat) (hg : g id = some o) (hwr : wrt (some o) = true) (e : M id = some (b, r)) (hg' : ∀ i, i ≠ id → g' i = g i) : Evol M g nid w M g' nid (w.putObj b ob) where
  os := rfl
  tape := rfl
  output := rfl
  size := by rw [World.putObj_size]; exact Nat.le_refl _
  frame := fun k hk hx => World.putObj_heap_other (fun ek => hx id r (by rw [hg]; exact hwr) (by rw [ek]; exact e))
  fresh := fun i b1 r1 hi ei => .inl ⟨i, r1, by
    by_cases h1 : i = id
    · rw [h1, hg]; rfl
    · rw [hg' i h1] at hi; exact hi, ei⟩
  freshW := fun i b1 r1 hi ei => .inl ⟨i, r1, by
    by_cases h1 : i = id
    · rw [h1, hg]; exact hwr
    · rw [hg' i h1] at hi; exact hi, ei⟩
  ext := Ext.refl _
  dom := fun i hi hm => absurd hi hm
  le := Nat.le_refl _
theorem free_of {M M' : Mp} {g g' : Mem} {n n' k : Nat} {w w' : World} (hev : Evol M g n w M' g' n' w') (hf : ∀ id, n' ≤ id → id < k → M id = none) : ∀ id, n' ≤ id → id < k → M' id = none := fun id k1 k2 => by
  cases e : M' id with
  | none => rfl
  | some z => have := hev.dom id (hf id k1 k2) (by rw [e]; simp); omega

/-- a range over a function, behind the block for deferred calls -/
theorem ok_rangeIn (hc : CallOk P callF) {g : Tgt} {first captured : Array Value} {ps : Array Tmp} {as_ body : Code} {s : St} {d : Nat} {df : List Nat} {hp : T AObj} {l : Nat} {x : AX} {s' : St}
    (h : cRangeIn callF g first captured ps as_ body s d df hp l = some (x, s')) : l < s'.nid ∧ s'.kp = s.kp ∧ s'.nt = s.nt ∧ s'.tm = s.tm ∧ s'.df = df ∧ s'.rnd = s.rnd ∧ ∃ gf, g = .fn gf ∧
    ∀ B M (w : World) (tmps first' captured' : Array Value) (fn : FuncId) (dL dR : Nat), HRel P B M hp.get w → B ≤ w.heap.size → (∀ id, l ≤ id → id < s'.nid → M id = none) →
      tmps.size = s.nt → TRel P M s.kp s.tm tmps → M d = some (dL, dR) → LRel P M first.toList first'.toList → LRel P M captured.toList captured'.toList →
      Calls P gf (first' ++ #[.func (.yield w.heap.size) #[] #[]] ++ captured') (w.alloc (.loop { state := .ready, pending := none, fn, tmps, params := ps, assign := as_, body, defers := dL })) fun e w3 =>
        ∃ v, e = .returned v ∧ ∃ jump w4 M', (Instr.endLoop w.heap.size).run P w3 = .ok jump w4 ∧ (jump = none ∧ x = .normal ∨ jump = some (codeOf x)) ∧ HRel P B M' s'.hp.get w4 ∧ Evol M hp.get l w M' s'.hp.get s'.nid w4 := by
  cases g with
  | yield l => cases h
  | fn gf =>
  obtain ⟨hp1, hset, h⟩ := ob_some h
  obtain ⟨⟨v, hp2, nid2⟩, hcall, h⟩ := ob_some h
  obtain ⟨o, ho, h⟩ := ob_some h
  obtain ⟨st, pend, tm2, kp2, nt2, ps2, as2, bd2, d2, rfl, h⟩ := withLoop_some h
  obtain ⟨hck, h⟩ := ck_some h
  obtain ⟨hp3, hset3, h⟩ := ob_some h
  cases h
  rw [Bool.and_eq_true] at hck
  have hst1 : st ≠ 1 := by
    intro e
    subst e
    cases hck.1
  have hle2 : l + 1 ≤ nid2 := Nat.le_of_ble_eq_true hck.2
  refine ⟨hle2, rfl, rfl, rfl, rfl, rfl, gf, rfl, ?_⟩
  intro B M w tmps first' captured' fn dL dR hh hB hf hsz htm hd hfirst hcapt
  have hM : M l = none := hf l (Nat.le_refl _) hle2
  have hx : Ext M (M.upd l w.heap.size 0) := Mp.upd_ext hM
  have hget := T.get_set _ _ _ _ hset
  obtain ⟨_, hrun⟩ := hc _ _ _ _ _ _ _ hcall
  have hO : ORel P (M.upd l w.heap.size 0) 0 (.loop 0 none s.tm s.kp s.nt ps as_ body d) (.loop { state := .ready, pending := none, fn, tmps, params := ps, assign := as_, body, defers := dL }) :=
    ⟨_, rfl, rfl, rfl, rfl, rfl, rfl, hsz, fun t v e => ⟨(htm t v e).1, (htm t v e).2.imp fun _ k => ⟨k.1, k.2.ext hx⟩⟩, fun _ => rfl, dR, hx _ _ hd⟩
  have hh1 : HRel P B (M.upd l w.heap.size 0) hp1.get (w.alloc (.loop { state := .ready, pending := none, fn, tmps, params := ps, assign := as_, body, defers := dL })) := hh.push hB hM hget rfl hO
  have hev1 : Evol M hp.get l w (M.upd l w.heap.size 0) hp1.get (l + 1) (w.alloc (.loop { state := .ready, pending := none, fn, tmps, params := ps, assign := as_, body, defers := dL })) := Evol.push hh hM hget rfl rfl rfl rfl
  have hargs : LRel P (M.upd l w.heap.size 0) (first.toList ++ (Value.func (.yield l) #[] #[] :: captured.toList)) (first' ++ #[Value.func (.yield w.heap.size) #[] #[]] ++ captured').toList := by
    simp only [Array.toList_append, List.append_assoc, List.singleton_append]
    exact (hfirst.ext hx).append (LRel.cons (.yld (Mp.upd_self _ _ _ _)) (hcapt.ext hx))
  have hfree := free_of (k := nid2) hev1 (fun id k1 k2 => hf id (by omega) k2)
  refine Calls.mono (hrun B (M.upd l w.heap.size 0) _ _ hargs hh1 (Nat.le_trans hB hev1.size) hfree) ?_
  rintro e w3 ⟨M2, v', rfl, hvr, hh2, hev2⟩
  have hMl : M2 l = some (w.heap.size, 0) := hev2.ext _ _ (Mp.upd_self _ _ _ _)
  obtain ⟨b, r, ob, e1, e2, e3, e4⟩ := hh2.has l _ ho
  rw [hMl] at e1
  cases e1
  obtain ⟨L, rfl, h1, h2, _⟩ := e4
  have hbusy : L.state ≠ .busy := by
    rw [h1]
    unfold stateIs
    by_cases h0 : st = 0
    · simp [h0]
    · simp [h0, hst1]
  refine ⟨v', rfl, L.pending, _, M2, run_endLoop e3 hbusy, ?_, hh2.put ho rfl hMl (fun x hx => by cases hx) (T.get_set _ _ _ _ hset3), hev1.trans (hev2.trans (Evol.put _ _ ho rfl hMl fun i hi => by rw [T.get_set _ _ _ _ hset3, if_neg hi]))⟩
  rw [h2]
  cases pend with
  | none => exact .inl ⟨rfl, rfl⟩
  | some y => exact .inr rfl

theorem wpIn_codeOf {F : Fence} {n : Nat} {Q : Exit → Act → World → Prop} {a : Act} {w : World} {x : AX} (h : Q (exitOf x) a w) : (codeOf x).wpIn F n P Q a w := by
  cases x with
  | normal => exact wpIn_skip h
  | exit id => exact wpIn_exit h
  | goto l => exact wpIn_goto h
  | ret => exact wpIn_ret h

theorem ok_range (hc : CallOk P callF) {f : Operand} {ps : Array Tmp} {as_ body : Code} {rec : CodeF} {s s' : St} {x : AX} (h : cRange f ps as_ body P callF rec s = some (x, s')) :
    s.nid ≤ s'.nid ∧ s'.kp = s.kp ∧ s'.nt = s.nt ∧ ∀ B M rf a w, CInv P B M rf s a w → (∀ id, s.nid ≤ id → id < s'.nid → M id = none) →
      (Code.rangeFunc f ps as_ body).wpIn (Fr rf) 0 P (fun e a' w' => ∃ M', e = exitOf x ∧ CInv P B M' rf s' a' w' ∧ Evol M s.hp.get s.nid w M' s'.hp.get s'.nid w') a w := by
  obtain ⟨v, hv, h⟩ := ob_some h
  have hfnv := withFn_some h
  clear h
  rcases hfnv with ⟨g, first, captured, rfl, h1⟩ | ⟨l, first, captured, rfl, h1⟩
  · obtain ⟨hcb, h2⟩ := ck_some h1
    have hcb : callable P g = true := hcb
    clear h1
    have hres : ∀ (a : Act) (a' c' : Array Value) (L : Nat) (w : World), a.eval f = .func (.func g) a' c' →
        (resolve a.eval (rangeCall f L) 0).run P w = .ok { target := .fn (.func g) c', args := a' ++ #[.func (.yield L) #[] #[]] } w := by
      intro a a' c' L w hy
      simp only [resolve, hy]
      simp [go_sem]
    have hinv : ∀ (a' c' : Array Value) (L : Nat) (w : World), (invoke (.fn (.func g) c') (a' ++ #[.func (.yield L) #[] #[]])).run P w = .ok (.enter g (a' ++ #[.func (.yield L) #[] #[]] ++ c')) w := by
      intro a' c' L w
      simp only [invoke, run_callFunc hcb]
    cases hr : s.rnd with
    | none =>
      rw [hr] at h2
      obtain ⟨hp1, hset, h3⟩ := ob_some h2
      obtain ⟨a1, a2, a3, a4, a5, a6, gf, hgf, hrun⟩ := ok_rangeIn hc h3
      cases hgf
      refine ⟨by omega, a2, a3, fun B M rf a w hi hf => ?_⟩
      have hrd := hi.rnd
      rw [hr] at hrd
      cases rf with
      | some l' => exact hrd.elim
      | none =>
      have hval := hi.erel.erel f _ hv
      cases hy : a.eval f with
      | func fv a' c' =>
        rw [hy] at hval
        cases hval with
        | func _ ha k1 hcs k2 =>
        have r1 : LRel P M first.toList a'.toList := lrel_arr.2 ⟨ha, k1⟩
        have r2 : LRel P M captured.toList c'.toList := lrel_arr.2 ⟨hcs, k2⟩
        have hM : M s.nid = none := hf _ (Nat.le_refl _) (by omega)
        have hx : Ext M (M.upd s.nid w.heap.size 0) := Mp.upd_ext hM
        have hget := T.get_set _ _ _ _ hset
        have hh1 : HRel P B (M.upd s.nid w.heap.size 0) hp1.get (w.alloc (.deferred (some []))) := hi.heap.push hi.base_ hM hget rfl rfl
        have hev1 : Evol M s.hp.get s.nid w (M.upd s.nid w.heap.size 0) hp1.get (s.nid + 1) (w.alloc (.deferred (some []))) := Evol.push hi.heap hM hget rfl rfl rfl rfl
        have hsz : (w.alloc (.deferred (some []))).heap.size = w.heap.size + 1 := by simp
        refine wpIn_rangeFunc fun fn _ => ?_
        have hk := hrun B (M.upd s.nid w.heap.size 0) (w.alloc (.deferred (some []))) a.tmps a' c' fn w.heap.size 0 hh1 (Nat.le_trans hi.base_ hev1.size) (free_of hev1 fun id e1 e2 => hf id (by omega) e2) hi.size
          (fun t v e => ⟨(hi.tmps t v e).1, (hi.tmps t v e).2.imp fun _ k => ⟨k.1, k.2.ext hx⟩⟩) (Mp.upd_self _ _ _ _) (r1.ext hx) (r2.ext hx)
        rw [hsz] at hk
        refine ⟨w.heap.size + 1, _, _, _, _, g, _, _, run_enterLoop_outer fn a.tmps ps as_ body, hres a a' c' _ _ hy, fun _ _ => Fr_fn _ _, hinv a' c' _ _, fun hd => (by rw [Fr_depth] at hd; cases hd), (callsIn_fr none hk).mono ?_⟩
        rintro e w3 ⟨v, rfl, jump, w4, M', hend, hj, hh, hev⟩
        have hfin : ∃ M', exitOf x = exitOf x ∧ CInv P B M' none s' { a with defers := [{ target := .collected w.heap.size, args := #[] }] ++ a.defers } w4 ∧ Evol M s.hp.get s.nid w M' s'.hp.get s'.nid w4 := by
          have hext := hx.trans hev.ext
          refine ⟨M', rfl, ⟨?_, ?_, by rw [a3]; exact hi.size, fun t v e => ?_, hh, Nat.le_trans hi.base_ (Nat.le_trans hev1.size hev.size)⟩, hev1.trans hev⟩
          · rw [a5]; exact .cons (hev.ext _ _ (Mp.upd_self _ _ _ _)) (hi.defers.ext hext)
          · rw [a6, hr]; trivial
          · rw [a4] at e
            rw [a2]
            exact ⟨(hi.tmps t v e).1, (hi.tmps t v e).2.imp fun _ k => ⟨k.1, k.2.ext hext⟩⟩
        refine ⟨jump, w4, hend, ?_⟩
        rcases hj with ⟨rfl, rfl⟩ | rfl
        · exact hfin
        · exact wpIn_codeOf hfin
      | _ => rw [hy] at hval; cases hval
    | some l0 =>
      rw [hr] at h2
      obtain ⟨o, ho, h2b⟩ := ob_some h2
      obtain ⟨st0, pend0, tm0, kp0, nt0, ps0, as0, bd0, d0, rfl, h3⟩ := withLoop_some h2b
      obtain ⟨a1, a2, a3, a4, a5, a6, gf, hgf, hrun⟩ := ok_rangeIn hc h3
      cases hgf
      refine ⟨by omega, a2, a3, fun B M rf a w hi hf => ?_⟩
      have hrd := hi.rnd
      rw [hr] at hrd
      cases rf with
      | none => exact hrd.elim
      | some l' =>
      obtain ⟨rr, hMl⟩ := hrd
      obtain ⟨b0, r0, ob0, e1, e2, e3, e4⟩ := hi.heap.has l0 _ ho
      rw [hMl] at e1
      cases e1
      obtain ⟨L0, rfl, _, _, _, _, _, _, _, _, r', hd⟩ := e4
      have hval := hi.erel.erel f _ hv
      cases hy : a.eval f with
      | func fv a' c' =>
        rw [hy] at hval
        cases hval with
        | func _ ha k1 hcs k2 =>
        have r1 : LRel P M first.toList a'.toList := lrel_arr.2 ⟨ha, k1⟩
        have r2 : LRel P M captured.toList c'.toList := lrel_arr.2 ⟨hcs, k2⟩
        refine wpIn_rangeFunc fun fn _ => ?_
        rw [Fr_round]
        have hk := hrun B M w a.tmps a' c' fn L0.defers r' hi.heap hi.base_ hf hi.size hi.tmps hd r1 r2
        refine ⟨w.heap.size, _, _, _, _, g, _, _, run_enterLoop_inner e3 fn a.tmps ps as_ body, hres a a' c' _ _ hy, fun _ _ => Fr_fn _ _, hinv a' c' _ _, fun hd => (by rw [Fr_depth] at hd; cases hd), (callsIn_fr (some l') hk).mono ?_⟩
        rintro e w3 ⟨v, rfl, jump, w4, M', hend, hj, hh, hev⟩
        have hfin : ∃ M', exitOf x = exitOf x ∧ CInv P B M' (some l') s' { a with defers := [] ++ a.defers } w4 ∧ Evol M s.hp.get s.nid w M' s'.hp.get s'.nid w4 := by
          refine ⟨M', rfl, ⟨?_, ?_, by rw [a3]; exact hi.size, fun t v e => ?_, hh, Nat.le_trans hi.base_ hev.size⟩, hev⟩
          · rw [a5]; exact hi.defers.ext hev.ext
          · rw [a6, hr]; exact ⟨rr, hev.ext _ _ hMl⟩
          · rw [a4] at e
            rw [a2]
            exact ⟨(hi.tmps t v e).1, (hi.tmps t v e).2.imp fun _ k => ⟨k.1, k.2.ext hev.ext⟩⟩
        refine ⟨jump, w4, hend, ?_⟩
        rcases hj with ⟨rfl, rfl⟩ | rfl
        · exact hfin
        · exact wpIn_codeOf hfin
      | _ => rw [hy] at hval; cases hval
  · obtain ⟨hcb, h2⟩ := ck_some h1
    clear h1
    exfalso
    cases hr : s.rnd with
    | none =>
      rw [hr] at h2
      obtain ⟨hp1, hset, h3⟩ := ob_some h2
      cases h3
    | some l0 =>
      rw [hr] at h2
      obtain ⟨o, ho, h2b⟩ := ob_some h2
      obtain ⟨st0, pend0, tm0, kp0, nt0, ps0, as0, bd0, d0, rfl, h3⟩ := withLoop_some h2b
      cases h3

theorem evC_succ (n : Nat) (c : Code) (s : St) : evC P callF (n + 1) c s = codeSel c P callF (evC P callF n) s := rfl

theorem code_ok (hc : CallOk P callF) (hm : P.prog.follows .mixedOrders = true) (n : Nat) : CodeOk P (evC P callF n) := by
  induction n using Nat.strongRecOn with
  | _ n ih =>
  cases n with
  | zero => intro c s x s' h; cases h
  | succ n =>
    have ihn : CodeOk P (evC P callF n) := ih n (Nat.lt_succ_self n)
    intro c s x s' h
    rw [evC_succ] at h
    have out : ∀ {y : AX}, (some (y, s) : Option (AX × St)) = some (x, s') → (∀ rf (Q : Exit → Act → World → Prop) a w, Q (exitOf y) a w → c.wpIn (Fr rf) 0 P Q a w) →
        s.nid ≤ s'.nid ∧ s'.kp = s.kp ∧ s'.nt = s.nt ∧ ∀ B M rf a w, CInv P B M rf s a w → (∀ id, s.nid ≤ id → id < s'.nid → M id = none) →
          c.wpIn (Fr rf) 0 P (fun e a' w' => ∃ M', e = exitOf x ∧ CInv P B M' rf s' a' w' ∧ Evol M s.hp.get s.nid w M' s'.hp.get s'.nid w') a w := by
      intro y hy hwp
      cases hy
      exact ⟨Nat.le_refl _, rfl, rfl, fun B M rf a w hi _ => hwp rf _ a w ⟨M, rfl, hi, Evol.refl _ _ _ _⟩⟩
    cases c with
    | skip => exact out h fun rf Q a w hq => wpIn_skip hq
    | label l => exact out h fun rf Q a w hq => wpIn_label hq
    | ret => exact out h fun rf Q a w hq => wpIn_ret hq
    | exit id => exact out h fun rf Q a w hq => wpIn_exit hq
    | goto l => exact out h fun rf Q a w hq => wpIn_goto hq
    | scope c =>
      have h : cScope c P callF (evC P callF n) s = some (x, s') := h
      obtain ⟨⟨y, s1⟩, hr, h2⟩ := ob_some h
      have hy : y = x ∧ s1 = s' ∧ ∀ l, x ≠ .goto l := by cases y <;> cases h2 <;> exact ⟨rfl, rfl, by simp⟩
      obtain ⟨rfl, rfl, hg⟩ := hy
      obtain ⟨a1, a2, a3, a4⟩ := ihn _ _ _ _ hr
      refine ⟨a1, a2, a3, fun B M rf a w hi hf => wpIn_scope (wpIn_mono (a4 B M rf a w hi hf) ?_)⟩
      rintro e a' w' ⟨M', rfl, hi', hev⟩
      refine ⟨?_, M', rfl, hi', hev⟩
      cases y with
      | goto l => exact absurd rfl (hg l)
      | normal => intro l e; cases e
      | exit id => intro l e; cases e
      | ret => intro l e; cases e
    | refuse why => cases h
    | rangeFunc f ps as_ body => exact ok_range (rec := evC P callF n) hc h
    | region id ops draw => exact ok_region (rec := evC P callF n) hc hm h
    | seq c1 c2 =>
      have h : thenN (evC P callF n c1 s) (evC P callF n c2) = some (x, s') := h
      rcases thenN_some h with ⟨s1, h1, h2⟩ | ⟨h1, hne⟩
      · obtain ⟨a1, a2, a3, a4⟩ := ihn _ _ _ _ h1
        obtain ⟨b1, b2, b3, b4⟩ := ihn _ _ _ _ h2
        refine ⟨Nat.le_trans a1 b1, b2.trans a2, b3.trans a3, fun B M rf a w hi hf => wpIn_seq (wpIn_mono (a4 B M rf a w hi fun id k1 k2 => hf id k1 (by omega)) ?_)⟩
        rintro e a' w' ⟨M', rfl, hi', hev⟩
        refine wpIn_mono (b4 B M' rf a' w' hi' fun id k1 k2 => ?_) ?_
        · cases e : M' id with
          | none => rfl
          | some z => have := hev.dom id (hf id (by omega) k2) (by rw [e]; simp); omega
        · rintro e a2 w2 ⟨M2, rfl, hi2, hev2⟩
          exact ⟨M2, rfl, hi2, hev.trans hev2⟩
      · obtain ⟨a1, a2, a3, a4⟩ := ihn _ _ _ _ h1
        refine ⟨a1, a2, a3, fun B M rf a w hi hf => wpIn_seq (wpIn_mono (a4 B M rf a w hi hf) ?_)⟩
        rintro e a' w' ⟨M', rfl, hi', hev⟩
        cases x with
        | normal => exact absurd rfl hne
        | exit id => exact ⟨M', rfl, hi', hev⟩
        | goto l => exact ⟨M', rfl, hi', hev⟩
        | ret => exact ⟨M', rfl, hi', hev⟩
    | cond c x1 y1 =>
      have h : condV (evX [] s.tm c) (evC P callF n x1 s) (evC P callF n y1 s) = some (x, s') := h
      obtain ⟨v, hv, h⟩ := ob_some h
      cases v with
      | bool b =>
        have h : bi b (evC P callF n x1 s) (evC P callF n y1 s) = some (x, s') := h
        have hev : ∀ B M rf a w, CInv P B M rf s a w → a.eval c = .bool b := fun B M rf a w hi => by
          have := hi.erel.erel c _ hv
          generalize a.eval c = z at this
          cases this
          rfl
        rcases bi_some h with ⟨e, h2⟩ | ⟨e, h2⟩ <;> clear h <;> subst e
        · obtain ⟨a1, a2, a3, a4⟩ := ihn _ _ _ _ h2
          exact ⟨a1, a2, a3, fun B M rf a w hi hf => wpIn_cond_true (hev B M rf a w hi) (a4 B M rf a w hi hf)⟩
        · obtain ⟨a1, a2, a3, a4⟩ := ihn _ _ _ _ h2
          exact ⟨a1, a2, a3, fun B M rf a w hi hf => wpIn_cond_false (hev B M rf a w hi) (a4 B M rf a w hi hf)⟩
      | _ => cases h
    | block id c =>
      have h : outOf id (evC P callF n c s) = some (x, s') := h
      rcases outOf_some h with ⟨h1, rfl⟩ | ⟨h1, hne⟩
      · obtain ⟨a1, a2, a3, a4⟩ := ihn _ _ _ _ h1
        refine ⟨a1, a2, a3, fun B M rf a w hi hf => wpIn_block (wpIn_mono (a4 B M rf a w hi hf) ?_)⟩
        rintro e a' w' ⟨M', rfl, hi', hev⟩
        show (if id = id then _ else _)
        rw [if_pos rfl]
        exact ⟨M', rfl, hi', hev⟩
      · obtain ⟨a1, a2, a3, a4⟩ := ihn _ _ _ _ h1
        refine ⟨a1, a2, a3, fun B M rf a w hi hf => wpIn_block (wpIn_mono (a4 B M rf a w hi hf) ?_)⟩
        rintro e a' w' ⟨M', rfl, hi', hev⟩
        cases x with
        | normal => exact ⟨M', rfl, hi', hev⟩
        | goto l => exact ⟨M', rfl, hi', hev⟩
        | ret => exact ⟨M', rfl, hi', hev⟩
        | exit id' =>
          show (if id' = id then _ else _)
          rw [if_neg (fun e => hne (by rw [e]))]
          exact ⟨M', rfl, hi', hev⟩
    | loop c =>
      have hle : ∀ m, m ≤ n + 1 → ∀ s1, evC P callF m (.loop c) s1 = some (x, s') → s1.nid ≤ s'.nid ∧ s'.kp = s1.kp ∧ s'.nt = s1.nt := by
        intro m
        induction m with
        | zero => intro _ s1 h1; cases h1
        | succ m ihm =>
          intro hmn s1 h1
          have h1 : thenN (evC P callF m c s1) (evC P callF m (.loop c)) = some (x, s') := h1
          rcases thenN_some h1 with ⟨s2, h2, h3⟩ | ⟨h2, _⟩
          · obtain ⟨a1, a2, a3, _⟩ := ih m (by omega) _ _ _ _ h2
            obtain ⟨b1, b2, b3⟩ := ihm (by omega) s2 h3
            exact ⟨Nat.le_trans a1 b1, b2.trans a2, b3.trans a3⟩
          · obtain ⟨a1, a2, a3, _⟩ := ih m (by omega) _ _ _ _ h2
            exact ⟨a1, a2, a3⟩
      have h : evC P callF (n + 1) (.loop c) s = some (x, s') := h
      obtain ⟨l1, l2, l3⟩ := hle (n + 1) (Nat.le_refl _) s h
      refine ⟨l1, l2, l3, fun B M rf a w hi hf => ?_⟩
      refine wp_loop_fuel (fun m a1 w1 => m ≤ n + 1 ∧ ∃ s1 M1, evC P callF m (.loop c) s1 = some (x, s') ∧ CInv P B M1 rf s1 a1 w1 ∧ Evol M s.hp.get s.nid w M1 s1.hp.get s1.nid w1 ∧ ∀ id, s1.nid ≤ id → id < s'.nid → M1 id = none)
        (fun a1 w1 hx => by obtain ⟨_, s1, M1, h1, _⟩ := hx; cases h1) (fun m a1 w1 hx => ?_) (n + 1) a w ⟨Nat.le_refl _, s, M, h, hi, Evol.refl _ _ _ _, hf⟩
      obtain ⟨hmn, s1, M1, h1, hi1, hev1, hf1⟩ := hx
      have h1 : thenN (evC P callF m c s1) (evC P callF m (.loop c)) = some (x, s') := h1
      rcases thenN_some h1 with ⟨s2, h2, h3⟩ | ⟨h2, hne⟩
      · obtain ⟨a1', a2, a3, a4⟩ := ih m (by omega) _ _ _ _ h2
        have hl := (hle m (by omega) s2 h3).1
        refine wpIn_mono (a4 B M1 rf a1 w1 hi1 fun id k1 k2 => hf1 id k1 (by omega)) ?_
        rintro e a2 w2 ⟨M2, rfl, hi2, hev2⟩
        refine ⟨by omega, s2, M2, h3, hi2, hev1.trans hev2, fun id k1 k2 => ?_⟩
        cases e : M2 id with
        | none => rfl
        | some z => have := hev2.dom id (hf1 id (by omega) k2) (by rw [e]; simp); omega
      · obtain ⟨a1', a2, a3, a4⟩ := ih m (by omega) _ _ _ _ h2
        refine wpIn_mono (a4 B M1 rf a1 w1 hi1 hf1) ?_
        rintro e a2 w2 ⟨M2, rfl, hi2, hev2⟩
        cases x with
        | normal => exact absurd rfl hne
        | exit id => exact ⟨M2, rfl, hi2, hev1.trans hev2⟩
        | goto l => exact ⟨M2, rfl, hi2, hev1.trans hev2⟩
        | ret => exact ⟨M2, rfl, hi2, hev1.trans hev2⟩
end
end Sy
end Go.Proofs.Ytlmnhlmgbcpclaa

set_option linter.unusedSimpArgs false
set_option linter.unusedVariables false
namespace Go.Proofs.Ytlmnhlmgbcpclaa
namespace Sy
variable {P : Pg}

section
variable {P : Pg} {callF : CallF}

theorem setAll_spec {kp : Nat} : ∀ (l : List Value) (i t : Nat) (v : Value), agt (setAll kp l i) t = some v → kept kp t = true ∧ ∃ k, t = i + k ∧ l[k]? = some v
  | [], i, t, v, h => by cases h
  | x :: l, i, t, v, h => by
    have h' : agt (bi (kept kp i) ((i, x) :: setAll kp l (i + 1)) (setAll kp l (i + 1))) t = some v := h
    rw [bi_if] at h'
    split at h'
    · rename_i hk
      rw [agt_cons] at h'
      split at h'
      · rename_i e
        cases h'
        simp only at e
        subst e
        exact ⟨hk, 0, rfl, rfl⟩
      · obtain ⟨k1, k, k2, k3⟩ := setAll_spec l (i + 1) t v h'
        exact ⟨k1, k + 1, by omega, by simpa using k3⟩
    · obtain ⟨k1, k, k2, k3⟩ := setAll_spec l (i + 1) t v h'
      exact ⟨k1, k + 1, by omega, by simpa using k3⟩

def resSem (a : Act) : ResultVar → Sem Value
  | .tmp t => pure (a.tmps.getD t undef)
  | .cell c t => do loadVar t (← asAddr (a.tmps.getD c undef))
theorem results_spec {B kp : Nat} {M : Mp} {tm : Tm} {hp : T AObj} {a : Act} {w : World} (ht : TRel P M kp tm a.tmps) (hh : HRel P B M hp.get w) : ∀ (l : List ResultVar) (vs : List Value), evResults P tm hp l = some vs →
    ∃ vs', (l.mapM (resSem a)).run P w = .ok vs' w ∧ LRel P M vs vs'
  | [], vs, h => by cases h; exact ⟨[], by simp [List.mapM_nil], LRel.nil M⟩
  | r :: l, vs, h => by
    have h' : (ob (evResult P tm hp r) fun v => ob (evResults P tm hp l) fun l => some (v :: l)) = some vs := h
    obtain ⟨v, hv, h'⟩ := ob_some h'
    obtain ⟨us, hu, h'⟩ := ob_some h'
    cases h'
    obtain ⟨us', k1, k2⟩ := results_spec ht hh l us hu
    cases r with
    | tmp t =>
      have hv : agt tm t = some v := hv
      obtain ⟨_, v', e', hr⟩ := ht t v hv
      refine ⟨v' :: us', ?_, LRel.cons hr k2⟩
      have e2 : a.tmps.getD t undef = v' := by simp [e']
      simp only [List.mapM_cons, resSem, Sem.run_bind, Sem.run_pure, Result.andThen_ok, e2, k1]
    | cell c t =>
      have hv : (ob (agt tm c) fun v => ob (ptrW v) fun p => loadO P (hp.get p.1) t p.2) = some v := hv
      obtain ⟨p, hpp, hv⟩ := ob_some hv
      obtain ⟨q, hq, hv⟩ := ob_some hv
      obtain ⟨_, p', e', hr⟩ := ht c _ hpp
      obtain ⟨b', r', o', ep, hb, hoff⟩ := ptrW_rel hq hr
      subst ep
      obtain ⟨v', e1, hr1⟩ := run_loadO hh hb hoff (fun x hx => hx) hv
      refine ⟨v' :: us', ?_, LRel.cons hr1 k2⟩
      have e2 : a.tmps.getD c undef = .pointer (some ⟨b', o', none⟩) := by rw [Array.getD_eq_getD_getElem?, e']; rfl
      simp only [List.mapM_cons, resSem, Sem.run_bind, Sem.run_pure, Result.andThen_ok, e2, asAddr, e1, k1]
theorem tupled_rel {M : Mp} {l l' : List Value} (h : LRel P M l l') : VRel P M (tupled l) (if hs : l'.toArray.size = 1 then l'.toArray[0] else .tuple l'.toArray) := by
  match l, l', h with
  | [], [], h => exact LRel.tup h
  | [v], [v'], h => exact h.head
  | [], _ :: _, h => simp [LRel] at h
  | _ :: _, [], h => simp [LRel] at h
  | [_], _ :: _ :: _, h => simp [LRel] at h
  | _ :: _ :: _, [_], h => simp [LRel] at h
  | v :: u :: l, v' :: u' :: l', h =>
    rw [dif_neg (by simp)]
    exact LRel.tup (by simpa using h)

theorem leaves_ok {B : Nat} {fn : Func} {tmps : Array Value} {R : Ending → World → Prop} {M : Mp} {df : List Nat} {ds : List Deferred} (hd : MRel M df ds) : ∀ (hp hp' : T AObj) (nid : Nat) (w : World), HRel P B M hp.get w →
    delAll df hp = some hp' → (∀ w', HRel P B M hp'.get w' → Evol M hp.get nid w M hp'.get nid w' → LeavesIn Fence.wide 0 P fn tmps R [] .returning w') → LeavesInM Fence.wide 0 P fn tmps R ds .returning w := by
  induction hd with
  | nil =>
    intro hp hp' nid w hh h hk
    cases h
    exact hk w hh (Evol.refl _ _ _ _)
  | cons hM hs ih =>
    intro hp hp' nid w hh h hk
    rename_i d b r df ds
    have h0 : (ob (hp.get d) fun o => match o with
      | .dfr => ob (hp.set d none) fun hp => delAll df hp
      | _ => none) = some hp' := h
    obtain ⟨o, ho, h1⟩ := ob_some h0
    cases o with
    | dfr =>
      obtain ⟨hp1, hset, h2⟩ := ob_some h1
      obtain ⟨b', r', ob', e1, e2, e3, e4⟩ := hh.has d _ ho
      rw [hM] at e1
      cases e1
      have e4 : ob' = .deferred (some []) := e4
      subst e4
      have hget := T.get_set _ _ _ _ hset
      refine ⟨by simp, .inl ⟨b, _, rfl, run_takeDeferred e3, ?_⟩⟩
      refine ih hp1 hp' nid _ (hh.put ho rfl hM (fun x hx => by cases hx) hget) h2 fun w' hh' hev => hk w' hh' ((Evol.put _ nid ho rfl hM fun i hi => by rw [hget, if_neg hi]).trans hev)
    | row c e p => cases h1
    | opq k l => cases h1
    | win c => cases h1
    | loop st pend tm kp nt ps as_ body d => cases h1

theorem ok_body {rec : CodeF} (hc : CodeOk P rec) {f : FuncId} {x : Func × Code} (hx : bodyOf P f = some x) {args : List Value} {hp : T AObj} {nid : Nat} {v : Value} {hp' : T AObj} {nid' : Nat}
    (h : runBody P rec x args hp nid = some (v, hp', nid')) : nid ≤ nid' ∧ ∀ B M (args' : Array Value) w, LRel P M args args'.toList → HRel P B M hp.get w → B ≤ w.heap.size → (∀ id, nid ≤ id → id < nid' → M id = none) →
    Calls P f args' w fun e w' => ∃ M' v', e = .returned v' ∧ VRel P M' v v' ∧ HRel P B M' hp'.get w' ∧ Evol M hp.get nid w M' hp'.get nid' w' := by
  obtain ⟨hlen, h⟩ := ck_some h
  obtain ⟨⟨y, s'⟩, hr, h⟩ := ob_some h
  obtain ⟨hl, h⟩ := ck_some h
  obtain ⟨hp2, hdel, h⟩ := ob_some h
  obtain ⟨l, hres, h⟩ := ob_some h
  cases h
  have hlen := Nat.le_of_ble_eq_true hlen
  obtain ⟨a1, a2, a3, a4⟩ := hc _ _ _ _ hr
  refine ⟨a1, fun B M args' w hargs hh hB hf => ?_⟩
  obtain ⟨hfn, hbody⟩ := bodyOf_some hx
  refine (callsIn_wide (n := 0)).1 (callsIn_of_wp_marks (F := Fence.wide) (n := 0) hfn hbody trivial (wpIn_mono (a4 B M none _ w ⟨.nil, trivial, ?_, ?_, hh, hB⟩ hf) ?_))
  · have := hargs.1
    simp at this ⊢
    omega
  · intro t u e
    obtain ⟨k1, k, k2, k3⟩ := setAll_spec _ _ _ _ e
    simp only [Nat.zero_add] at k2
    subst k2
    obtain ⟨u', e', hru⟩ := hargs.get k3
    refine ⟨k1, u', ?_, hru⟩
    have hlt := (List.getElem?_eq_some_iff.1 e').1
    simp only
    rw [Array.getElem?_append_left (by simpa using hlt)]
    simpa using e'
  · rintro e a' w' ⟨M', rfl, hi, hev⟩
    have hb : LeavesInM Fence.wide 0 P x.1 a'.tmps (fun e w' => ∃ M' v', e = .returned v' ∧ VRel P M' (tupled l) v' ∧ HRel P B M' hp'.get w' ∧ Evol M hp.get nid w M' hp'.get s'.nid w') a'.defers .returning w' := by
      refine leaves_ok hi.defers s'.hp hp' s'.nid w' hi.heap hdel fun w2 hh2 hev2 => ?_
      obtain ⟨vs', k1, k2⟩ := results_spec (a := a') hi.tmps hh2 _ _ hres
      have hres' : (results x.1 a'.tmps).run P w2 = .ok (if hs : vs'.toArray.size = 1 then vs'.toArray[0] else .tuple vs'.toArray) w2 := by
        have e0 : results x.1 a'.tmps = (do let vs ← x.1.results.mapM (resSem a'); pure (if h : vs.size = 1 then vs[0] else .tuple vs)) := by
          have hg : ∀ g : ResultVar → Sem Value, g = resSem a' → (do let vs ← x.1.results.mapM g; pure (if h : vs.size = 1 then vs[0] else .tuple vs) : Sem Value) = (do let vs ← x.1.results.mapM (resSem a'); pure (if h : vs.size = 1 then vs[0] else .tuple vs)) := by
            rintro g rfl; rfl
          exact hg _ (by funext r; cases r <;> rfl)
        rw [e0, Sem.run_bind, Array.mapM_eq_mapM_toList, Sem.run_map, k1]
        rfl
      exact ⟨_, hres', M', _, rfl, tupled_rel k2, hh2, hev.trans hev2⟩
    cases y with
    | normal => exact hb
    | ret => exact hb
    | exit id => cases hl
    | goto l => cases hl

theorem setPs_spec {kp nt : Nat} {M : Mp} : ∀ (ps : List Tmp) (vs : List Value) (tm tm' : Tm) (vs' : List Value) (tmps : Array Value), setPs kp nt ps vs tm = some tm' → LRel P M vs vs' → tmps.size = nt → TRel P M kp tm tmps →
    ps.length = vs'.length ∧ ((ps.zip vs').foldl (fun (t : Array Value) (p : Tmp × Value) => t.setIfInBounds p.1 p.2) tmps).size = nt ∧ TRel P M kp tm' ((ps.zip vs').foldl (fun (t : Array Value) (p : Tmp × Value) => t.setIfInBounds p.1 p.2) tmps)
  | [], [], tm, tm', vs', tmps, h, hv, hs, ht => by
    cases vs' with
    | nil => cases h; exact ⟨rfl, hs, ht⟩
    | cons => simp [LRel] at hv
  | [], _ :: _, tm, tm', vs', tmps, h, _, _, _ => by cases h
  | _ :: _, [], tm, tm', vs', tmps, h, _, _, _ => by cases h
  | p :: ps, v :: vs, tm, tm', vs', tmps, h, hv, hs, ht => by
    cases vs' with
    | nil => simp [LRel] at hv
    | cons v' vs' =>
      unfold setPs at h
      split at h
      · rename_i hp
        have hp := Nat.le_of_ble_eq_true hp
        have hset : ∀ t u, tmps[t]? = some u → t ≠ p → (tmps.setIfInBounds p v')[t]? = some u := fun t u e ne => by rw [Array.getElem?_setIfInBounds_ne (Ne.symm ne)]; exact e
        have hsz : (tmps.setIfInBounds p v').size = nt := by simpa using hs
        split at h
        · rename_i hk
          have := setPs_spec ps vs ((p, v) :: tm) tm' vs' (tmps.setIfInBounds p v') h hv.tail hsz (fun t u e => by
            rw [agt_cons] at e
            split at e
            · rename_i e1
              subst e1
              cases e
              exact ⟨hk, v', by rw [Array.getElem?_setIfInBounds_self_of_lt (by omega)], hv.head⟩
            · rename_i e1
              obtain ⟨k1, u', k2, k3⟩ := ht t u e
              exact ⟨k1, u', hset t u' k2 (fun e2 => e1 e2.symm), k3⟩)
          simpa using this
        · rename_i hk
          have := setPs_spec ps vs tm tm' vs' (tmps.setIfInBounds p v') h hv.tail hsz (fun t u e => by
            obtain ⟨k1, u', k2, k3⟩ := ht t u e
            exact ⟨k1, u', hset t u' k2 (fun e2 => by rw [e2] at k1; rw [k1] at hk; cases hk), k3⟩)
          simpa using this
      · cases h
theorem setLoop_some {hp hp' : T AObj} {l st : Nat} {pend : Option AX} (h : setLoop hp l st pend = some hp') : ∃ st0 pend0 tm kp nt ps as_ body d, hp.get l = some (.loop st0 pend0 tm kp nt ps as_ body d) ∧
    ∀ i, hp'.get i = if i = l then some (.loop st pend tm kp nt ps as_ body d) else hp.get i := by
  obtain ⟨o, ho, h⟩ := ob_some h
  obtain ⟨st0, pend0, tm, kp, nt, ps, as_, body, d, rfl, h⟩ := withLoop_some h
  exact ⟨st0, pend0, tm, kp, nt, ps, as_, body, d, ho, T.get_set _ _ _ _ h⟩

/-- one round of a range over a function -/
theorem ok_round {rec : CodeF} (hc : CodeOk P rec) {l : Nat} {args : List Value} {hp : T AObj} {nid : Nat} {v : Value} {hp' : T AObj} {nid' : Nat} (h : runRound rec l args hp nid = some (v, hp', nid')) : nid ≤ nid' ∧
    ∀ B M (args' : Array Value) w, LRel P M args args'.toList → HRel P B M hp.get w → B ≤ w.heap.size → (∀ id, nid ≤ id → id < nid' → M id = none) →
    CallsT P M (.yield l) args' w fun e w' => ∃ M' v', e = .returned v' ∧ VRel P M' v v' ∧ HRel P B M' hp'.get w' ∧ Evol M hp.get nid w M' hp'.get nid' w' := by
  obtain ⟨o, ho, h⟩ := ob_some h
  obtain ⟨st0, pend0, tm0, kp, nt, ps, as_, body, d, rfl, h⟩ := withLoop_some h
  obtain ⟨tm, htm, h⟩ := ob_some h
  obtain ⟨⟨y1, s1⟩, hr1, h⟩ := ob_some h
  obtain ⟨hn1, h⟩ := ck_some h
  obtain ⟨st, hst, h⟩ := ob_some h
  obtain ⟨hst0, h⟩ := ck_some h
  obtain ⟨hp1, hs1, h⟩ := ob_some h
  obtain ⟨⟨y2, s2⟩, hr2, h⟩ := ob_some h
  obtain ⟨hp2, hs2, h⟩ := ob_some h
  cases h
  have hst0 := Nat.eq_of_beq_eq_true hst0
  subst hst0
  have hy1 : y1 = .normal := by cases y1 <;> first | rfl | cases hn1
  subst hy1
  obtain ⟨a1, a2, a3, a4⟩ := hc _ _ _ _ hr1
  obtain ⟨b1, b2, b3, b4⟩ := hc _ _ _ _ hr2
  simp only at a1 a2 a3 b1 b2 b3
  refine ⟨Nat.le_trans a1 b1, fun B M args' w hargs hh hB hf => ?_⟩
  obtain ⟨b, r, ob0, e1, e2, e3, e4⟩ := hh.has l _ ho
  obtain ⟨L, rfl, h1, h2, h3, h4, h5, h6, h7, h8, h9⟩ := e4
  obtain ⟨k1, k2, k3⟩ := setPs_spec ps.toList args tm0 tm args'.toList L.tmps htm hargs h6 h7
  have hsize : args'.size = L.params.size := by rw [h3]; simpa using k1.symm
  have hfold : (L.params.zip args').foldl (fun tmps (x : Tmp × Value) => tmps.setIfInBounds x.1 x.2) L.tmps = (ps.toList.zip args'.toList).foldl (fun (t : Array Value) (p : Tmp × Value) => t.setIfInBounds p.1 p.2) L.tmps := by
    rw [h3, ← Array.foldl_toList, Array.toList_zip]
  have hy := run_yield (P := P) e3 hsize
  refine ⟨b, r, L.fn, _, L.assign, L.body, e1, hy, roundIn_of_wpIn trivial ?_⟩
  rw [h4, h5]
  have hfold' : (L.params.zip args').foldl (fun tmps (x : Tmp × Value) => match x with | (t, a) => tmps.setIfInBounds t a) L.tmps = (ps.toList.zip args'.toList).foldl (fun (t : Array Value) (p : Tmp × Value) => t.setIfInBounds p.1 p.2) L.tmps := hfold
  refine wpIn_mono (a4 B M (some b) _ w ⟨.nil, ⟨r, e1⟩, by rw [hfold']; exact k2, by rw [hfold']; exact k3, hh, hB⟩ (fun id i1 i2 => hf id i1 (Nat.lt_of_lt_of_le i2 b1))) ?_
  rintro e w1a w1 ⟨M1, rfl, hi1, hev1⟩
  obtain ⟨o1, ho1, hst⟩ := ob_some hst
  obtain ⟨st1, pend1, tm1, kp1, nt1, ps1, as1, bd1, d1, rfl, hst⟩ := withLoop_some hst
  cases hst
  obtain ⟨q1, q2, q3, q4, q5, q6, q7, q8, q9, hq, hq1⟩ := setLoop_some hs1
  rw [ho1] at hq
  cases hq
  have hM1 : M1 l = some (b, r) := hev1.ext _ _ e1
  obtain ⟨b', r', ob1, f1, f2, f3, f4⟩ := hi1.heap.has l _ ho1
  rw [hM1] at f1
  cases f1
  obtain ⟨L1, rfl, g1, g2, g3, g4, g5, g6, g7, g8, g9⟩ := f4
  have hp0 := g8 (by omega)
  subst hp0
  have hh2 : HRel P B M1 hp1.get (w1.putObj b (.loop { L1 with state := .busy })) := hi1.heap.put ho1 rfl hM1 (fun x hx => by cases hx; exact ⟨_, rfl, rfl, g2, g3, g4, g5, g6, g7, fun _ => rfl, g9⟩) hq1
  have hev2 : Evol M1 s1.hp.get s1.nid w1 M1 hp1.get s1.nid (w1.putObj b (.loop { L1 with state := .busy })) := Evol.put _ _ ho1 rfl hM1 fun i hi => by rw [hq1, if_neg hi]
  refine ⟨_, run_beginRound f3 g1, ?_⟩
  have hevA := hev1.trans hev2
  refine wpIn_mono (b4 B M1 (some b) w1a _ ⟨hi1.defers, ⟨r, hM1⟩, by have := hi1.size; rw [a3] at this; exact this, fun t v e => by have := hi1.tmps t v e; rw [a2] at this; exact this, hh2, Nat.le_trans hB hevA.size⟩
    (free_of hevA fun id i1 i2 => hf id (Nat.le_trans a1 i1) i2)) ?_
  rintro e a3' w3 ⟨M3, rfl, hi3, hev3⟩
  obtain ⟨t1, t2, t3, t4, t5, t6, t7, t8, t9, ht, ht1⟩ := setLoop_some hs2
  have hM3 : M3 l = some (b, r) := hev3.ext _ _ hM1
  obtain ⟨b'', r'', ob3, j1, j2, j3, j4⟩ := hi3.heap.has l _ ht
  rw [hM3] at j1
  cases j1
  obtain ⟨L3, rfl, u1, u2, u3, u4, u5, u6, u7, u8, u9⟩ := j4
  have fin : ∀ jump : Option Code, jump = (jumpOf y2).map codeOf → jump.isNone = isNormal y2 →
      ∃ v w', (Instr.endRound b jump).run P w3 = .ok v w' ∧ ∃ M' v', Ending.returned v = .returned v' ∧ VRel P M' (.bool (isNormal y2)) v' ∧ HRel P B M' hp'.get w' ∧ Evol M hp.get nid w M' hp'.get s2.nid w' := by
    intro jump hj hn
    refine ⟨_, _, run_endRound jump j3, M3, _, rfl, by rw [hn]; exact .bool _, hi3.heap.put ht rfl hM3 (fun x hx => ?_) ht1, hevA.trans (hev3.trans (Evol.put _ _ ht rfl hM3 fun i hi => by rw [ht1, if_neg hi]))⟩
    cases hx
    refine ⟨_, rfl, ?_, hj, u3, u4, u5, u6, u7, fun hne => ?_, u9⟩
    · simp only [hn]
      cases y2 <;> rfl
    · cases y2 with
      | normal => rfl
      | _ => exact absurd rfl hne
  cases y2 with
  | normal => exact fin none rfl rfl
  | exit id => exact fin (some (.exit id)) rfl rfl
  | goto t => exact fin (some (.goto t)) rfl rfl
  | ret => exact fin (some .ret) rfl rfl

theorem ok_callOf {rec : CodeF} (hc : CodeOk P rec) : CallOk P (callAny P rec) := by
  intro tg args hp nid v hp' nid' h
  cases tg with
  | yield l => exact ok_round hc h
  | fn f =>
  obtain ⟨x, hx, h⟩ := ob_some h
  rcases bi_some h with ⟨hf, h2⟩ | ⟨_, h2⟩ <;> clear h
  · rw [forceVs_eq] at h2
    rw [Bool.and_eq_true] at hf
    obtain ⟨⟨v1, hp1, nid1⟩, hr, h3⟩ := ob_some h2
    obtain ⟨hfl, h4⟩ := ck_some h3
    cases h4
    obtain ⟨_, hrun⟩ := ok_body hc hx hr
    refine ⟨Nat.le_refl _, fun B M args' w hargs hh hB hfree => ?_⟩
    have hargs' : args'.toList = args := LRel.eq hargs (fun u hu u' hr' => flat_eq (List.all_eq_true.1 hf.2 u hu) hr')
    refine (hrun w.heap.size (fun _ => none) args' w (by rw [hargs']; exact LRel.same fun u hu => flat_same _ (List.all_eq_true.1 hf.2 u hu)) ⟨fun id o e => (by cases e), fun i j b r r' hi => (by cases hi), fun b c hb => ⟨(hh.old b c hb).1, fun id r hi => (by cases hi)⟩⟩ (Nat.le_refl _) (fun _ _ _ => rfl)).mono ?_
    rintro e w' ⟨M', v', rfl, hvr, hh', hev⟩
    have hv' : v' = v1 := flat_eq hfl hvr
    subst hv'
    have hall : ∀ b, b < w.heap.size → w'.heap[b]? = w.heap[b]? := fun b hb => hev.frame b hb fun id r hi => by cases hi
    refine ⟨M, v', rfl, flat_same M hfl, ⟨fun id o e => ?_, hh.inj, fun b c hb => ⟨(by
      obtain ⟨⟨el, fr, h1⟩, _⟩ := hh.old b c hb
      exact ⟨el, fr, by rw [hall b (Array.getElem?_eq_some_iff.1 h1).1]; exact h1⟩), (hh.old b c hb).2⟩⟩, ⟨hev.os, hev.tape, hev.output, hev.size, fun b hb _ => hall b hb, fun id b r hi e => .inl ⟨id, r, hi, e⟩, fun id b r hi e => .inl ⟨id, r, hi, e⟩, Ext.refl _, fun id a1 a2 => absurd a1 a2, Nat.le_refl _⟩⟩
    obtain ⟨b, r, ob, e1, e2, e3, e4⟩ := hh.has id o e
    exact ⟨b, r, ob, e1, e2, by rw [hall b (Array.getElem?_eq_some_iff.1 e3).1]; exact e3, e4⟩
  · exact ok_body hc hx h2
theorem ok_evD (hm : P.prog.follows .mixedOrders = true) (k : Nat) : ∀ n, CallOk P (evD P k n)
  | 0 => fun f args hp nid v hp' nid' h => by cases h
  | n + 1 => ok_callOf (code_ok (ok_evD hm k n) hm k)

/-- the same, with what is known of some calls -/
noncomputable def evDS (P : Pd) (sp : CallF) (k n : Nat) : CallF := Nat.rec (fun _ _ _ _ => none) (fun _ ih t args hp nid => orE (sp t args hp nid) (callAny P (evC P ih k) t args hp nid)) n
theorem ok_evDS (hm : P.prog.follows .mixedOrders = true) {sp : CallF} (hsp : CallOk P sp) (k : Nat) : ∀ n, CallOk P (evDS P sp k n)
  | 0 => fun f args hp nid v hp' nid' h => by cases h
  | n + 1 => fun f args hp nid v hp' nid' h => by
    have h1 : orE (sp f args hp nid) (callAny P (evC P (evDS P sp k n) k) f args hp nid) = some (v, hp', nid') := h
    cases hs : sp f args hp nid with
    | some x => rw [hs] at h1; have h2 : some x = some (v, hp', nid') := h1; rw [h2] at hs; exact hsp _ _ _ _ _ _ _ hs
    | none => rw [hs] at h1; exact ok_callOf (code_ok (ok_evDS hm hsp k n) hm k) _ _ _ _ _ _ _ h1
theorem reckonS (hm : P.prog.follows .mixedOrders = true) {sp : CallF} (hsp : CallOk P sp) {k n : Nat} {f : FuncId} {args : List Value} {hp0 hp : T AObj} {nid0 nid : Nat} {v : Value}
    (h : evDS P sp k n (.fn f) args hp0 nid0 = some (v, hp, nid)) {B : Nat} {M : Mp} {args' : Array Value} {w : World} (ha : LRel P M args args'.toList) (hh : HRel P B M hp0.get w) (hB : B ≤ w.heap.size) (hf : ∀ id, nid0 ≤ id → id < nid → M id = none) :
    Calls P.prog f args' w fun e w' => ∃ M' v', e = .returned v' ∧ VRel P M' v v' ∧ HRel P B M' hp.get w' ∧ Evol M hp0.get nid0 w M' hp.get nid w' :=
  (ok_evDS hm hsp k n _ _ _ _ _ _ _ h).2 B M args' w ha hh hB hf

/-- what is reckoned is what every run gives -/
theorem reckoned (hm : P.prog.follows .mixedOrders = true) {k n : Nat} {f : FuncId} {args : List Value} {v : Value} {hp : T AObj} {nid : Nat} (h : evF P k n f args = some (v, hp, nid)) (ha : args.all flat = true) (hv : flat v = true)
    (w : World) (hro : ∀ b, P.den.ro b = none := by intro _; rfl) : Calls P f args.toArray w fun e w' => e = .returned v ∧ Go.RowKit.Below w.heap.size w w' := by
  obtain ⟨_, hrun⟩ := ok_evD hm k n _ _ _ _ _ _ _ (h : evD P k n (.fn f) args .leaf 0 = some (v, hp, nid))
  refine (hrun w.heap.size (fun _ => none) args.toArray w (LRel.same fun u hu => flat_same _ (List.all_eq_true.1 ha u hu)) ⟨fun id o e => (by cases e), fun i j b r r' hi => (by cases hi), fun b c hb => (by rw [hro b] at hb; cases hb)⟩ (Nat.le_refl _) (fun _ _ _ => rfl)).mono ?_
  rintro e w' ⟨M', v', rfl, hvr, hh', hev⟩
  have hv' : v' = v := flat_eq hv hvr
  subst hv'
  exact ⟨rfl, hev.os, hev.tape, hev.output, hev.size, fun b hb => hev.frame b hb fun id r hi => by cases hi⟩
theorem reckoned_true (hm : P.prog.follows .mixedOrders = true) {k n : Nat} {f : FuncId} (h : isTrue (evF P k n f []) = true) (w : World) (hro : ∀ b, P.den.ro b = none := by intro _; rfl) :
    Calls P f #[] w fun e w' => e = .returned (.bool true) ∧ Go.RowKit.Below w.heap.size w w' := by
  cases hr : evF P k n f [] with
  | none => rw [hr] at h; cases h
  | some r =>
    rw [hr] at h
    obtain ⟨v, hp, nid⟩ := r
    have hb : isB v true = true := h
    cases v with
    | bool b =>
      have : b = true := by cases b <;> first | rfl | cases hb
      subst this
      exact reckoned hm hr rfl rfl w hro
    | _ => cases hb
end
end Sy
end Go.Proofs.Ytlmnhlmgbcpclaa

set_option linter.unusedSimpArgs false
set_option linter.unusedVariables false
namespace Go.Proofs.Ytlmnhlmgbcpclaa
namespace Sy
variable {P : Pg}
open Go.RowKit

/-! What is known of calls. -/

theorem below_post {B : Nat} {M : Mp} {g : Mem} {w w' : World} (nid : Nat) (hh : HRel P B M g w) (hb : Below w.heap.size w w') : HRel P B M g w' ∧ Evol M g nid w M g nid w' := by
  refine ⟨⟨fun id o e => ?_, hh.inj, fun k c hk => ⟨by
      obtain ⟨⟨el2, fr2, h1⟩, _⟩ := hh.old k c hk
      exact ⟨el2, fr2, by rw [hb.block k (Array.getElem?_eq_some_iff.1 h1).1]; exact h1⟩, (hh.old k c hk).2⟩⟩, ⟨hb.os, hb.tape, hb.output, hb.size, fun b h _ => hb.block b h, fun id b r hi e => .inl ⟨id, r, hi, e⟩, fun id b r hi e => .inl ⟨id, r, hi, e⟩, Ext.refl _, fun id a1 a2 => absurd a1 a2, Nat.le_refl _⟩⟩
  obtain ⟨b, r, ob, e1, e2, e3, e4⟩ := hh.has id o e
  exact ⟨b, r, ob, e1, e2, by rw [hb.block b (Array.getElem?_eq_some_iff.1 e3).1]; exact e3, e4⟩
/-- a call that has made a block that is known -/
theorem new_post {B : Nat} {M : Mp} {g g' : Mem} {w w' : World} {nid b r : Nat} {o : AObj} {ob : Obj} (hh : HRel P B M g w) (hB : B ≤ w.heap.size) (hM : M nid = none) (hb : Below w.heap.size w w') (hlt : w.heap.size ≤ b) (hw : w'.heap[b]? = some ob)
    (ho : ORel P (M.upd nid b r) r o ob) (hg : ∀ i, g' i = if i = nid then some o else g i) : HRel P B (M.upd nid b r) g' w' ∧ Evol M g nid w (M.upd nid b r) g' (nid + 1) w' := by
  obtain ⟨h1, _⟩ := below_post nid hh hb
  refine ⟨⟨fun id x e => ?_, fun i j c r1 r2 hi hj e1 e2 => ?_, fun k c hk => ⟨(h1.old k c hk).1, fun i r1 hi e1 => ?_⟩⟩, ⟨hb.os, hb.tape, hb.output, hb.size, fun b h _ => hb.block b h, fun id c r1 hi e => ?_, fun id c r1 hi e => ?_, Mp.upd_ext hM, fun id a1 a2 => ?_, Nat.le_succ _⟩⟩
  · rw [hg] at e
    split at e
    · rename_i hi
      cases e
      subst hi
      exact ⟨b, r, ob, Mp.upd_self _ _ _ _, Nat.le_trans hB hlt, hw, ho⟩
    · obtain ⟨b1, r1, ob1, k1, k2, k3, k4⟩ := h1.has id x e
      exact ⟨b1, r1, ob1, Mp.upd_ext hM _ _ k1, k2, k3, k4.ext (Mp.upd_ext hM)⟩
  · rw [hg] at hi hj
    unfold Mp.upd at e1 e2
    by_cases h2 : i = nid
    · by_cases h3 : j = nid
      · rw [h2, h3]
      · simp only [h2, h3, if_true, if_false] at e1 e2 hj
        cases e1
        have := hh.lt hj e2
        omega
    · by_cases h3 : j = nid
      · simp only [h2, h3, if_true, if_false] at e1 e2 hi
        cases e2
        have := hh.lt (wrt_some hi) e1
        omega
      · simp only [h2, h3, if_false] at e1 e2 hi hj
        exact hh.inj i j c r1 r2 hi hj e1 e2
  · rw [hg] at hi
    unfold Mp.upd at e1
    by_cases h2 : i = nid
    · simp only [h2, if_true] at e1
      cases e1
      obtain ⟨⟨el2, fr2, q1⟩, _⟩ := hh.old _ c hk
      have := (Array.getElem?_eq_some_iff.1 q1).1
      omega
    · simp only [h2, if_false] at e1 hi
      exact (hh.old k c hk).2 i r1 hi e1
  · rw [hg] at hi
    unfold Mp.upd at e
    by_cases h2 : id = nid
    · simp only [h2, if_true] at e; cases e; exact .inr hlt
    · simp only [h2, if_false] at e hi; exact .inl ⟨id, r1, hi, e⟩
  · rw [hg] at hi
    unfold Mp.upd at e
    by_cases h2 : id = nid
    · simp only [h2, if_true] at e; cases e; exact .inr hlt
    · simp only [h2, if_false] at e hi; exact .inl ⟨id, r1, hi, e⟩
  · unfold Mp.upd at a2
    by_cases h2 : id = nid
    · omega
    · simp only [h2, if_false] at a2; exact absurd a1 a2

noncomputable def spOr (a b : CallF) : CallF := fun t args hp nid => orE (a t args hp nid) (b t args hp nid)
theorem ok_spOr {a b : CallF} (ha : CallOk P a) (hb : CallOk P b) : CallOk P (spOr a b) := fun f args hp nid v hp' nid' h => by
  have h1 : orE (a f args hp nid) (b f args hp nid) = some (v, hp', nid') := h
  cases hs : a f args hp nid with
  | some x => rw [hs] at h1; have h2 : some x = some (v, hp', nid') := h1; rw [h2] at hs; exact ha _ _ _ _ _ _ _ hs
  | none => rw [hs] at h1; exact hb _ _ _ _ _ _ _ h1
noncomputable def spNone : CallF := fun _ _ _ _ => none
theorem ok_spNone : CallOk P spNone := fun f args hp nid v hp' nid' h => by cases h

theorem Dv.num {D : Dn} {v : Value} {x : Int} (h : Dv D v x) : isNum v = true := by
  cases h with
  | lit n => rfl
  | hole h => rfl
  | @bin t a b x y ht ha hb => show (Nat.ble t 20 || Nat.ble 100 t) = true; rw [Nat.ble_eq_true_of_le ht.2]; rfl
  | @app t as xs ht hs h => show (Nat.ble t 20 || Nat.ble 100 t) = true; rw [Nat.ble_eq_true_of_le ht, Bool.or_true]

/-- functions of numbers: the function, the symbol, of how many numbers, and the numbers behind them that are told -/
abbrev NumSp := Nat × Nat × Nat × List Int
noncomputable def findSp (l : List NumSp) (f : Nat) : Option (Nat × Nat × List Int) := List.rec none (fun x _ ih => bi (Nat.beq x.1 f) (some x.2) ih) l
theorem findSp_some {f : Nat} {y : Nat × Nat × List Int} : ∀ (l : List NumSp), findSp l f = some y → (f, y) ∈ l
  | [], h => by cases h
  | x :: l, h => by
    have h1 : bi (Nat.beq x.1 f) (some x.2) (findSp l f) = some y := h
    rcases bi_some h1 with ⟨e, h2⟩ | ⟨_, h2⟩
    · cases h2
      have := Nat.eq_of_beq_eq_true e
      subst this
      exact List.mem_cons_self
    · exact List.mem_cons_of_mem _ (findSp_some l h2)
def litB : List Value → List Int → Bool
  | [], [] => true
  | .int .i64 x :: l, y :: m => eqI x y && litB l m
  | _, _ => false
theorem litB_eq : ∀ (l : List Value) (m : List Int), litB l m = true → l = m.map (fun x => .int .i64 x)
  | [], [], _ => rfl
  | [], _ :: _, h => by cases h
  | v :: l, [], h => by cases v <;> first | cases h | (rename_i k n; cases k <;> cases h)
  | v :: l, y :: m, h => by
    unfold litB at h
    split at h
    · rename_i e _; cases e
    · rename_i e1 e2
      cases e1
      cases e2
      simp only [Bool.and_eq_true, eqI_eq, decide_eq_true_eq] at h
      rw [h.1, litB_eq _ _ h.2]
      rfl
    · cases h
noncomputable def spNum (l : List NumSp) : CallF := fun t args hp nid =>
  match t with
  | .fn f => ob (findSp l f) fun y => ck (Nat.beq (args.take y.2.1).length y.2.1 && ((args.take y.2.1).all isNum && litB (args.drop y.2.1) y.2.2)) (some (.iface y.1 (.tuple (args.take y.2.1).toArray), hp, nid))
  | .yield _ => none
def NumOk (P : Pg) (x : NumSp) : Prop := 100 ≤ x.2.1 ∧ ∀ (xs : List Int) (w : World), xs.length = x.2.2.1 → Calls P.prog x.1 ((xs ++ x.2.2.2).map (fun x => Value.int .i64 x)).toArray w fun e w' => e = .returned (.int .i64 (P.den.int x.2.1 xs)) ∧ Below w.heap.size w w'
theorem ok_spNum {l : List NumSp} (hl : ∀ x ∈ l, NumOk P x) : CallOk P (spNum l) := fun t args hp nid v hp' nid' h => by
  cases t with
  | yield l => cases h
  | fn f =>
    obtain ⟨y, hy, h⟩ := ob_some h
    obtain ⟨hck, h⟩ := ck_some h
    cases h
    simp only [Bool.and_eq_true] at hck
    obtain ⟨h1, h2⟩ := hl _ (findSp_some l hy)
    refine ⟨Nat.le_refl _, fun B M args' w ha hh hB hf => ?_⟩
    obtain ⟨xs, e1, e2, e3⟩ := nums_of _ _ (ha.take y.2.1) hck.2.1
    have hdrop : args'.toList.drop y.2.1 = y.2.2.map (fun x => .int .i64 x) := by
      have hd := litB_eq _ _ hck.2.2
      have := LRel.eq (ha.drop y.2.1) (fun u hu u' hr => by
        rw [hd] at hu
        obtain ⟨z, _, rfl⟩ := List.mem_map.1 hu
        cases hr
        rfl)
      rw [this, hd]
    have e4 : args' = ((xs ++ y.2.2).map (fun x => Value.int .i64 x)).toArray := by
      apply Array.ext'
      rw [← List.take_append_drop y.2.1 args'.toList, e1, hdrop]
      simp
    rw [e4]
    refine Calls.mono (h2 xs w (by rw [← e2]; exact Nat.eq_of_beq_eq_true hck.1)) ?_
    rintro e w' ⟨rfl, hb⟩
    obtain ⟨k1, k2⟩ := below_post nid hh hb
    exact ⟨M, _, rfl, .sym (.app h1 (by simpa using e2) (fun i v x hv hx => e3 i v x (by simpa using hv) hx)) (.inr h1), k1, k2⟩

/-- the cells of a row that is known whole -/
theorem row_nums {B : Nat} {M : Mp} {hp : T AObj} {w : World} {b b' r : Nat} {cs : List Value} {el : TypeId} {opn : Bool} (hh : HRel P B M hp.get w) (hb : M b = some (b', r)) (hg : hp.get b = some (.row cs el opn)) (hn : cs.all isNum = true) :
    ∃ xs : List Int, cs.length = xs.length ∧ (∀ (i : Nat) (v : Value) (x : Int), cs[i]? = some v → xs[i]? = some x → Dv P.den v x) ∧ ∀ i x, xs[i]? = some x → w.cell? ⟨b', i, none⟩ = some (.int .i64 x) := by
  obtain ⟨b1, r1, ob, e1, e2, e3, e4⟩ := hh.has b _ hg
  rw [hb] at e1
  cases e1
  obtain ⟨c', rfl, _, h1, h2⟩ := e4
  have key : LRel P M cs (c'.toList.take cs.length) := by
    cases opn with
    | false => have := h1 rfl; rw [List.take_of_length_le (by rw [this.1]; exact Nat.le_refl _)]; exact this
    | true => exact (h2 rfl).1
  obtain ⟨xs, k1, k2, k3⟩ := nums_of _ _ key hn
  refine ⟨xs, k2, k3, fun i x hx => ?_⟩
  rw [cell_of_row w b' i c' el (0, 0) e3]
  have h5 : (c'.toList.take cs.length)[i]? = some (.int .i64 x) := by rw [k1, List.getElem?_map, hx]; rfl
  rw [List.getElem?_take] at h5
  split at h5
  · simpa using h5
  · cases h5

/-- a function of a list of numbers that is handed over as a slice -/
noncomputable def spList (f tag : Nat) : CallF := fun t args hp nid =>
  match t with
  | .fn g => ck (Nat.beq g f && Nat.beq args.length 1) (ob args[0]? fun s => withSlc s (fun _ _ => none) fun b o n c => ob (hp.get b) fun r => withRow r fun cs el opn =>
      ck (Nat.beq o 0 && (Nat.beq n cs.length && (Nat.ble 2 n && (Nat.ble n 5 && (Nat.beq c n && cs.all isNum))))) (some (.iface tag (.tuple cs.toArray), hp, nid)))
  | .yield _ => none
def ListOk (P : Pg) (f tag : Nat) : Prop := 100 ≤ tag ∧ ∀ (xs : List Int) (g : Nat) (w : World), 2 ≤ xs.length → xs.length ≤ 5 → (∀ i x, xs[i]? = some x → w.cell? ⟨g, i, none⟩ = some (.int .i64 x)) →
  Calls P.prog f #[.slice (some ⟨g, 0, none⟩) xs.length xs.length] w fun e w' => e = .returned (.int .i64 (P.den.int tag xs)) ∧ Below w.heap.size w w'
theorem args_one {args : List Value} {s : Value} {M : Mp} {args' : Array Value} (h : LRel P M args args'.toList) (hl : args.length = 1) (h0 : args[0]? = some s) : ∃ s', args' = #[s'] ∧ VRel P M s s' := by
  match args, hl with
  | [u], _ =>
    simp at h0
    subst h0
    obtain ⟨s', e, hr⟩ := h.get (i := 0) rfl
    refine ⟨s', ?_, hr⟩
    apply Array.ext'
    have hl := h.1
    match he : args'.toList, hl with
    | [z], _ => rw [he] at e; simp at e; rw [e]
theorem ok_spList {f tag : Nat} (hl : ListOk P f tag) : CallOk P (spList f tag) := fun t args hp nid v hp' nid' h => by
  cases t with
  | yield l => cases h
  | fn g =>
    obtain ⟨hck, h1⟩ := ck_some h
    clear h
    simp only [Bool.and_eq_true] at hck
    have hg := Nat.eq_of_beq_eq_true hck.1
    subst hg
    obtain ⟨s, hs, hws⟩ := ob_some h1
    clear h1
    rcases withSlc_some hws with ⟨_, _, _, h⟩ | ⟨b, o, n, c, rfl, h⟩
    · cases h
    obtain ⟨r, hr, h⟩ := ob_some h
    obtain ⟨cs, el, opn, rfl, h⟩ := withRow_some h
    obtain ⟨hk, h⟩ := ck_some h
    cases h
    simp only [Bool.and_eq_true] at hk
    have ho := Nat.eq_of_beq_eq_true hk.1
    have hn := Nat.eq_of_beq_eq_true hk.2.1
    have h2 := Nat.le_of_ble_eq_true hk.2.2.1
    have h5 := Nat.le_of_ble_eq_true hk.2.2.2.1
    have hcn : c = cs.length := by have := Nat.eq_of_beq_eq_true hk.2.2.2.2.1; omega
    subst ho
    subst hn
    refine ⟨Nat.le_refl _, fun B M args' w ha hh hB hf => ?_⟩
    obtain ⟨s', rfl, hvr⟩ := args_one ha (Nat.eq_of_beq_eq_true hck.2) hs
    have fin : ∀ b' rr, M b = some (b', rr) → Calls P.prog g #[.slice (some ⟨b', 0, none⟩) cs.length cs.length] w fun e w' => ∃ M' v', e = .returned v' ∧ VRel P M' (.iface tag (.tuple cs.toArray)) v' ∧ HRel P B M' hp.get w' ∧ Evol M hp.get nid w M' hp.get nid w' := by
      intro b' rr hb
      obtain ⟨xs, k1, k2, k3⟩ := row_nums hh hb hr hk.2.2.2.2.2
      rw [k1]
      refine Calls.mono (hl.2 xs b' w (by rw [← k1]; exact h2) (by rw [← k1]; exact h5) k3) ?_
      rintro e w' ⟨rfl, hb⟩
      obtain ⟨p1, p2⟩ := below_post nid hh hb
      exact ⟨M, _, rfl, .sym (.app hl.1 (by simpa using k1) (fun i v x hv hx => k2 i v x (by simpa using hv) hx)) (.inr hl.1), p1, p2⟩
    cases hvr with
    | slc hb _ => rw [hcn]; exact fin _ _ hb
    | slo hb _ => exact absurd hcn (by simp only [OPEN]; omega)
    | slx hb _ => exact absurd hcn (by simp only [OPEN1]; omega)
def fstO (o : Option (Value × T AObj × Nat)) : Option Value := o.map fun r => r.1
/-- a run that has been reckoned to answer true -/
theorem run_true {P : Pg} {prog : Program} (hp : P.prog = prog) (hm : prog.follows .mixedOrders = true) {sp : CallF} (hsp : CallOk P sp) {k n : Nat} {f : Nat} {args : List Value} {args' : Array Value} (hrun : fstO (evDS P sp k n (.fn f) args .leaf 0) = some (.bool true)) (hargs : ∀ M : Mp, LRel P M args args'.toList) (w : World) (hro : ∀ b, P.den.ro b = none := by intro _; rfl) :
    Calls prog f args' w fun e w' => e = .returned (.bool true) ∧ Below w.heap.size w w' := by
  cases hr : evDS P sp k n (.fn f) args .leaf 0 with
  | none => rw [hr] at hrun; cases hrun
  | some q =>
    obtain ⟨v, hp1, nid⟩ := q
    rw [hr] at hrun
    have hv : v = .bool true := Option.some.inj hrun
    subst hv
    rw [← hp]
    refine Calls.mono (reckonS (B := w.heap.size) (M := fun _ => none) (by rw [hp]; exact hm) hsp hr (hargs _) ⟨fun id o e => (by cases e), fun i j b r r' hi => (by cases hi), fun b c hb => (by rw [hro b] at hb; cases hb)⟩ (Nat.le_refl _) (fun _ _ _ => rfl)) ?_
    rintro e w' ⟨M', v', rfl, hvr, hh, hev⟩
    cases hvr
    exact ⟨rfl, hev.os, hev.tape, hev.output, hev.size, fun b hb => hev.frame b hb fun id r hi => by cases hi⟩
/-- a program of which nothing is known but itself -/
def pg0 (prog : Program) : Pg := { prog := prog, den := { hole := fun _ => .int .i64 0, int := fun _ _ => 0, obj := fun _ _ _ => False }, facts := [], ok := by simp }
end Sy
end Go.Proofs.Ytlmnhlmgbcpclaa

set_option linter.unusedSimpArgs false
set_option linter.unusedVariables false
namespace Go.Proofs.Ytlmnhlmgbcpclaa
namespace Sy
variable {P : Pg}
open Go.RowKit

/-! A run over memory that is only read; another meaning of a symbol that a memory doesn't hold; a memory that is to be read alone from here on. -/

def T.allO (p : AObj → Bool) : T AObj → Bool
  | .leaf => true
  | .node l v r => T.allO p l && (T.allO p r && (match v with | some o => p o | none => true))
theorem T.allO_get {p : AObj → Bool} : ∀ (t : T AObj) (id : Nat) (o : AObj), T.allO p t = true → t.get id = some o → p o = true
  | .leaf, id, o, h, e => by rw [T.get_leaf] at e; cases e
  | .node l v r, id, o, h, e => by
    simp only [T.allO, Bool.and_eq_true] at h
    rw [T.get_node] at e
    split at e
    · subst e; exact h.2.2
    · split at e
      · exact T.allO_get l _ o h.1 e
      · exact T.allO_get r _ o h.2.1 e
def T.mapO (f : AObj → Option AObj) : T AObj → T AObj
  | .leaf => .leaf
  | .node l v r => .node (T.mapO f l) (v.bind f) (T.mapO f r)
theorem T.mapO_get {f : AObj → Option AObj} : ∀ (t : T AObj) (id : Nat), (T.mapO f t).get id = (t.get id).bind f
  | .leaf, id => by simp [T.mapO, T.get_leaf]
  | .node l v r, id => by
    simp only [T.mapO, T.get_node]
    split
    · rfl
    · split
      · exact T.mapO_get l _
      · exact T.mapO_get r _

/-- a run over memory that no rule writes -/
theorem run_ro {P : Pg} {prog : Program} (hp : P.prog = prog) (hm : prog.follows .mixedOrders = true) {sp : CallF} (hsp : CallOk P sp) {k n f nid0 : Nat} {args : List Value} {args' : Array Value} {hp0 : T AObj} {v : Value} {M : Mp} {w : World}
    (hrun : fstO (evDS P sp k n (.fn f) args hp0 nid0) = some v) (hargs : LRel P M args args'.toList) (hh : HRel P 0 M hp0.get w) (hro : ∀ id, wrt (hp0.get id) = false) (hf : ∀ id, nid0 ≤ id → M id = none) :
    Calls prog f args' w fun e w' => ∃ M' v', e = .returned v' ∧ VRel P M' v v' ∧ Below w.heap.size w w' := by
  cases hr : evDS P sp k n (.fn f) args hp0 nid0 with
  | none => rw [hr] at hrun; cases hrun
  | some q =>
    obtain ⟨v1, hp1, nid⟩ := q
    rw [hr] at hrun
    have hv : v1 = v := Option.some.inj hrun
    subst hv
    rw [← hp]
    refine Calls.mono (reckonS (B := 0) (M := M) (by rw [hp]; exact hm) hsp hr hargs hh (Nat.zero_le _) (fun id h1 _ => hf id h1)) ?_
    rintro e w' ⟨M', v', rfl, hvr, hh', hev⟩
    exact ⟨M', v', rfl, hvr, hev.os, hev.tape, hev.output, hev.size, fun b hb => hev.frame b hb fun id r hi => by rw [hro id] at hi; cases hi⟩

/-! Another den. -/

theorem all_at {as : Array Value} {p : Value → Bool} (h : as.toList.all p = true) {i : Nat} {v : Value} (hv : as[i]? = some v) : p v = true :=
  List.all_eq_true.1 h v (by rw [← Array.getElem?_toList] at hv; exact List.mem_of_getElem? hv)
/-- the symbol k is not in it -/
def noHB (k : Nat) (ih : Value → Bool) (v : Value) : Bool :=
  match v with
  | .iface tg p => match p with
    | .int _ (.ofNat n) => !(Nat.beq n k)
    | .tuple as => !(Nat.beq tg 94) && as.toList.all ih
    | _ => false
  | .tuple as => as.toList.all ih
  | .agg as => as.toList.all ih
  | .func _ a c => a.toList.all ih && c.toList.all ih
  | _ => true
noncomputable def noH (k : Nat) (n : Nat) : Value → Bool := Nat.rec (fun _ => false) (fun _ ih => noHB k ih) n
theorem Dv.den {D D' : Dn} {k : Nat} (hi : D'.int = D.int) (hh : ∀ n, n ≠ k → D'.hole n = D.hole n) : ∀ (n : Nat) (v : Value) (x : Int), noH k n v = true → Dv D v x → Dv D' v x
  | 0, v, x, h, _ => by cases h
  | n + 1, v, x, h, d => by
    cases d with
    | lit m => exact .lit _
    | @hole m x hx =>
      have h : (!(Nat.beq m k)) = true := h
      refine .hole ?_
      rw [hh m (fun e => by subst e; rw [Nat.beq_refl] at h; cases h)]
      exact hx
    | @bin t a b x y ht ha hb =>
      have h : (!(Nat.beq t 94) && [a, b].all (noH k n)) = true := h
      have h := (Bool.and_eq_true_iff.1 h).2
      simp only [List.all_cons, List.all_nil, Bool.and_true, Bool.and_eq_true] at h
      exact .bin ht (Dv.den hi hh n a x h.1 ha) (Dv.den hi hh n b y h.2 hb)
    | @app t as xs ht hs ha =>
      have h : (!(Nat.beq t 94) && as.toList.all (noH k n)) = true := h
      have h := (Bool.and_eq_true_iff.1 h).2
      rw [← hi]
      exact .app ht hs fun i v x hv hx => Dv.den hi hh n v x (all_at h hv) (ha i v x hv hx)
theorem DvL.den {D D' : Dn} {k : Nat} (hi : D'.int = D.int) (hh : ∀ n, n ≠ k → D'.hole n = D.hole n) {n : Nat} {as : List Value} {xs : List Int} (h : as.all (noH k n) = true) (hd : DvL D as xs) : DvL D' as xs :=
  ⟨hd.1, fun i v x e e' => Dv.den hi hh n v x (List.all_eq_true.1 h v (List.mem_of_getElem? e)) (hd.2 i v x e e')⟩
theorem VRel.den {P' : Pg} {M : Mp} {k : Nat} (hx : P'.den.slc = P.den.slc ∧ P'.den.str = P.den.str ∧ P'.den.ro = P.den.ro := by exact ⟨rfl, rfl, rfl⟩) (hi : P'.den.int = P.den.int) (hh : ∀ n, n ≠ k → P'.den.hole n = P.den.hole n) : ∀ (n : Nat) (v v' : Value), noH k n v = true → VRel P M v v' → VRel P' M v v'
  | 0, v, v', h, _ => by cases h
  | n + 1, v, v', h, d => by
    cases d with
    | bool b => exact .bool b
    | int kd m => exact .int kd m
    | str s => exact .str s
    | nilp => exact .nilp
    | ptr h1 => exact .ptr h1
    | nils a c => exact .nils a c
    | slc h1 hc => exact .slc h1 hc
    | slo h1 hn => exact .slo h1 hn
    | slx h1 hn => exact .slx h1 hn
    | nilm => exact .nilm
    | nilf => exact .nilf
    | nili => exact .nili
    | func f ha h1 hc h2 =>
      have h := Bool.and_eq_true_iff.1 h
      exact .func f ha (fun i u u' e e' => VRel.den hx hi hh n u u' (all_at h.1 e) (h1 i u u' e e')) hc (fun i u u' e e' => VRel.den hx hi hh n u u' (all_at h.2 e) (h2 i u u' e e'))
    | yld h1 => exact .yld h1
    | sym d ht => exact .sym (d.den hi hh (n + 1) _ _ h) ht
    | @hol m h1 h2 h3 =>
      have h : (!(Nat.beq m k)) = true := h
      have e : P'.den.hole m = P.den.hole m := hh m (fun e => by subst e; rw [Nat.beq_refl] at h; cases h)
      rw [← e] at h1 h2 h3 ⊢
      exact .hol h1 h2 h3
    | @osl id b r m c t h1 hn =>
      have h : [Value.int .i64 (.ofNat id), t].all (noH k n) = true := h
      simp only [List.all_cons, List.all_nil, Bool.and_true, Bool.and_eq_true] at h
      exact .osl h1 (hn.den hi hh n _ _ h.2)
    | osk h1 hn => exact .osk h1 hn
    | hsl h1 hn => cases h
    | @osm id b r m c N t h1 hn hN =>
      have h : [Value.int .i64 (.ofNat id), .int .i64 (.ofNat N), t].all (noH k n) = true := h
      simp only [List.all_cons, List.all_nil, Bool.and_true, Bool.and_eq_true] at h
      exact .osm h1 (hn.den hi hh n _ _ h.2.2) hN
    | opp h1 => exact .opp h1
    | @fvl zs c as xs hz hd h1 =>
      have h : zs.toList.all (noH k n) = true := h
      rw [hz, List.all_cons, Bool.and_eq_true] at h
      rw [← hx.1] at h1 ⊢
      exact .fvl hz (hd.den hi hh h.2) h1
    | @fst zs c as xs hz hd =>
      have h : zs.toList.all (noH k n) = true := h
      rw [hz, List.all_cons, Bool.and_eq_true] at h
      rw [← hx.2.1]
      exact .fst hz (hd.den hi hh h.2)
    | @fpp zs c off n2 k2 b r l cap ix as xs hz hd hk hl hs =>
      have h : zs.toList.all (noH k n) = true := h
      rw [hz] at h
      simp only [List.all_cons, Bool.and_eq_true] at h
      rw [← hx.1] at hs
      exact .fpp hz (hd.den hi hh h.2.2.2.2) (hk.den hi hh n _ _ h.2.2.2.1) hl hs
    | agg ha h1 =>
      have h : _ = true := h
      exact .agg ha fun i u u' e e' => VRel.den hx hi hh n u u' (all_at h e) (h1 i u u' e e')
    | tup ha h1 =>
      have h : _ = true := h
      exact .tup ha fun i u u' e e' => VRel.den hx hi hh n u u' (all_at h e) (h1 i u u' e e')
theorem LRel.den {P' : Pg} {M : Mp} {k n : Nat} (hx : P'.den.slc = P.den.slc ∧ P'.den.str = P.den.str ∧ P'.den.ro = P.den.ro := by exact ⟨rfl, rfl, rfl⟩) (hi : P'.den.int = P.den.int) (hh : ∀ n, n ≠ k → P'.den.hole n = P.den.hole n) {l l' : List Value} (h : l.all (noH k n) = true) (hl : LRel P M l l') : LRel P' M l l' :=
  ⟨hl.1, fun i v v' e e' => VRel.den hx hi hh n v v' (List.all_eq_true.1 h v (List.mem_of_getElem? e)) (hl.2 i v v' e e')⟩
/-- the symbol k is not in a block, which no call is to come back to -/
noncomputable def noHO (k : Nat) (o : AObj) : Bool :=
  match o with
  | .row c _ _ => c.all (noH k 40)
  | .win c => c.all (noH k 40)
  | .opq _ l => l.all (noH k 40)
  | .dfr => true
  | .loop .. => false
theorem ORel.den {P' : Pg} {M : Mp} {k r : Nat} {o : AObj} {ob : Obj} (hx : P'.den.slc = P.den.slc ∧ P'.den.str = P.den.str ∧ P'.den.ro = P.den.ro := by exact ⟨rfl, rfl, rfl⟩) (hp : P'.prog = P.prog) (hi : P'.den.int = P.den.int) (hh : ∀ n, n ≠ k → P'.den.hole n = P.den.hole n) (ho : P'.den.obj = P.den.obj) (hq : P'.den.pin = P.den.pin) (h : noHO k o = true) (hr : ORel P M r o ob) : ORel P' M r o ob := by
  cases o with
  | dfr => exact hr
  | loop => cases h
  | opq j l =>
    obtain ⟨h0, xs, h1, h2, h3⟩ := hr
    exact ⟨h0, xs, h1, fun i v x e e' => (h2 i v x e e').den hi hh 40 v x (List.all_eq_true.1 h v (List.mem_of_getElem? e)), by rw [ho]; exact h3⟩
  | win c =>
    obtain ⟨c', e, fr, h1, h2, h3⟩ := hr
    exact ⟨c', e, fr, h1, h2.den hx hi hh h, by rw [hq]; exact h3⟩
  | row c e p =>
    obtain ⟨c', h1, h2, h3, h4⟩ := hr
    refine ⟨c', h1, h2, fun e => (h3 e).den hx hi hh h, fun e => ⟨(h4 e).1.den hx hi hh h, (h4 e).2.1, ?_⟩⟩
    obtain ⟨sz, q1, q2⟩ := (h4 e).2.2
    exact ⟨sz, by unfold sizeT at q1 ⊢; rw [hp]; exact q1, q2⟩
theorem HRel.den {P' : Pg} {B : Nat} {M : Mp} {g : Mem} {w : World} {k : Nat} (hx : P'.den.slc = P.den.slc ∧ P'.den.str = P.den.str ∧ P'.den.ro = P.den.ro := by exact ⟨rfl, rfl, rfl⟩) (hp : P'.prog = P.prog) (hi : P'.den.int = P.den.int) (hh : ∀ n, n ≠ k → P'.den.hole n = P.den.hole n) (ho : P'.den.obj = P.den.obj) (hq : P'.den.pin = P.den.pin)
    (h : ∀ id o, g id = some o → noHO k o = true) (hr : HRel P B M g w) : HRel P' B M g w where
  has := fun id o e => by
    obtain ⟨b, r, ob, k1, k2, k3, k4⟩ := hr.has id o e
    exact ⟨b, r, ob, k1, k2, k3, k4.den hx hp hi hh ho hq (h id o e)⟩
  inj := hr.inj
  old := fun b c hb => hr.old b c (by rw [← hx.2.2]; exact hb)

/-! Memory that is to be read alone from here on. -/

def keeps (o : Option AObj) : Bool :=
  match o with
  | some (.win ..) => true
  | some (.opq ..) => true
  | _ => false
def roM (g : Mem) (M : Mp) : Mp := fun id => (M id).map fun x => if keeps (g id) then x else (x.1, 0)
def roVB (ih : Value → Value) (v : Value) : Value :=
  match v with
  | .pointer (some ⟨b, o, none⟩) => .iface 92 (.tuple #[.int .i64 (.ofNat b), .int .i64 (.ofNat o)])
  | .slice (some ⟨b, _, none⟩) n _ => .iface 91 (.tuple #[.int .i64 (.ofNat b), .int .i64 (.ofNat n)])
  | .agg as => .agg (as.toList.map ih).toArray
  | .tuple as => .tuple (as.toList.map ih).toArray
  | .func (.func f) a c => .func (.func f) (a.toList.map ih).toArray (c.toList.map ih).toArray
  | v => v
noncomputable def roV (n : Nat) : Value → Value := Nat.rec (fun v => v) (fun _ ih => roVB ih) n
noncomputable def roOkB (g : Mem) (ih : Value → Bool) (v : Value) : Bool :=
  match v with
  | .pointer (some ⟨b, _, none⟩) => !(keeps (g b))
  | .slice (some ⟨b, o, none⟩) _ _ => Nat.beq o 0 && !(keeps (g b))
  | .agg as => as.toList.all ih
  | .tuple as => as.toList.all ih
  | .func (.func _) a c => a.toList.all ih && c.toList.all ih
  | .func (.yield _) _ _ => false
  | .iface t p => bi (Nat.beq t 91 || (Nat.beq t 92 || (Nat.beq t 93 || Nat.beq t 95))) (match p with
    | .tuple zs => match zs.toList with
      | .int _ (.ofNat id) :: _ => keeps (g id)
      | _ => false
    | _ => false) true
  | _ => true
noncomputable def roOk (g : Mem) (n : Nat) : Value → Bool := Nat.rec (fun _ => false) (fun _ ih => roOkB g ih) n
theorem roM_no {g : Mem} {M : Mp} {id b r : Nat} (h : (!(keeps (g id))) = true) (e : M id = some (b, r)) : roM g M id = some (b, 0) := by
  unfold roM
  rw [e]
  cases hk : keeps (g id) with
  | true => rw [hk] at h; cases h
  | false => rfl
theorem roM_yes {g : Mem} {M : Mp} {id b r : Nat} (h : keeps (g id) = true) (e : M id = some (b, r)) : roM g M id = some (b, r) := by
  unfold roM
  rw [e, Option.map_some, if_pos h]
theorem map_at {f : Value → Value} {a : Array Value} {i : Nat} {v : Value} (h : (a.toList.map f).toArray[i]? = some v) : ∃ u, a[i]? = some u ∧ v = f u := by
  rw [List.getElem?_toArray, List.getElem?_map, Array.getElem?_toList] at h
  cases e : a[i]? with
  | none => rw [e] at h; cases h
  | some u => rw [e] at h; exact ⟨u, rfl, (Option.some.inj h).symm⟩
theorem VRel.ro {M : Mp} {g : Mem} : ∀ (n : Nat) (v v' : Value), roOk g n v = true → VRel P M v v' → VRel P (roM g M) (roV n v) v'
  | 0, v, v', h, _ => by cases h
  | n + 1, v, v', h, d => by
    cases d with
    | bool b => exact .bool b
    | int kd m => exact .int kd m
    | str s => exact .str s
    | nilp => exact .nilp
    | @ptr b b' r o h1 =>
      have := VRel.opp (P := P) (o := o) (roM_no (g := g) h h1)
      rwa [Nat.zero_add] at this
    | nils a c => exact .nils a c
    | @slc b b' r o m c h1 hc =>
      have h := Bool.and_eq_true_iff.1 h
      have := Nat.eq_of_beq_eq_true h.1
      subst this
      exact .osl (roM_no h.2 h1) (.lit (m : Int))
    | @slo b b' r m h1 hn =>
      have h : (!(keeps (g b))) = true := h
      exact .osl (roM_no h h1) (.lit (m : Int))
    | @slx b b' r o m c h1 hn =>
      have h := Bool.and_eq_true_iff.1 h
      have := Nat.eq_of_beq_eq_true h.1
      subst this
      exact .osl (roM_no h.2 h1) (.lit (m : Int))
    | nilm => exact .nilm
    | nilf => exact .nilf
    | nili => exact .nili
    | func f ha h1 hc h2 =>
      have h := Bool.and_eq_true_iff.1 h
      refine .func f (by simpa using ha) (fun i u u' e e' => ?_) (by simpa using hc) (fun i u u' e e' => ?_)
      · obtain ⟨x, ex, rfl⟩ := map_at e
        exact VRel.ro n x u' (all_at h.1 ex) (h1 i x u' ex e')
      · obtain ⟨x, ex, rfl⟩ := map_at e
        exact VRel.ro n x u' (all_at h.2 ex) (h2 i x u' ex e')
    | yld h1 => cases h
    | sym d ht => exact .sym d ht
    | hol h1 h2 h3 => exact .hol h1 h2 h3
    | osl h1 hn => exact .osl (roM_yes h h1) hn
    | osk h1 hn => exact .osk (roM_yes h h1) hn
    | hsl h1 hn => exact .hsl h1 hn
    | osm h1 hn hN => exact .osm (roM_yes h h1) hn hN
    | opp h1 => exact .opp (roM_yes h h1)
    | fvl hz hd h1 => exact .fvl hz hd h1
    | fst hz hd => exact .fst hz hd
    | fpp hz hd hk hl hs => exact .fpp hz hd hk hl hs
    | agg ha h1 =>
      have h : _ = true := h
      refine .agg (by simpa using ha) fun i u u' e e' => ?_
      obtain ⟨x, ex, rfl⟩ := map_at e
      exact VRel.ro n x u' (all_at h ex) (h1 i x u' ex e')
    | tup ha h1 =>
      have h : _ = true := h
      refine .tup (by simpa using ha) fun i u u' e e' => ?_
      obtain ⟨x, ex, rfl⟩ := map_at e
      exact VRel.ro n x u' (all_at h ex) (h1 i x u' ex e')
theorem LRel.ro {M : Mp} {g : Mem} {n : Nat} {l l' : List Value} (h : l.all (roOk g n) = true) (hl : LRel P M l l') : LRel P (roM g M) (l.map (roV n)) l' :=
  ⟨by rw [List.length_map]; exact hl.1, fun i v v' e e' => by
    rw [List.getElem?_map] at e
    cases hx : l[i]? with
    | none => rw [hx] at e; cases e
    | some x =>
      rw [hx] at e
      cases e
      exact VRel.ro n x v' (List.all_eq_true.1 h x (List.mem_of_getElem? hx)) (hl.2 i x v' hx e')⟩
noncomputable def roO (o : AObj) : Option AObj :=
  match o with
  | .row c _ _ => some (.win (c.map (roV 20)))
  | .win c => some (.win (c.map (roV 20)))
  | .opq k l => some (.opq k l)
  | _ => none
noncomputable def roOkO (g : Mem) (o : AObj) : Bool :=
  match o with
  | .row c _ _ => c.all (roOk g 20)
  | .win c => c.all (roOk g 20)
  | _ => true
theorem HRel.ro {B : Nat} {M : Mp} {t : T AObj} {w : World} (hq : ∀ ob, P.den.pin ob) (h : T.allO (roOkO t.get) t = true) (hr : HRel P B M t.get w) : HRel P B (roM t.get M) (T.mapO roO t).get w ∧ ∀ id, wrt ((T.mapO roO t).get id) = false := by
  have key : ∀ id o, (T.mapO roO t).get id = some o → ∃ o0, t.get id = some o0 ∧ roO o0 = some o := fun id o e => by
    rw [T.mapO_get] at e
    cases h0 : t.get id with
    | none => rw [h0] at e; cases e
    | some o0 => rw [h0] at e; exact ⟨o0, rfl, e⟩
  have nw : ∀ id, wrt ((T.mapO roO t).get id) = false := fun id => by
    cases e : (T.mapO roO t).get id with
    | none => rfl
    | some o =>
      obtain ⟨o0, _, e1⟩ := key id o e
      cases o0 <;> cases e1 <;> rfl
  refine ⟨⟨fun id o e => ?_, fun i j b r r' hi => (by rw [nw i] at hi; cases hi), fun b c hb => ⟨(hr.old b c hb).1, fun i r hi => (by rw [nw i] at hi; cases hi)⟩⟩, nw⟩
  obtain ⟨o0, e0, e1⟩ := key id o e
  have hk := T.allO_get t id o0 h e0
  obtain ⟨b, r, ob, k1, k2, k3, k4⟩ := hr.has id o0 e0
  cases o0 with
  | loop => cases e1
  | dfr => cases e1
  | opq j l =>
    cases e1
    exact ⟨b, r, ob, roM_yes (by rw [e0]; rfl) k1, k2, k3, k4⟩
  | win c =>
    cases e1
    obtain ⟨c', el, fr, h1, h2, h3⟩ := k4
    exact ⟨b, r, ob, roM_yes (by rw [e0]; rfl) k1, k2, k3, c', el, fr, h1, by rw [List.length_map]; exact h2.ro hk, h3⟩
  | row c el p =>
    cases e1
    obtain ⟨c', h1, h2, h3, h4⟩ := k4
    refine ⟨b, 0, ob, roM_no (by rw [e0]; rfl) k1, k2, k3, c', el, (0, 0), h1, ?_, hq ob⟩
    rw [List.length_map, List.drop_zero]
    cases p with
    | true => exact (h4 rfl).1.ro hk
    | false =>
      have := h3 rfl
      rw [List.take_of_length_le (by rw [this.1]; exact Nat.le_refl _)]
      exact this.ro hk
/-- a call without arguments that is known to answer true -/
noncomputable def spTrue (f : Nat) : CallF := fun t args hp nid =>
  match t with
  | .fn g => ck (Nat.beq g f && Nat.beq args.length 0) (some (.bool true, hp, nid))
  | .yield _ => none
theorem ok_spTrue {P : Pg} {f : Nat} (hA : ∀ w : World, Calls P.prog f #[] w fun e w' => e = .returned (.bool true) ∧ Below w.heap.size w w') : CallOk P (spTrue f) := fun t args hp0 nid v hp' nid' h => by
  cases t with
  | yield l => cases h
  | fn g =>
    obtain ⟨hck, h1⟩ := ck_some h
    cases h1
    simp only [Bool.and_eq_true] at hck
    have hg := Nat.eq_of_beq_eq_true hck.1
    subst hg
    refine ⟨Nat.le_refl _, fun B M args' w ha hh hB hf => ?_⟩
    have h0 : args'.toList.length = 0 := by rw [← ha.1]; exact Nat.eq_of_beq_eq_true hck.2
    have : args' = #[] := by apply Array.ext'; simpa using h0
    subst this
    refine Calls.mono (hA w) ?_
    rintro e w' ⟨rfl, hb⟩
    obtain ⟨k1, k2⟩ := below_post nid hh hb
    exact ⟨M, _, rfl, .bool true, k1, k2⟩

end Sy
end Go.Proofs.Ytlmnhlmgbcpclaa
