import Derived.Test.YtagpaoglcjcaeaaEV8
import Derived.OrdersIn
import Derived.TacticsIn
import Derived.RangeFuncNested
import Derived.RangeFuncRecord
set_option linter.unusedSimpArgs false
set_option linter.unusedVariables false
namespace Go.Proofs.Ytagpaoglcjcaeaa
namespace Ev

/-! Temporaries; regions in the text's order. -/

theorem agt_cons (x : Nat × Value) (l : Tm) (t : Nat) : agt (x :: l) t = if x.1 = t then some x.2 else agt l t := by
  have h : agt (x :: l) t = bi (Nat.beq x.1 t) (some x.2) (agt l t) := rfl
  rw [h, bi_if, beq_eq]
  simp only [decide_eq_true_eq]
theorem aput_cons (x : Nat × Value) (l : Tm) (t : Nat) (v : Value) : aput (x :: l) t v = if x.1 = t then some ((t, v) :: l) else ob (aput l t v) fun l => some (x :: l) := by
  have h : aput (x :: l) t v = bi (Nat.beq x.1 t) (some ((t, v) :: l)) (ob (aput l t v) fun l => some (x :: l)) := rfl
  rw [h, bi_if, beq_eq]
  simp only [decide_eq_true_eq]
theorem agt_aput : ∀ (l : Tm) (t : Nat) (v : Value) (l' : Tm), aput l t v = some l' → ∀ k, agt l' k = if t = k then some v else agt l k
  | [], t, v, l', h, k => by
    cases h
    rw [agt_cons]
  | x :: l, t, v, l', h, k => by
    rw [aput_cons] at h
    split at h
    · rename_i e
      cases h
      rw [agt_cons, agt_cons]
      by_cases hk : t = k
      · simp [hk]
      · simp [hk, show ¬ x.1 = k from fun h => hk (e ▸ h)]
    · rename_i e
      obtain ⟨l1, h1, h⟩ := ob_some h
      cases h
      rw [agt_cons, agt_cons, agt_aput l t v l1 h1 k]
      by_cases hx : x.1 = k
      · have : ¬ t = k := fun h => e (hx.trans h.symm)
        simp [hx, this]
      · simp [hx]
theorem rd_def (loc base : Tm) (t : Nat) : rd loc base t = match agt loc t with | some v => some v | none => agt base t := by
  unfold rd
  cases agt loc t <;> rfl
theorem rd_cons (x : Nat × Value) (loc base : Tm) (t : Nat) : rd (x :: loc) base t = if x.1 = t then some x.2 else rd loc base t := by
  rw [rd_def, rd_def, agt_cons]
  by_cases h : x.1 = t <;> simp [h]
theorem rd_nil (base : Tm) (t : Nat) : rd [] base t = agt base t := rfl
theorem commit_spec {kp : Nat} : ∀ (loc base tm : Tm), commit kp loc base = some tm → ∀ k, agt tm k = if kept kp k = true then rd loc base k else agt base k
  | [], base, tm, h, k => by cases h; rw [rd_nil]; simp
  | x :: loc, base, tm, h, k => by
    have h' : (ob (commit kp loc base) fun b => bi (kept kp x.1) (aput b x.1 x.2) (some b)) = some tm := h
    obtain ⟨b, hb, h'⟩ := ob_some h'
    have ih := commit_spec loc base b hb k
    rw [rd_cons]
    rcases bi_some h' with ⟨hk, h2⟩ | ⟨hk, h2⟩
    · rw [agt_aput _ _ _ _ h2 k, ih]
      by_cases e : x.1 = k
      · subst e; simp [hk]
      · simp [e]
    · cases h2
      rw [ih]
      by_cases e : x.1 = k
      · subst e; simp [hk]
      · simp [e]

theorem forceN_eq {β : Type} (n : Nat) (k : Nat → β) : forceN n k = k n := by cases n <;> rfl
theorem forceI_eq {β : Type} (n : Int) (k : Int → β) : forceI n k = k n := by
  cases n with
  | ofNat n => exact forceN_eq n (fun n => k (.ofNat n))
  | negSucc n => exact forceN_eq n (fun n => k (.negSucc n))
theorem forceA_eq {β : Type} (v : Value) (k : Value → β) : forceA v k = k v := by
  cases v with
  | int kd n => exact forceI_eq n (fun n => k (.int kd n))
  | bool b => cases b <;> rfl
  | _ => rfl
theorem forceL_eq {β : Type} : ∀ (l : List Value) (k : List Value → β), forceL l k = k l
  | [], k => rfl
  | v :: l, k => by
    have h : forceL (v :: l) k = forceA v fun v => forceL l fun l => k (v :: l) := rfl
    rw [h, forceA_eq, forceL_eq l]
theorem forceV_eq {β : Type} (v : Value) (k : Value → β) : forceV v k = k v := by
  cases v with
  | int kd n => exact forceI_eq n (fun n => k (.int kd n))
  | bool b => cases b <;> rfl
  | agg cs =>
    have h : forceV (.agg cs) k = forceL cs.toList fun l => k (.agg l.toArray) := rfl
    rw [h, forceL_eq]
  | _ => rfl
theorem forceVs_eq {β : Type} : ∀ (l : List Value) (k : List Value → β), forceVs l k = k l
  | [], k => rfl
  | v :: l, k => by
    have h : forceVs (v :: l) k = forceV v fun v => forceVs l fun l => k (v :: l) := rfl
    rw [h, forceV_eq, forceVs_eq l]

/-- the temporaries within a region -/
structure RRel (M : Mp) (loc base : Tm) (tmps : Array Value) (nt : Nat) : Prop where
  size : tmps.size = nt
  at_ : ∀ t v, rd loc base t = some v → ∃ v', tmps[t]? = some v' ∧ VRel M v v'
theorem RRel.ext {M M' : Mp} {loc base : Tm} {tmps : Array Value} {nt : Nat} (hx : Ext M M') (h : RRel M loc base tmps nt) : RRel M' loc base tmps nt :=
  ⟨h.size, fun t v e => (h.at_ t v e).imp fun _ k => ⟨k.1, k.2.ext hx⟩⟩
theorem RRel.erel {M : Mp} {loc base : Tm} {nt : Nat} {a : Act} (h : RRel M loc base a.tmps nt) : ERel M (evX loc base) a.eval := by
  intro x v e
  cases x with
  | tmp t =>
    obtain ⟨v', e', hr⟩ := h.at_ t v e
    have : a.eval (.tmp t) = v' := by simp [Act.eval, e']
    rw [this]; exact hr
  | const c =>
    obtain ⟨hf, e⟩ := ck_some (b := flat c) e
    cases e
    exact flat_same M hf
  | global g => cases e
  | func f => cases e; exact .func f rfl (fun i v v' h => by simp at h) rfl (fun i v v' h => by simp at h)
def locPut (dst : Option Tmp) (v : Value) (loc : Tm) : Tm :=
  match dst with
  | some d => (d, v) :: loc
  | none => loc
theorem putT_spec {loc : Tm} {nt : Nat} {hp : T AObj} {nid : Nat} {dst : Option Tmp} {v : Value} {s : RS} (h : putT loc nt hp nid dst v = some s) :
    s.hp = hp ∧ s.nid = nid ∧ s.loc = locPut dst v loc ∧ ∀ d, dst = some d → d < nt := by
  cases dst with
  | none => cases h; exact ⟨rfl, rfl, rfl, fun d e => by cases e⟩
  | some d =>
    have h' : ck (Nat.ble (Nat.succ d) nt) (forceV v fun v => some ⟨(d, v) :: loc, hp, nid⟩) = some s := h
    obtain ⟨hd, h'⟩ := ck_some h'
    rw [forceV_eq] at h'
    cases h'
    exact ⟨rfl, rfl, rfl, fun e he => by cases he; exact Nat.le_of_ble_eq_true hd⟩
theorem RRel.put {M : Mp} {loc base : Tm} {nt : Nat} {a : Act} (h : RRel M loc base a.tmps nt) {dst : Option Tmp} {v v' : Value} (hv : VRel M v v') (hd : ∀ d, dst = some d → d < nt) :
    RRel M (locPut dst v loc) base (a.put dst v').tmps nt := by
  cases dst with
  | none => exact h
  | some d =>
    have hlt := hd d rfl
    show RRel M ((d, v) :: loc) base _ nt
    refine ⟨by simpa [Act.put] using h.size, fun t u e => ?_⟩
    rw [rd_cons] at e
    simp only [Act.put]
    by_cases ht : d = t
    · subst ht
      simp only [if_true] at e
      cases e
      exact ⟨v', by simp [Array.getElem?_setIfInBounds, h.size, hlt], hv⟩
    · simp only [ht, if_false] at e
      obtain ⟨u', e', hr⟩ := h.at_ t u e
      exact ⟨u', by rw [Array.getElem?_setIfInBounds_ne ht]; exact e', hr⟩

theorem isB_rel {M : Mp} {v v' : Value} (h : VRel M v v') (want : Bool) : isB v' want = isB v want := by cases h <;> rfl
theorem wantedV_spec {M : Mp} {ops : Array Oper} {loc base : Tm} {nt : Nat} {a : Act} {o : Oper} {b : Bool} (h : wantedV ops loc base o = some b) (hr : RRel M loc base a.tmps nt) :
    Region.wanted o (yielded ops a.tmps) = b := by
  unfold wantedV at h
  unfold Region.wanted
  cases hg : o.guard with
  | none => rw [hg] at h; cases h; rfl
  | some g =>
    rw [hg] at h
    obtain ⟨j, want⟩ := g
    have h' : (ob (dstOf ops j) fun d => ob (rd loc base d) fun v => some (isB v want)) = some b := h
    obtain ⟨d, hd, h'⟩ := ob_some h'
    obtain ⟨v, hv, h'⟩ := ob_some h'
    cases h'
    obtain ⟨v', e', hvr⟩ := hr.at_ d v hv
    have hd' : (ops[j]?).bind (·.dst) = some d := hd
    simp only [yielded, hd', Option.bind_some, e']
    rw [← isB_rel hvr want]
    cases v' <;> simp [isB]

/-- the fence of a function's frame (none), of a round's -/
def Fr (r : Option Nat) : Fence := match r with
  | none => Fence.wide
  | some l => Fence.wide.inRound l
theorem Fr_fn (r : Option Nat) (f : FuncId) : (Fr r).fn f := by cases r <;> trivial
theorem Fr_depth (r : Option Nat) : (Fr r).depth = none := by cases r <;> rfl
theorem Fr_round (r : Option Nat) : (Fr r).round = r := by cases r <;> rfl
theorem callsIn_fr {P : Program} (r : Option Nat) {n : Nat} {f : FuncId} {args : Array Value} {w : World} {R : Ending → World → Prop} (h : Calls P f args w R) : CallsIn (Fr r) n P f args w R := by
  have h1 := (callsIn_wide (n := n)).2 h
  cases r <;> exact h1
theorem roundIn_fr {P : Program} (r : Option Nat) {n : Nat} {l : Nat} {f : FuncId} {tmps : Array Value} {as_ body : Code} {w : World} {R : Ending → World → Prop}
    (h : RoundIn Fence.wide n P l f tmps as_ body w R) : RoundIn (Fr r) n P l f tmps as_ body w R := by cases r <;> exact h
/-- what a call of a function, or of yield, comes to -/
def CallsT (P : Program) (M : Mp) (t : Tgt) (args : Array Value) (w : World) (R : Ending → World → Prop) : Prop :=
  match t with
  | .fn f => Calls P f args w R
  | .yield l => ∃ l' rr f tmps as_ body, M l = some (l', rr) ∧ (Instr.yield l' args).run P w = .ok (.round l' f tmps as_ body) w ∧ RoundIn Fence.wide 0 P l' f tmps as_ body w R
theorem CallsT.mono {P : Program} {M : Mp} {t : Tgt} {args : Array Value} {w : World} {R R' : Ending → World → Prop} (h : CallsT P M t args w R) (hr : ∀ e w', R e w' → R' e w') : CallsT P M t args w R' := by
  cases t with
  | fn f => exact Calls.mono h hr
  | yield l =>
    obtain ⟨l', rr, f, tmps, as_, body, h1, h2, h3⟩ := h
    exact ⟨l', rr, f, tmps, as_, body, h1, h2, h3.mono hr⟩
theorem CallsT.of_none {P : Program} {M : Mp} {t : Tgt} {args : Array Value} {w : World} {R : Ending → World → Prop} (h : CallsT P (fun _ => none) t args w R) : CallsT P M t args w R := by
  cases t with
  | fn f => exact h
  | yield l =>
    obtain ⟨l', rr, f, tmps, as_, body, h1, _⟩ := h
    cases h1
theorem upon_call {P : Program} {M : Mp} {r : Option Nat} {o : Oper} {a : Act} {w : World} {next : Act → World → Prop} {Q : Exit → Act → World → Prop} {t : Tgt} {args' : Array Value} {s : Result Next}
    (hm : match t with
      | .fn f => s = .ok (.enter f args') w ∧ callable P f = true
      | .yield l => ∃ l' rr, M l = some (l', rr) ∧ s = (Instr.yield l' args').run P w)
    (hc : CallsT P M t args' w fun e w' => ∃ v, e = .returned v ∧ next (a.put o.dst v) w') : o.uponIn (Fr r) 0 P a next Q s := by
  cases t with
  | fn f =>
    obtain ⟨rfl, _⟩ := hm
    refine ⟨fun hd => (by rw [Fr_depth] at hd; cases hd), (callsIn_fr r hc).mono ?_⟩
    rintro e w' ⟨v, rfl, hn⟩
    exact hn
  | yield l =>
    obtain ⟨l1, r1, e1, rfl⟩ := hm
    obtain ⟨l', rr, f, tmps, as_, body, e2, e3, e4⟩ := hc
    rw [e1] at e2
    cases e2
    rw [e3]
    refine ⟨fun hd => (by rw [Fr_depth] at hd; cases hd), (roundIn_fr r e4).mono ?_⟩
    rintro e w' ⟨v, rfl, hn⟩
    exact hn
theorem sem_fr' {o : Oper} (h : ∀ c, o.op ≠ .defer c) (r : Option Nat) (ρ : Operand → Value) : o.semAt (Fr r).round ρ = execOp ρ o := by
  rw [Fr_round]
  cases r with
  | none => rfl
  | some l => exact Oper.semAt_some l ρ o h
/-- no operation that is reckoned defers -/
theorem sem_fr {P : Program} {e : Operand → Option Value} {o : Oper} {hp : T AObj} {nid : Nat} {x : OR} (h : evOp P e o hp nid = some x) (r : Option Nat) (ρ : Operand → Value) : o.semAt (Fr r).round ρ = execOp ρ o := by
  rw [Fr_round]
  cases r with
  | none => rfl
  | some l =>
    refine Oper.semAt_some l ρ o fun c ho => ?_
    have h1 : opSel o.op P e o hp nid = some x := h
    rw [ho] at h1
    have h2 : evFlat P e o = some x := h1
    obtain ⟨_, h3⟩ := ck_some h2
    obtain ⟨v, h4, _⟩ := ob_some h3
    unfold onVal at h4
    split at h4
    · rename_i v' h5
      have h6 := prun_run (w := default) _ _ h5
      unfold execOp at h6
      rw [ho] at h6
      simp only [Sem.run_bind] at h6
      cases h7 : (resolve (totX e) c o.type).run P default with
      | ok d w' => rw [h7] at h6; simp [Result.andThen] at h6
      | halt y w' => rw [h7] at h6; cases h6
    · cases h4

def CallOk (P : Program) (callF : CallF) : Prop := ∀ f args hp nid v hp' nid', callF f args hp nid = some (v, hp', nid') → nid ≤ nid' ∧
  ∀ B M (args' : Array Value) w, LRel M args args'.toList → HRel P B M hp.get w → B ≤ w.heap.size → (∀ id, nid ≤ id → id < nid' → M id = none) →
    CallsT P M f args' w fun e w' => ∃ M' v', e = .returned v' ∧ VRel M' v v' ∧ HRel P B M' hp'.get w' ∧ Evol M hp.get nid w M' hp'.get nid' w'

structure SInv (ds : List Deferred) (P : Program) (B : Nat) (M : Mp) (loc base : Tm) (nt : Nat) (hp : T AObj) (a : Act) (w : World) : Prop where
  defers : a.defers = ds
  tmps : RRel M loc base a.tmps nt
  heap : HRel P B M hp.get w
  base_ : B ≤ w.heap.size
theorem Act.put_defers' (a : Act) (dst : Option Tmp) (v : Value) : (a.put dst v).defers = a.defers := by cases dst <;> rfl

section
variable {P : Program} {callF : CallF} {ops : Array Oper} {base : Tm} {nt : Nat} {Q : Exit → Act → World → Prop} {ds : List Deferred} {rf : Option Nat}

theorem le_step {o : Oper} {s s' : RS} (h : evStep P callF ops base nt o s = some s') : s.nid ≤ s'.nid := by
  obtain ⟨b, hb, h⟩ := ob_some h
  rcases bi_some h with ⟨_, h⟩ | ⟨_, h⟩
  · obtain ⟨r, hr, h⟩ := ob_some h
    cases r with
    | val v => rw [(putT_spec h).2.1]; exact Nat.le_refl _
    | new v ob' =>
      obtain ⟨hp, _, h⟩ := ob_some h
      rw [(putT_spec h).2.1]; exact Nat.le_succ _
    | eff v hp nid =>
      obtain ⟨hc, h⟩ := ck_some h
      rw [(putT_spec h).2.1]; exact Nat.le_of_ble_eq_true hc
    | call f args =>
      obtain ⟨q, _, h⟩ := ob_some h
      obtain ⟨hc, h⟩ := ck_some h
      rw [(putT_spec h).2.1]; exact Nat.le_of_ble_eq_true hc
  · rw [(putT_spec h).2.1]; exact Nat.le_refl _
theorem le_steps : ∀ (l : List Oper) (s s' : RS), evSteps P callF ops base nt l s = some s' → s.nid ≤ s'.nid
  | [], s, s', h => by cases h; exact Nat.le_refl _
  | o :: l, s, s', h => by
    have h' : (ob (evStep P callF ops base nt o s) fun s => evSteps P callF ops base nt l s) = some s' := h
    obtain ⟨s1, h1, h'⟩ := ob_some h'
    exact Nat.le_trans (le_step h1) (le_steps l s1 s' h')

/-- one operation -/
theorem ok_step (hc : CallOk P callF) {i : Nat} {o : Oper} (hi : ops[i]? = some o) {s s' : RS} (h : evStep P callF ops base nt o s = some s') {B : Nat} {M : Mp} {a : Act} {w : World}
    (hs : SInv ds P B M s.loc base nt s.hp a w) (hf : ∀ id, s.nid ≤ id → id < s'.nid → M id = none) {K : Act → World → Prop}
    (hK : ∀ M' a' w', SInv ds P B M' s'.loc base nt s'.hp a' w' → Evol M s.hp.get s.nid w M' s'.hp.get s'.nid w' → K a' w') : wpOpIn (Fr rf) 0 P ops Q i K a w := by
  unfold wpOpIn
  simp only [hi]
  replace h := ob_some h
  obtain ⟨b, hb, h⟩ := h
  rw [wantedV_spec hb hs.tmps]
  rcases bi_some h with ⟨e, h1⟩ | ⟨e, h1⟩ <;> clear h <;> subst e
  · rw [if_pos rfl]
    replace h1 := ob_some h1
    obtain ⟨r, hr, h⟩ := h1
    refine ⟨fun _ _ => Fr_fn _ _, ?_⟩
    rw [sem_fr hr]
    have hn : s.nid < topOf s.nid r → M s.nid = none := by
      intro hlt
      refine hf _ (Nat.le_refl _) ?_
      cases r with
      | val v => simp [topOf] at hlt
      | new v ob' =>
        obtain ⟨hp, _, h2⟩ := ob_some h
        rw [(putT_spec h2).2.1]; exact Nat.lt_succ_self _
      | eff v hp nid =>
        obtain ⟨_, h2⟩ := ck_some h
        rw [(putT_spec h2).2.1]; exact hlt
      | call f args => simp [topOf] at hlt
    have hok := ok_op (B := B) (w := w) hr hs.tmps.erel hs.heap hs.base_ hn
    cases r with
    | val v =>
      obtain ⟨v', e1, hv⟩ := hok
      rw [e1]
      obtain ⟨p1, p2, p3, p4⟩ := putT_spec h
      refine hK M _ _ ⟨by rw [Act.put_defers']; exact hs.defers, ?_, by rw [p1]; exact hs.heap, hs.base_⟩ (by rw [p1, p2]; exact Evol.refl _ _ _ _)
      rw [p3]; exact hs.tmps.put hv p4
    | new v ob' =>
      obtain ⟨v', obj, e1, hv, ho⟩ := hok
      rw [e1]
      obtain ⟨hp, hset, h2⟩ := ob_some h
      obtain ⟨p1, p2, p3, p4⟩ := putT_spec h2
      have hM := hn (by simp [topOf])
      have hget := T.get_set _ _ _ _ hset
      have ho' := ho.ext (Mp.upd_ext (b := w.heap.size) (r := 0) hM)
      refine hK (M.upd s.nid w.heap.size 0) _ _ ⟨by rw [Act.put_defers']; exact hs.defers, ?_, ?_, ?_⟩ ?_
      · rw [p3]; exact (hs.tmps.ext (Mp.upd_ext hM)).put hv p4
      · rw [p1]; exact hs.heap.push hs.base_ hM hget rfl ho'
      · simp; exact Nat.le_succ_of_le hs.base_
      · rw [p1, p2]; exact Evol.push hs.heap hM hget rfl rfl rfl rfl
    | eff v hp nid =>
      obtain ⟨x, v', w', M', e1, hx, hv, hh, hev⟩ := hok
      obtain ⟨_, h2⟩ := ck_some h
      obtain ⟨p1, p2, p3, p4⟩ := putT_spec h2
      have hfin : K (a.put o.dst v') w' := by
        refine hK M' _ _ ⟨by rw [Act.put_defers']; exact hs.defers, ?_, by rw [p1]; exact hh, Nat.le_trans hs.base_ hev.size⟩ (by rw [p1, p2]; exact hev)
        rw [p3]; exact (hs.tmps.ext hev.ext).put hv p4
      rw [e1]
      rcases hx with rfl | ⟨rfl, rfl⟩
      · exact hfin
      · exact hfin
    | call f args =>
      obtain ⟨args', hl, hm⟩ := hok
      obtain ⟨⟨v, hp, nid⟩, hcall, h2⟩ := ob_some h
      obtain ⟨_, h3⟩ := ck_some h2
      obtain ⟨p1, p2, p3, p4⟩ := putT_spec h3
      obtain ⟨_, hrun⟩ := hc _ _ _ _ _ _ _ hcall
      refine upon_call hm ((hrun B M args' w hl hs.heap hs.base_ (fun id h1 h2 => hf id h1 (by rw [p2]; exact h2))).mono ?_)
      rintro e w' ⟨M', v', rfl, hv, hh, hev⟩
      refine ⟨v', rfl, ?_⟩
      refine hK M' _ _ ⟨by rw [Act.put_defers']; exact hs.defers, ?_, by rw [p1]; exact hh, Nat.le_trans hs.base_ hev.size⟩ (by rw [p1, p2]; exact hev)
      rw [p3]; exact (hs.tmps.ext hev.ext).put hv p4
  · rw [if_neg (by simp)]
    refine ⟨fun _ _ => Fr_fn _ _, ?_⟩
    obtain ⟨p1, p2, p3, p4⟩ := putT_spec h1
    refine hK M _ _ ⟨by rw [Act.put_defers']; exact hs.defers, ?_, by rw [p1]; exact hs.heap, hs.base_⟩ (by rw [p1, p2]; exact Evol.refl _ _ _ _)
    rw [p3]; exact hs.tmps.put (LRel.tup (LRel.nil M)) p4

theorem ok_steps (hc : CallOk P callF) : ∀ (l : List Oper) (i : Nat) (s s' : RS), (∀ k, l[k]? = ops[i + k]?) → evSteps P callF ops base nt l s = some s' → ∀ {B : Nat} {M : Mp} {a : Act} {w : World},
    SInv ds P B M s.loc base nt s.hp a w → (∀ id, s.nid ≤ id → id < s'.nid → M id = none) →
    (∀ M' a' w', SInv ds P B M' s'.loc base nt s'.hp a' w' → Evol M s.hp.get s.nid w M' s'.hp.get s'.nid w' → Q .normal a' w') → wpOpsIn (Fr rf) 0 P ops Q (List.range' i l.length) a w
  | [], i, s, s', hl, h, B, M, a, w, hs, hf, hK => by
    cases h
    exact hK M a w hs (Evol.refl _ _ _ _)
  | o :: l, i, s, s', hl, h, B, M, a, w, hs, hf, hK => by
    have h' : (ob (evStep P callF ops base nt o s) fun s => evSteps P callF ops base nt l s) = some s' := h
    obtain ⟨s1, h1, h2⟩ := ob_some h'
    have l1 := le_step h1
    have l2 := le_steps l s1 s' h2
    rw [List.length_cons, List.range'_succ, wpOpsIn_cons]
    have hi : ops[i]? = some o := by have := hl 0; simpa using this.symm
    refine ok_step hc hi h1 hs (fun id a1 a2 => hf id a1 (by omega)) fun M' a' w' hs' hev => ?_
    refine ok_steps hc l (i + 1) s1 s' (fun k => by have := hl (k + 1); rw [show i + (k + 1) = i + 1 + k by omega] at this; simpa using this) h2 hs' (fun id a1 a2 => ?_) fun M2 a2 w2 hs2 hev2 => hK M2 a2 w2 hs2 (hev.trans hev2)
    cases e : M' id with
    | none => rfl
    | some x =>
      have := hev.dom id (hf id (by omega) a2) (by rw [e]; simp)
      omega
end
end Ev
end Go.Proofs.Ytagpaoglcjcaeaa
