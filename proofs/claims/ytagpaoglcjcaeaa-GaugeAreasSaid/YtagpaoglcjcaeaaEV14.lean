import Derived.Test.YtagpaoglcjcaeaaEV13
set_option linter.unusedSimpArgs false
set_option linter.unusedVariables false
namespace Go.Proofs.Ytagpaoglcjcaeaa
namespace Ev

section
variable {P : Program} {callF : CallF} {ops : Array Oper} {base : Tm} {nt : Nat} {hp0 : T AObj} {nid0 : Nat} {σ : Nat → DS} {B : Nat} {M0 M : Mp} {w0 w : World} {l : Array Bool} {p : Nat} {a : Act} {ds : List Deferred} {rf : Option Nat}

theorem lst_set {i j : Nat} (hi : i < l.size) : Lst (l.setIfInBounds i true) j ↔ j = i ∨ Lst l j := by
  unfold Lst
  by_cases h : i = j
  · subst h; simp [hi]
  · simp [Array.getElem?_setIfInBounds_ne h, show ¬ j = i from fun e => h e.symm]
structure Rdy (ops : Array Oper) (l : Array Bool) (i : Nat) (o : Oper) : Prop where
  op : ops[i]? = some o
  un : ¬ Lst l i
  pre : ∀ e ∈ o.after, Region.binds .any e = true → Lst l e.on
theorem rdy_of {i : Nat} (hs : l.size = ops.size) (h : i ∈ Region.ready .any ops l) : ∃ o, Rdy ops l i o := by
  obtain ⟨h1, o, ho, h2⟩ := mem_ready.1 h
  refine ⟨o, ho, ?_, h2⟩
  have hlt := (Array.getElem?_eq_some_iff.1 ho).1
  have hl : i < l.size := by omega
  unfold Lst
  simp [hl] at h1 ⊢
  exact h1

theorem DInv.look (W : Way P callF ops base nt hp0 nid0 σ) (h : DInv ds P ops base nt hp0 nid0 σ B M0 w0 l p M a w) {i : Nat} {o : Oper} (hr : Rdy ops l i o) :
    ∀ t v, t ∈ Oper.looksAt ops o → rd (σ i).loc base t = some v → ∃ v', a.tmps[t]? = some v' ∧ VRel M v v' := by
  have hlt : i < ops.size := (Array.getElem?_eq_some_iff.1 hr.op).1
  obtain ⟨o', m, ho', hm, _, _⟩ := W.op hlt
  rw [hr.op] at ho'
  cases ho'
  intro t v ht e
  rw [rd_def] at e
  cases hloc : agt (σ i).loc t with
  | some u =>
    rw [hloc] at e
    cases e
    obtain ⟨j, oj, hj, hoj, hdj⟩ := (W.written i (by omega) t).1 (by rw [hloc]; rfl)
    obtain ⟨m', hm', hor⟩ := W.reg.pair j i oj o hoj hr.op hj
    rw [hm] at hm'
    cases hm'
    rcases hor with hb | ⟨hap, _⟩
    · have hL := ahead h.closed i o m hr.op hm hr.pre j hb
      exact h.tmps1 j oj t v hoj hdj hL (W.keeps hloc (by omega) _ (by omega) (Nat.le_refl _))
    · exact absurd ht ((Oper.apart_spec hap).1 t hdj)
  | none =>
    rw [hloc] at e
    refine h.tmps0 t v (fun j oj hoj hdj hL => ?_) e
    rcases Nat.lt_trichotomy j i with hji | hji | hji
    · have := (W.written i (by omega) t).2 ⟨j, oj, hji, hoj, hdj⟩
      rw [hloc] at this; cases this
    · subst hji; exact hr.un hL
    · obtain ⟨m', hm', hor⟩ := W.reg.pair i j o oj hr.op hoj hji
      rcases hor with hb | ⟨hap, _⟩
      · exact hr.un (ahead' h.closed hoj hm' hL hb)
      · exact (Oper.apart_spec hap).2.2 t hdj ht
theorem DInv.erel (W : Way P callF ops base nt hp0 nid0 σ) (h : DInv ds P ops base nt hp0 nid0 σ B M0 w0 l p M a w) {i : Nat} {o : Oper} (hr : Rdy ops l i o) :
    ERel M (evXr (Oper.looksAt ops o) (σ i).loc base) a.eval := by
  intro x v e
  cases x with
  | tmp t =>
    obtain ⟨hc, e⟩ := ck_some (b := (Oper.looksAt ops o).any fun u => Nat.beq u t) e
    obtain ⟨u, hu, hb⟩ := List.any_eq_true.1 hc
    rw [Nat.eq_of_beq_eq_true hb] at hu
    obtain ⟨v', e', hv⟩ := h.look W hr t v hu e
    have : a.eval (.tmp t) = v' := by simp [Act.eval, e']
    rw [this]; exact hv
  | const c =>
    obtain ⟨hf, e⟩ := ck_some (b := flat c) e
    cases e
    exact flat_same M hf
  | global g => cases e
  | func f => cases e; exact .func f rfl (fun i v v' h => by simp at h) rfl (fun i v v' h => by simp at h)
theorem DInv.wanted (W : Way P callF ops base nt hp0 nid0 σ) (h : DInv ds P ops base nt hp0 nid0 σ B M0 w0 l p M a w) {i : Nat} {o : Oper} (hr : Rdy ops l i o) {b : Bool}
    (hw : wantedV ops (σ i).loc base o = some b) : Region.wanted o (yielded ops a.tmps) = b := by
  unfold wantedV at hw
  unfold Region.wanted
  cases hg : o.guard with
  | none => rw [hg] at hw; cases hw; rfl
  | some g =>
    rw [hg] at hw
    obtain ⟨j, want⟩ := g
    have h' : (ob (dstOf ops j) fun d => ob (rd (σ i).loc base d) fun v => some (isB v want)) = some b := hw
    obtain ⟨d, hd, h'⟩ := ob_some h'
    obtain ⟨v, hv, h'⟩ := ob_some h'
    cases h'
    have hd' : (ops[j]?).bind (·.dst) = some d := hd
    obtain ⟨v', e', hvr⟩ := h.look W hr d v (by simp [Oper.looksAt, hg, hd']) hv
    simp only [yielded, hd', Option.bind_some, e']
    rw [← isB_rel hvr want]
    cases v' <;> simp [isB]

theorem DInv.advance (W : Way P callF ops base nt hp0 nid0 σ) (h : DInv ds P ops base nt hp0 nid0 σ B M0 w0 l p M a w) {i : Nat} {o : Oper} (hr : Rdy ops l i o) {v v' : Value} {p' : Nat} {M' : Mp} {w' : World}
    (hdst : ∀ d, o.dst = some d → d < nt) (hl : (σ (i + 1)).loc = locPut o.dst v (σ i).loc) (hst : IsStage ops (l.setIfInBounds i true) p') (hv : VRel M' v v')
    (hh : HRel P B M' (stg ops σ p' (l.setIfInBounds i true)) w') (hev : Evol M (stg ops σ p l) nid0 w M' (stg ops σ p' (l.setIfInBounds i true)) (σ ops.size).nid w')
    (hdom : ∀ id, M id = none → M' id ≠ none → (σ i).nid ≤ id ∧ id < (σ (i + 1)).nid) :
    DInv ds P ops base nt hp0 nid0 σ B M0 w0 (l.setIfInBounds i true) p' M' (a.put o.dst v') w' := by
  have hlt : i < ops.size := (Array.getElem?_eq_some_iff.1 hr.op).1
  have hli : i < l.size := by rw [h.size]; exact hlt
  refine ⟨by simp [h.size], ?_, hst, by rw [Act.put_defers']; exact h.defers, ?_, ?_, ?_, hh, Nat.le_trans h.base_ hev.size, ?_, h.evol.trans2 hev⟩
  · intro k ok hk hok e he hb
    rw [lst_set hli] at hk ⊢
    right
    rcases hk with rfl | hk
    · rw [hr.op] at hok; cases hok; exact hr.pre e he hb
    · exact h.closed k ok hk hok e he hb
  · cases hd : o.dst <;> simp [Act.put, h.tsize]
  · intro j oj d u hoj hdj hL hu
    rw [lst_set hli] at hL
    by_cases hji : j = i
    · subst hji
      rw [hr.op] at hoj
      cases hoj
      have h1 : agt (σ (j + 1)).loc d = some v := by rw [hl, agt_locPut, if_pos hdj]
      rw [W.keeps h1 (by omega) _ (by omega) (Nat.le_refl _)] at hu
      cases hu
      refine ⟨v', ?_, hv⟩
      rw [hdj]
      simp [Act.put, Array.getElem?_setIfInBounds, h.tsize, hdst d hdj]
    · have hL := hL.resolve_left hji
      obtain ⟨u', e', hr'⟩ := h.tmps1 j oj d u hoj hdj hL hu
      refine ⟨u', ?_, hr'.ext hev.ext⟩
      cases hd : o.dst with
      | none => exact e'
      | some d0 =>
        have hne : d0 ≠ d := fun e => hji (W.reg.once j i oj o d hoj hr.op hdj (by rw [hd, e]))
        simp [Act.put, Array.getElem?_setIfInBounds_ne hne, e']
  · intro t u hno hu
    obtain ⟨u', e', hr'⟩ := h.tmps0 t u (fun j oj hoj hdj hL => hno j oj hoj hdj ((lst_set hli).2 (.inr hL))) hu
    refine ⟨u', ?_, hr'.ext hev.ext⟩
    cases hd : o.dst with
    | none => exact e'
    | some d0 =>
      have hne : d0 ≠ t := fun e => hno i o hr.op (by rw [hd, e]) ((lst_set hli).2 (.inl rfl))
      simp [Act.put, Array.getElem?_setIfInBounds_ne hne, e']
  · intro id hid
    cases e : M id with
    | some x =>
      rcases h.dom id (by rw [e]; simp) with h1 | ⟨j, j1, j2, j3⟩
      · exact .inl h1
      · exact .inr ⟨j, j1, (lst_set hli).2 (.inr j2), j3⟩
    | none => exact .inr ⟨i, hlt, (lst_set hli).2 (.inl rfl), hdom id e hid⟩

theorem stage_same (W : Way P callF ops base nt hp0 nid0 σ) (h : DInv ds P ops base nt hp0 nid0 σ B M0 w0 l p M a w) {i : Nat} {o : Oper} (hr : Rdy ops l i o) (he : isEff o = false) :
    IsStage ops (l.setIfInBounds i true) p := by
  have hlt : i < ops.size := (Array.getElem?_eq_some_iff.1 hr.op).1
  have hli : i < l.size := by rw [h.size]; exact hlt
  refine ⟨h.stage.le, fun e oe a1 a2 a3 => (lst_set hli).2 (.inr (h.stage.done e oe a1 a2 a3)), fun e oe a1 a2 a3 hL => ?_, h.stage.here⟩
  rcases (lst_set hli).1 hL with rfl | hL
  · rw [hr.op] at a2; cases a2; rw [he] at a3; cases a3
  · exact h.stage.todo e oe a1 a2 a3 hL
theorem stage_next (W : Way P callF ops base nt hp0 nid0 σ) (h : DInv ds P ops base nt hp0 nid0 σ B M0 w0 l p M a w) {i : Nat} {o : Oper} (hr : Rdy ops l i o) (he : isEff o = true) :
    p = i ∧ ∃ p', IsStage ops (l.setIfInBounds i true) p' ∧ i + 1 ≤ p' ∧ (σ p').core = (σ (i + 1)).core ∧ (σ p').abs = (σ (i + 1)).abs := by
  have hlt : i < ops.size := (Array.getElem?_eq_some_iff.1 hr.op).1
  have hli : i < l.size := by rw [h.size]; exact hlt
  obtain ⟨o', m, ho', hm, _, _⟩ := W.op hlt
  rw [hr.op] at ho'
  cases ho'
  have hpi : p = i := by
    rcases Nat.lt_trichotomy p i with hp | hp | hp
    · exfalso
      rcases h.stage.here with hn | ⟨op, hop, hep⟩
      · omega
      · obtain ⟨m', hm', hor⟩ := W.reg.pair p i op o hop hr.op hp
        rw [hm] at hm'
        cases hm'
        rcases hor with hb | ⟨_, hne⟩
        · exact h.stage.todo p op (Nat.le_refl _) hop hep (ahead h.closed i o m hr.op hm hr.pre p hb)
        · rw [hep, he] at hne; cases hne
    · exact hp
    · exact absurd (h.stage.done i o hp hr.op he) hr.un
  subst hpi
  refine ⟨rfl, ?_⟩
  obtain ⟨p', h1, h2, h3⟩ := next_stage (l := l.setIfInBounds p true) (ops := ops) (ops.size - (p + 1)) (p + 1) (by omega)
    (fun e oe a1 a2 a3 => by
      rw [lst_set hli]
      by_cases hep : e = p
      · exact .inl hep
      · exact .inr (h.stage.done e oe (by omega) a2 a3))
    (fun e oe a1 a2 a3 hL => by
      rcases (lst_set hli).1 hL with hx | hx
      · omega
      · exact h.stage.todo e oe (by omega) a2 a3 hx)
  obtain ⟨e1, e2⟩ := W.still p' h1 h2.le h3
  exact ⟨p', h2, h1, e1, e2⟩

theorem no_fl (W : Way P callF ops base nt hp0 nid0 σ) {i : Nat} (hf : (σ (i + 1)).fls = (σ i).fls) {id : Nat} {x : Nat × AObj} (hx : flOf (σ ops.size).fls id = some x) : x.1 ≠ i := by
  intro e
  obtain ⟨_, _, _, k⟩ := W.made ops.size (Nat.le_refl _) _ (flOf_mem _ _ _ hx)
  simp only at k
  rw [e] at k
  rw [hf] at k
  have := congrArg List.length k
  simp at this
theorem stg_same (W : Way P callF ops base nt hp0 nid0 σ) {i p' : Nat} (hli : i < l.size) (hf : (σ (i + 1)).fls = (σ i).fls) (h1 : (σ p').core = (σ p).core) (h2 : (σ p').abs = (σ p).abs) :
    stg ops σ p' (l.setIfInBounds i true) = stg ops σ p l := by
  funext id
  unfold stg
  rw [h1, h2]
  cases (σ p).core.get id with
  | some o => rfl
  | none =>
    simp only
    cases hx : flOf (σ ops.size).fls id with
    | none => rfl
    | some x =>
      have hne := no_fl W hf hx
      simp only
      have : Lst (l.setIfInBounds i true) x.1 ↔ Lst l x.1 := by rw [lst_set hli]; simp [hne]
      simp only [this]
theorem stg_fl {x : Nat × AObj} {id : Nat} (W : Way P callF ops base nt hp0 nid0 σ) (hp : p ≤ ops.size) (hx : flOf (σ ops.size).fls id = some x) (hL : Lst l x.1) (ha : id ∉ (σ p).abs) : stg ops σ p l id = some x.2 := by
  unfold stg
  have := (W.noclash hp (flOf_mem _ _ _ hx)).resolve_left ha
  simp only at this
  rw [this]
  simp only [hx]
  rw [if_pos ⟨hL, ha⟩]

/-- one operation of a region that draws, whichever comes -/
theorem d_step (W : Way P callF ops base nt hp0 nid0 σ) (hc : CallOk P callF) {Q : Exit → Act → World → Prop} (h : DInv ds P ops base nt hp0 nid0 σ B M0 w0 l p M a w)
    (hfree : ∀ id, nid0 ≤ id → id < (σ ops.size).nid → M0 id = none) {i : Nat} (hi : i ∈ Region.ready .any ops l) :
    wpOpIn (Fr rf) 0 P ops Q i (fun a' w' => ∃ p' M', DInv ds P ops base nt hp0 nid0 σ B M0 w0 (l.setIfInBounds i true) p' M' a' w') a w := by
  obtain ⟨o, hr⟩ := rdy_of h.size hi
  have hlt : i < ops.size := (Array.getElem?_eq_some_iff.1 hr.op).1
  have hli : i < l.size := by rw [h.size]; exact hlt
  obtain ⟨o', m, ho', hm, hk, hdst⟩ := W.op hlt
  rw [hr.op] at ho'
  cases ho'
  have herel := h.erel W hr
  have hmust : ∀ j, bit m j = true → Lst l j := fun j hb => ahead h.closed i o m hr.op hm hr.pre j hb
  -- numbers of this operation lie nowhere yet
  have hnew : ∀ id, (σ i).nid ≤ id → id < (σ (i + 1)).nid → M id = none := by
    intro id a1 a2
    cases e : M id with
    | none => rfl
    | some x =>
      exfalso
      rcases h.dom id (by rw [e]; simp) with h1 | ⟨j, j1, j2, j3, j4⟩
      · have n1 := W.nid (i := 0) (j := i) (by omega) (by omega)
        have n2 := W.nid (i := i + 1) (j := ops.size) (by omega) (Nat.le_refl _)
        rw [W.start] at n1
        exact h1 (hfree id (by simp only at n1; omega) (by omega))
      · rcases Nat.lt_trichotomy j i with hji | hji | hji
        · have := W.nid (i := j + 1) (j := i) (by omega) (by omega); omega
        · subst hji; exact hr.un j2
        · have := W.nid (i := i + 1) (j := j) (by omega) (by omega); omega
  have hrefl : ∀ g : Mem, Evol M (stg ops σ p l) nid0 w M (stg ops σ p l) (σ ops.size).nid w := fun _ => (Evol.refl M (stg ops σ p l) nid0 w).wide (Nat.le_refl _) (by have := W.nid (i := 0) (j := ops.size) (by omega) (Nat.le_refl _); rw [W.start] at this; exact this)
  unfold wpOpIn
  simp only [hr.op]
  -- nothing turns but the temporary
  have plain : ∀ {v v' : Value}, isEff o = false → (σ (i + 1)).loc = locPut o.dst v (σ i).loc → (σ (i + 1)).fls = (σ i).fls → VRel M v v' →
      ∃ p' M', DInv ds P ops base nt hp0 nid0 σ B M0 w0 (l.setIfInBounds i true) p' M' (a.put o.dst v') w := by
    intro v v' he hl hf hv
    have hs := stg_same (l := l) (p := p) (p' := p) W hli hf rfl rfl
    refine ⟨p, M, h.advance W hr hdst hl (stage_same W h hr he) hv (by rw [hs]; exact h.heap) (by rw [hs]; exact hrefl (stg ops σ p l)) (fun id a1 a2 => absurd a1 a2)⟩
  -- the same where the operation is one of those that may turn the memory
  have plainE : ∀ {v v' : Value} {w' : World}, isEff o = true → (σ (i + 1)).loc = locPut o.dst v (σ i).loc → (σ (i + 1)).fls = (σ i).fls → (σ (i + 1)).core = (σ i).core → (σ (i + 1)).abs = (σ i).abs → VRel M v v' →
      HRel P B M (stg ops σ p l) w' → Evol M (stg ops σ p l) nid0 w M (stg ops σ p l) (σ ops.size).nid w' →
      ∃ p' M', DInv ds P ops base nt hp0 nid0 σ B M0 w0 (l.setIfInBounds i true) p' M' (a.put o.dst v') w' := by
    intro v v' w' he hl hf h1 h2 hv hh hev
    obtain ⟨hpi, p', q1, q2, q3, q4⟩ := stage_next W h hr he
    subst hpi
    have hs := stg_same (l := l) (p := p) (p' := p') W hli hf (q3.trans h1) (q4.trans h2)
    refine ⟨p', M, h.advance W hr hdst hl q1 hv (by rw [hs]; exact hh) (by rw [hs]; exact hev) (fun id a1 a2 => absurd a1 a2)⟩
  cases hk with
  | skip hw hl hs =>
    rw [h.wanted W hr hw, if_neg (by simp)]
    refine ⟨fun _ _ => Fr_fn _ _, ?_⟩
    cases he : isEff o with
    | false => exact plain he hl hs.2.2.2.1 (LRel.tup (LRel.nil M))
    | true => exact plainE he hl hs.2.2.2.1 hs.1 hs.2.1 (LRel.tup (LRel.nil M)) h.heap (hrefl (stg ops σ p l))
  | val v hw he hv hl hs =>
    rw [h.wanted W hr hw, if_pos rfl]
    refine ⟨fun _ _ => Fr_fn _ _, ?_⟩
    rw [sem_fr hv]
    obtain ⟨v', e1, hvr⟩ := ok_op (B := B) (w := w) hv herel (h.heap.sub fun id o e => by cases e) h.base_ (by simp [topOf])
    rw [e1]
    exact plain he hl hs.2.2.2.1 hvr
  | load t x b off v hw he ho hx hv hold hl hs =>
    rw [h.wanted W hr hw, if_pos rfl]
    refine ⟨fun _ _ => Fr_fn _ _, ?_⟩
    rw [sem_fr' (fun c hc => by rw [ho] at hc; cases hc)]
    -- the same value at the stage where it is done
    have hstage : loadO P (lookAt m (σ p).core (σ p).abs (σ i).fls b) t off = some v := by
      rcases Nat.lt_or_ge i p with hip | hip
      · -- the last turn behind the load
        have key : ∀ d q, i + 1 + d = q → q ≤ p → loadO P (lookAt m (σ q).core (σ q).abs (σ i).fls b) t off = some v ∧ ⟨i, m, t, b, off, v⟩ ∈ (σ q).lds := by
          intro d
          induction d with
          | zero =>
            intro q hq _
            have : q = i + 1 := by omega
            subst this
            exact ⟨by rw [hs.1, hs.2.1]; exact hv, by rw [hs.2.2.2.2.2]; simp⟩
          | succ d ih =>
            intro q hq hqp
            obtain ⟨k1, k2⟩ := ih (q - 1) (by omega) (by omega)
            have hqs : q - 1 + 1 = q := by omega
            have hple := h.stage.le
            obtain ⟨oq, mq, hoq, hmq, hkq, _⟩ := W.op (i := q - 1) (by omega)
            rw [hqs] at hkq
            have hfls : ∀ x, flOf (σ i).fls b = some x → flOf (σ (q - 1)).fls b = some x := fun x hx => W.fl_keeps hx (by omega) (q - 1) (by omega) (by omega)
            have hnb : ∀ oq', ops[q - 1]? = some oq' → isEff oq' = true → bit mq i = false := fun oq' h1 h2 => by
              cases hb : bit mq i with
              | false => rfl
              | true => exact absurd (ahead' h.closed hoq hmq (h.stage.done (q - 1) oq' (by omega) h1 h2) hb) hr.un
            cases hkq with
            | skip hw' hl' hs' => rw [hs'.1, hs'.2.1, hs'.2.2.2.2.2]; exact ⟨k1, k2⟩
            | val v' hw' he' hv' hl' hs' => rw [hs'.1, hs'.2.1, hs'.2.2.2.2.2]; exact ⟨k1, k2⟩
            | load t' x' b' off' v' hw' he' ho' hx' hv' hold' hl' hs' => rw [hs'.1, hs'.2.1, hs'.2.2.2.2.2]; exact ⟨k1, by simp [k2]⟩
            | new v' ob' hw' he' hv' hl' hs' => rw [hs'.1, hs'.2.1, hs'.2.2.2.2.2]; exact ⟨k1, k2⟩
            | iso f' args' c' v' hp' nid' hw' he' hc' hv' hf' hcall' hfl' hl' hs' => rw [hs'.1, hs'.2.1, hs'.2.2.2.2.2]; exact ⟨k1, k2⟩
            | turn c' v' core' nid' hw' he' hc' hv' hle' hlds' hl' hs' =>
              rw [hs'.1, hs'.2.1, hs'.2.2.2.2.2]
              refine ⟨?_, k2⟩
              have h6 := (hlds' _ k2).resolve_left (by simp only; rw [hnb oq hoq he']; simp)
              simp only at h6
              -- what was made by then, of what lies ahead, is the same
              have hsame : lookAt m core' c'.2 (σ (q - 1)).fls b = lookAt m core' c'.2 (σ i).fls b := by
                unfold lookAt
                cases core'.get b with
                | some o => rfl
                | none =>
                  have : (ob (flOf (σ (q - 1)).fls b) fun x => ck (bit m x.1 && c'.2.all (fun a => !(Nat.beq a b))) (some x.2)) = (ob (flOf (σ i).fls b) fun x => ck (bit m x.1 && c'.2.all (fun a => !(Nat.beq a b))) (some x.2)) := by
                    cases hfi : flOf (σ i).fls b with
                    | some x => rw [hfls x hfi]
                    | none =>
                      cases hfq : flOf (σ (q - 1)).fls b with
                      | none => rfl
                      | some x =>
                        have hx1 : bit m x.1 = false := by
                          cases hb : bit m x.1 with
                          | false => rfl
                          | true =>
                            exfalso
                            obtain ⟨y1, y2, y3, y4⟩ := W.made (q - 1) (by omega) _ (flOf_mem _ _ _ hfq)
                            simp only at y1 y2 y3 y4
                            have hLx := hmust x.1 hb
                            have hxi : x.1 < i := by
                              rcases Nat.lt_trichotomy x.1 i with z | z | z
                              · exact z
                              · rw [z] at hLx; exact absurd hLx hr.un
                              · obtain ⟨ox, mx, hox, hmx, _, _⟩ := W.op (i := x.1) (by omega)
                                -- what lies ahead comes ahead in the text
                                exact absurd hb (by
                                  have hsm := must_lt W.reg hr.op hm (j := x.1)
                                  intro hb'
                                  have := hsm hb'
                                  omega)
                            have hin : flOf (σ (x.1 + 1)).fls b = some x := by rw [y4, flOf_cons]; simp
                            have := W.fl_keeps hin (by omega) i (by omega) (by omega)
                            rw [hfi] at this; cases this
                        show ck (bit m x.1 && _) (some x.2) = none
                        rw [hx1]; rfl
                  exact this
              rw [← hsame]
              exact h6
        exact (key (p - (i + 1)) p (by omega) (Nat.le_refl _)).1
      · rcases W.turns (i - p) p i (by omega) (by omega) with ⟨e1, e2⟩ | ⟨e, oe, a1, a2, a3, a4, a5⟩
        · rw [e1, e2]; exact hv
        · have h6 := (hold _ a5).resolve_left (by
            intro hb
            simp only at hb
            exact h.stage.todo e oe a1 a3 a4 (hmust e hb))
          exact h6
    have hlook : ∀ y, lookAt m (σ p).core (σ p).abs (σ i).fls b = some y → stg ops σ p l b = some y := by
      intro y hy
      rcases lookAt_some hy with hy | ⟨hy, j, hj, hbj, hab⟩
      · unfold stg; rw [hy]
      · exact stg_fl (x := (j, y)) W h.stage.le (W.fl_keeps hj (by omega) _ (by omega) (Nat.le_refl _)) (hmust j hbj) hab
    have hpv := herel x _ hx
    have hex : ∃ v', (execOp a.eval o).run P w = .ok (.value v') w ∧ VRel M v v' := by
      unfold execOp
      rw [ho]
      simp only
      generalize a.eval x = y at hpv
      cases hpv with
      | ptr hb =>
        obtain ⟨v', e1, hvr⟩ := run_loadO h.heap hb hlook hstage
        exact ⟨v', by simp [Instr.loadAt, Instr.sureAddr, e1], hvr⟩
    obtain ⟨v', e1, hvr⟩ := hex
    rw [e1]
    exact plain he hl hs.2.2.2.1 hvr
  | new v ob hw he hv hl hs =>
    rw [h.wanted W hr hw, if_pos rfl]
    refine ⟨fun _ _ => Fr_fn _ _, ?_⟩
    rw [sem_fr hv]
    have hM : M (σ i).nid = none := hnew _ (Nat.le_refl _) (by rw [hs.2.2.1]; omega)
    obtain ⟨v', obj, e1, hvr, ho⟩ := ok_op (B := B) (w := w) hv herel (h.heap.sub fun id o e => by cases e) h.base_ (fun _ => hM)
    rw [e1]
    have hfl : flOf (σ ops.size).fls (σ i).nid = some (i, ob) := W.fl_keeps (i := i + 1) (by rw [hs.2.2.2.1, flOf_cons]; simp) (by omega) _ (by omega) (Nat.le_refl _)
    have hcore : (σ p).core.get (σ i).nid = none := by
      cases hg : (σ p).core.get (σ i).nid with
      | none => rfl
      | some oo =>
        have : stg ops σ p l (σ i).nid = some oo := by unfold stg; rw [hg]
        obtain ⟨b, r, ob', e, _⟩ := h.heap.has _ _ this
        rw [hM] at e; cases e
    have habs : (σ i).nid ∉ (σ p).abs := by
      intro hin
      obtain ⟨e, oe, me, j, ob', a1, a2, a3, a4, a5, a6⟩ := W.abs_from p h.stage.le _ hin
      have hje : j = i := by
        obtain ⟨y1, y2, y3, y4⟩ := W.made p h.stage.le _ a6
        simp only at y1 y2 y3 y4
        have hin2 : flOf (σ (j + 1)).fls (σ i).nid = some (j, ob') := by rw [y4, flOf_cons]; simp
        have hple := h.stage.le
        have := W.fl_keeps hin2 (by omega) ops.size (by omega) (Nat.le_refl _)
        rw [hfl] at this
        cases this
        rfl
      subst hje
      exact hr.un (ahead' h.closed a2 a4 (h.stage.done e oe a1 a2 a3) a5)
    have hs' : ∀ id, stg ops σ p (l.setIfInBounds i true) id = if id = (σ i).nid then some ob else stg ops σ p l id := by
      intro id
      by_cases hid : id = (σ i).nid
      · subst hid
        rw [if_pos rfl]
        unfold stg
        rw [hcore]
        simp only [hfl]
        rw [if_pos ⟨(lst_set hli).2 (.inl rfl), habs⟩]
      · rw [if_neg hid]
        unfold stg
        cases (σ p).core.get id with
        | some o => rfl
        | none =>
          simp only
          cases hx : flOf (σ ops.size).fls id with
          | none => rfl
          | some x =>
            have hne : x.1 ≠ i := by
              intro e
              obtain ⟨_, y2, _⟩ := W.made _ (Nat.le_refl _) _ (flOf_mem _ _ _ hx)
              simp only at y2
              rw [e] at y2
              exact hid y2
            simp only
            have : Lst (l.setIfInBounds i true) x.1 ↔ Lst l x.1 := by rw [lst_set hli]; simp [hne]
            simp only [this]
    have ho' := ho.ext (Mp.upd_ext (b := w.heap.size) (r := 0) hM)
    have n0 := W.nid (i := 0) (j := i) (by omega) (by omega)
    rw [W.start] at n0
    have n1 := W.nid (i := i + 1) (j := ops.size) (by omega) (Nat.le_refl _)
    rw [hs.2.2.1] at n1
    simp only at n0
    have hpush : Evol M (stg ops σ p l) (σ i).nid w (M.upd (σ i).nid w.heap.size 0) (stg ops σ p (l.setIfInBounds i true)) ((σ i).nid + 1) { w with heap := w.heap.push obj } := Evol.push h.heap hM hs' rfl rfl rfl rfl
    refine ⟨p, M.upd (σ i).nid w.heap.size 0, h.advance W hr hdst hl (stage_same W h hr he) hvr (h.heap.push h.base_ hM hs' rfl ho') (hpush.wide n0 n1) (fun id a1 a2 => ?_)⟩
    rw [hs.2.2.1]
    unfold Mp.upd at a2
    by_cases hid : id = (σ i).nid
    · omega
    · rw [if_neg hid] at a2; exact absurd a1 a2
  | iso f args c v hp nid hw he hcc hv hf hcall hfl hl hs =>
    rw [h.wanted W hr hw, if_pos rfl]
    refine ⟨fun _ _ => Fr_fn _ _, ?_⟩
    rw [sem_fr hv]
    obtain ⟨hpi, _⟩ := stage_next W h hr he
    subst hpi
    obtain ⟨k1, _⟩ := absorb_spec _ _ _ _ hcc
    have hsub : ∀ id o, c.1.get id = some o → stg ops σ p l id = some o := by
      intro id o e
      rcases k1 id o e with e | ⟨j, hj, hb, hab⟩
      · unfold stg; rw [e]
      · obtain ⟨y1, y2, y3, y4⟩ := W.made p (by omega) _ hj
        simp only at y1 y2 y3 y4
        have hin : flOf (σ (j + 1)).fls id = some (j, o) := by rw [y4, flOf_cons]; simp
        exact stg_fl (x := (j, o)) W h.stage.le (W.fl_keeps hin (by omega) _ (by omega) (Nat.le_refl _)) (hmust j hb) hab
    obtain ⟨args', hla, hmt⟩ := ok_op (B := B) (w := w) hv herel (h.heap.sub hsub) h.base_ (by simp [topOf])
    obtain ⟨_, hrun⟩ := hc _ _ _ _ _ _ _ hcall
    have hargs : args'.toList = args := LRel.eq hla (fun u hu u' hr' => flat_eq (List.all_eq_true.1 hf u hu) hr')
    refine upon_call hmt (CallsT.of_none ((hrun w.heap.size (fun _ => none) args' w (by rw [hargs]; exact LRel.same fun u hu => flat_same _ (List.all_eq_true.1 hf u hu)) ⟨fun id o e => (by cases e), fun i j b r r' hi => (by cases hi)⟩ (Nat.le_refl _) (fun _ _ _ => rfl)).mono ?_))
    rintro e w' ⟨M', v', rfl, hvr, hh, hev⟩
    refine ⟨v', rfl, ?_⟩
    have hv' : v' = v := flat_eq hfl hvr
    subst hv'
    have hall : ∀ b, b < w.heap.size → w'.heap[b]? = w.heap[b]? := fun b hb => hev.frame b hb fun id r hi => by cases hi
    refine plainE he hl hs.2.2.2.1 hs.1 hs.2.1 (flat_same M hfl) ⟨fun id o e => ?_, h.heap.inj⟩ ⟨hev.os, hev.tape, hev.output, hev.size, fun b hb _ => hall b hb, fun id b r hi e => .inl ⟨id, r, hi, e⟩, Ext.refl _, fun id a1 a2 => absurd a1 a2, (hrefl (stg ops σ p l)).le⟩
    obtain ⟨b, r, ob, e1, e2, e3, e4⟩ := h.heap.has id o e
    exact ⟨b, r, ob, e1, e2, by rw [hall b (Array.getElem?_eq_some_iff.1 e3).1]; exact e3, e4⟩
  | turn c v core nid hw he hcc hv hle hlds hl hs =>
    rw [h.wanted W hr hw, if_pos rfl]
    refine ⟨fun _ _ => Fr_fn _ _, ?_⟩
    obtain ⟨hpi, p', q1, q2, q3, q4⟩ := stage_next W h hr he
    subst hpi
    obtain ⟨k1, k2, k3, k4, k5, k6, k7⟩ := absorb_spec _ _ _ _ hcc
    have hsub : ∀ id o, c.1.get id = some o → stg ops σ p l id = some o := by
      intro id o e
      rcases k1 id o e with e | ⟨j, hj, hb, hab⟩
      · unfold stg; rw [e]
      · obtain ⟨y1, y2, y3, y4⟩ := W.made p (by omega) _ hj
        simp only at y1 y2 y3 y4
        have hin : flOf (σ (j + 1)).fls id = some (j, o) := by rw [y4, flOf_cons]; simp
        exact stg_fl (x := (j, o)) W h.stage.le (W.fl_keeps hin (by omega) _ (by omega) (Nat.le_refl _)) (hmust j hb) hab
    have hg' : ∀ id o, stg ops σ p' (l.setIfInBounds p true) id = some o → core.get id = some o ∨ (core.get id = none ∧ stg ops σ p l id = some o ∧ c.1.get id = none) := by
      intro id o e
      unfold stg at e
      rw [q3, hs.1] at e
      cases hg : core.get id with
      | some oo => rw [hg] at e; exact .inl e
      | none =>
        rw [hg] at e
        simp only at e
        cases hx : flOf (σ ops.size).fls id with
        | none => rw [hx] at e; cases e
        | some x =>
          rw [hx] at e
          simp only at e
          split at e
          · rename_i hcond
            cases e
            obtain ⟨hL, hna⟩ := hcond
            rw [q4, hs.2.1] at hna
            have hne := no_fl W (i := p) hs.2.2.2.1 hx
            have hL : Lst l x.1 := ((lst_set hli).1 hL).resolve_left hne
            have hna0 : id ∉ (σ p).abs := fun hm' => hna (k3 id hm')
            refine .inr ⟨rfl, stg_fl W h.stage.le hx hL hna0, ?_⟩
            rw [k6 id hna]
            exact (W.noclash h.stage.le (flOf_mem _ _ _ hx)).resolve_left hna0
          · cases e
    have n0 := W.nid (i := 0) (j := p) (by omega) (by omega)
    rw [W.start] at n0
    have n1 := W.nid (i := p + 1) (j := ops.size) (by omega) (Nat.le_refl _)
    rw [hs.2.2.1] at n1
    have hn2 : ∀ id, (σ p).nid ≤ id → id < nid → M id = none := fun id a1 a2 => hnew id a1 (by rw [hs.2.2.1]; exact a2)
    have fin : ∀ {v' : Value} {M' : Mp} {w' : World}, VRel M' v v' → HRel P B M' core.get w' → Evol M c.1.get (σ p).nid w M' core.get nid w' →
        ∃ p' M', DInv ds P ops base nt hp0 nid0 σ B M0 w0 (l.setIfInBounds p true) p' M' (a.put o.dst v') w' := by
      intro v' M' w' hvr hh hev
      obtain ⟨f1, f2⟩ := frame_rel h.heap hsub hh hev hg'
      exact ⟨p', M', h.advance W hr hdst hl q1 hvr f1 (f2.wide n0 n1) (fun id a1 a2 => by rw [hs.2.2.1]; exact hev.dom id a1 a2)⟩
    rcases hv with hv | ⟨f, args, hv, hcall⟩
    · obtain ⟨x, v', w', M', e1, hx, hvr, hh, hev⟩ := ok_op (B := B) (w := w) hv herel (h.heap.sub hsub) h.base_ (fun hlt => hn2 _ (Nat.le_refl _) hlt)
      rw [sem_fr hv, e1]
      rcases hx with rfl | ⟨rfl, rfl⟩
      · exact fin hvr hh hev
      · exact fin hvr hh hev
    · obtain ⟨args', hla, hmt⟩ := ok_op (B := B) (w := w) hv herel (h.heap.sub hsub) h.base_ (by simp [topOf])
      rw [sem_fr hv]
      obtain ⟨_, hrun⟩ := hc _ _ _ _ _ _ _ hcall
      refine upon_call hmt ((hrun B M args' w hla (h.heap.sub hsub) h.base_ hn2).mono ?_)
      rintro e w' ⟨M', v', rfl, hvr, hh, hev⟩
      refine ⟨v', rfl, ?_⟩
      exact fin hvr hh hev
end
end Ev
end Go.Proofs.Ytagpaoglcjcaeaa
