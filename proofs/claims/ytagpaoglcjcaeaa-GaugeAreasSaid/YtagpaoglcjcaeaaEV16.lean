import Derived.Test.YtagpaoglcjcaeaaEV15
import Derived.Below
import Derived.RangeFuncLeaves
set_option linter.unusedSimpArgs false
set_option linter.unusedVariables false
namespace Go.Proofs.Ytagpaoglcjcaeaa
namespace Ev

section
variable {P : Program} {callF : CallF}

theorem setAll_spec {kp : Nat} : ∀ (l : List Value) (i t : Nat) (v : Value), agt (setAll kp l i) t = some v → kept kp t = true ∧ ∃ k, t = i + k ∧ l[k]? = some v
  | [], i, t, v, h => by cases h
  | x :: l, i, t, v, h => by
    have h' : agt (bi (kept kp i) ((i, x) :: setAll kp l (i + 1)) (setAll kp l (i + 1))) t = some v := h
    rw [bi_if] at h'
    split at h'
    · rename_i hk
      rw [agt_cons] at h'
      split at h'
      · rename_i e
        cases h'
        simp only at e
        subst e
        exact ⟨hk, 0, rfl, rfl⟩
      · obtain ⟨k1, k, k2, k3⟩ := setAll_spec l (i + 1) t v h'
        exact ⟨k1, k + 1, by omega, by simpa using k3⟩
    · obtain ⟨k1, k, k2, k3⟩ := setAll_spec l (i + 1) t v h'
      exact ⟨k1, k + 1, by omega, by simpa using k3⟩

def resSem (a : Act) : ResultVar → Sem Value
  | .tmp t => pure (a.tmps.getD t undef)
  | .cell c t => do loadVar t (← asAddr (a.tmps.getD c undef))
theorem results_spec {B kp : Nat} {M : Mp} {tm : Tm} {hp : T AObj} {a : Act} {w : World} (ht : TRel M kp tm a.tmps) (hh : HRel P B M hp.get w) : ∀ (l : List ResultVar) (vs : List Value), evResults P tm hp l = some vs →
    ∃ vs', (l.mapM (resSem a)).run P w = .ok vs' w ∧ LRel M vs vs'
  | [], vs, h => by cases h; exact ⟨[], by simp [List.mapM_nil], LRel.nil M⟩
  | r :: l, vs, h => by
    have h' : (ob (evResult P tm hp r) fun v => ob (evResults P tm hp l) fun l => some (v :: l)) = some vs := h
    obtain ⟨v, hv, h'⟩ := ob_some h'
    obtain ⟨us, hu, h'⟩ := ob_some h'
    cases h'
    obtain ⟨us', k1, k2⟩ := results_spec ht hh l us hu
    cases r with
    | tmp t =>
      have hv : agt tm t = some v := hv
      obtain ⟨_, v', e', hr⟩ := ht t v hv
      refine ⟨v' :: us', ?_, LRel.cons hr k2⟩
      have e2 : a.tmps.getD t undef = v' := by simp [e']
      simp only [List.mapM_cons, resSem, Sem.run_bind, Sem.run_pure, Result.andThen_ok, e2, k1]
    | cell c t =>
      have hv : (ob (agt tm c) fun v => withPtr v fun b off => loadV P hp t b off) = some v := hv
      obtain ⟨p, hpp, hv⟩ := ob_some hv
      obtain ⟨b, off, rfl, hv⟩ := withPtr_some hv
      obtain ⟨_, p', e', hr⟩ := ht c _ hpp
      cases hr with
      | ptr hb =>
        rename_i b' r'
        obtain ⟨v', e1, hr1⟩ := run_loadV hh hb hv
        refine ⟨v' :: us', ?_, LRel.cons hr1 k2⟩
        have e2 : a.tmps.getD c undef = .pointer (some ⟨b', off, none⟩) := by rw [Array.getD_eq_getD_getElem?, e']; rfl
        simp only [List.mapM_cons, resSem, Sem.run_bind, Sem.run_pure, Result.andThen_ok, e2, asAddr, e1, k1]
theorem tupled_rel {M : Mp} {l l' : List Value} (h : LRel M l l') : VRel M (tupled l) (if hs : l'.toArray.size = 1 then l'.toArray[0] else .tuple l'.toArray) := by
  match l, l', h with
  | [], [], h => exact LRel.tup h
  | [v], [v'], h => exact h.head
  | [], _ :: _, h => simp [LRel] at h
  | _ :: _, [], h => simp [LRel] at h
  | [_], _ :: _ :: _, h => simp [LRel] at h
  | _ :: _ :: _, [_], h => simp [LRel] at h
  | v :: u :: l, v' :: u' :: l', h =>
    rw [dif_neg (by simp)]
    exact LRel.tup (by simpa using h)

theorem leaves_ok {B : Nat} {fn : Func} {tmps : Array Value} {R : Ending → World → Prop} {M : Mp} {df : List Nat} {ds : List Deferred} (hd : MRel M df ds) : ∀ (hp hp' : T AObj) (nid : Nat) (w : World), HRel P B M hp.get w →
    delAll df hp = some hp' → (∀ w', HRel P B M hp'.get w' → Evol M hp.get nid w M hp'.get nid w' → LeavesIn Fence.wide 0 P fn tmps R [] .returning w') → LeavesInM Fence.wide 0 P fn tmps R ds .returning w := by
  induction hd with
  | nil =>
    intro hp hp' nid w hh h hk
    cases h
    exact hk w hh (Evol.refl _ _ _ _)
  | cons hM hs ih =>
    intro hp hp' nid w hh h hk
    rename_i d b r df ds
    have h0 : (ob (hp.get d) fun o => match o with
      | .dfr => ob (hp.set d none) fun hp => delAll df hp
      | _ => none) = some hp' := h
    obtain ⟨o, ho, h1⟩ := ob_some h0
    cases o with
    | dfr =>
      obtain ⟨hp1, hset, h2⟩ := ob_some h1
      obtain ⟨b', r', ob', e1, e2, e3, e4⟩ := hh.has d _ ho
      rw [hM] at e1
      cases e1
      have e4 : ob' = .deferred (some []) := e4
      subst e4
      have hget := T.get_set _ _ _ _ hset
      refine ⟨by simp, .inl ⟨b, _, rfl, run_takeDeferred e3, ?_⟩⟩
      refine ih hp1 hp' nid _ (hh.put ho hM (fun x hx => by cases hx) hget) h2 fun w' hh' hev => hk w' hh' ((Evol.put _ nid ho hM fun i hi => by rw [hget, if_neg hi]).trans hev)
    | row c e p => cases h1
    | loop st pend tm kp nt ps as_ body d => cases h1

theorem ok_body {rec : CodeF} (hc : CodeOk P rec) {f : FuncId} {x : Func × Code} (hx : bodyOf P f = some x) {args : List Value} {hp : T AObj} {nid : Nat} {v : Value} {hp' : T AObj} {nid' : Nat}
    (h : runBody P rec x args hp nid = some (v, hp', nid')) : nid ≤ nid' ∧ ∀ B M (args' : Array Value) w, LRel M args args'.toList → HRel P B M hp.get w → B ≤ w.heap.size → (∀ id, nid ≤ id → id < nid' → M id = none) →
    Calls P f args' w fun e w' => ∃ M' v', e = .returned v' ∧ VRel M' v v' ∧ HRel P B M' hp'.get w' ∧ Evol M hp.get nid w M' hp'.get nid' w' := by
  obtain ⟨hlen, h⟩ := ck_some h
  obtain ⟨⟨y, s'⟩, hr, h⟩ := ob_some h
  obtain ⟨hl, h⟩ := ck_some h
  obtain ⟨hp2, hdel, h⟩ := ob_some h
  obtain ⟨l, hres, h⟩ := ob_some h
  cases h
  have hlen := Nat.le_of_ble_eq_true hlen
  obtain ⟨a1, a2, a3, a4⟩ := hc _ _ _ _ hr
  refine ⟨a1, fun B M args' w hargs hh hB hf => ?_⟩
  obtain ⟨hfn, hbody⟩ := bodyOf_some hx
  refine (callsIn_wide (n := 0)).1 (callsIn_of_wp_marks (F := Fence.wide) (n := 0) hfn hbody trivial (wpIn_mono (a4 B M none _ w ⟨.nil, trivial, ?_, ?_, hh, hB⟩ hf) ?_))
  · have := hargs.1
    simp at this ⊢
    omega
  · intro t u e
    obtain ⟨k1, k, k2, k3⟩ := setAll_spec _ _ _ _ e
    simp only [Nat.zero_add] at k2
    subst k2
    obtain ⟨u', e', hru⟩ := hargs.get k3
    refine ⟨k1, u', ?_, hru⟩
    have hlt := (List.getElem?_eq_some_iff.1 e').1
    simp only
    rw [Array.getElem?_append_left (by simpa using hlt)]
    simpa using e'
  · rintro e a' w' ⟨M', rfl, hi, hev⟩
    have hb : LeavesInM Fence.wide 0 P x.1 a'.tmps (fun e w' => ∃ M' v', e = .returned v' ∧ VRel M' (tupled l) v' ∧ HRel P B M' hp'.get w' ∧ Evol M hp.get nid w M' hp'.get s'.nid w') a'.defers .returning w' := by
      refine leaves_ok hi.defers s'.hp hp' s'.nid w' hi.heap hdel fun w2 hh2 hev2 => ?_
      obtain ⟨vs', k1, k2⟩ := results_spec (a := a') hi.tmps hh2 _ _ hres
      have hres' : (results x.1 a'.tmps).run P w2 = .ok (if hs : vs'.toArray.size = 1 then vs'.toArray[0] else .tuple vs'.toArray) w2 := by
        have e0 : results x.1 a'.tmps = (do let vs ← x.1.results.mapM (resSem a'); pure (if h : vs.size = 1 then vs[0] else .tuple vs)) := by
          have hg : ∀ g : ResultVar → Sem Value, g = resSem a' → (do let vs ← x.1.results.mapM g; pure (if h : vs.size = 1 then vs[0] else .tuple vs) : Sem Value) = (do let vs ← x.1.results.mapM (resSem a'); pure (if h : vs.size = 1 then vs[0] else .tuple vs)) := by
            rintro g rfl; rfl
          exact hg _ (by funext r; cases r <;> rfl)
        rw [e0, Sem.run_bind, Array.mapM_eq_mapM_toList, Sem.run_map, k1]
        rfl
      exact ⟨_, hres', M', _, rfl, tupled_rel k2, hh2, hev.trans hev2⟩
    cases y with
    | normal => exact hb
    | ret => exact hb
    | exit id => cases hl
    | goto l => cases hl

theorem setPs_spec {kp nt : Nat} {M : Mp} : ∀ (ps : List Tmp) (vs : List Value) (tm tm' : Tm) (vs' : List Value) (tmps : Array Value), setPs kp nt ps vs tm = some tm' → LRel M vs vs' → tmps.size = nt → TRel M kp tm tmps →
    ps.length = vs'.length ∧ ((ps.zip vs').foldl (fun (t : Array Value) (p : Tmp × Value) => t.setIfInBounds p.1 p.2) tmps).size = nt ∧ TRel M kp tm' ((ps.zip vs').foldl (fun (t : Array Value) (p : Tmp × Value) => t.setIfInBounds p.1 p.2) tmps)
  | [], [], tm, tm', vs', tmps, h, hv, hs, ht => by
    cases vs' with
    | nil => cases h; exact ⟨rfl, hs, ht⟩
    | cons => simp [LRel] at hv
  | [], _ :: _, tm, tm', vs', tmps, h, _, _, _ => by cases h
  | _ :: _, [], tm, tm', vs', tmps, h, _, _, _ => by cases h
  | p :: ps, v :: vs, tm, tm', vs', tmps, h, hv, hs, ht => by
    cases vs' with
    | nil => simp [LRel] at hv
    | cons v' vs' =>
      unfold setPs at h
      split at h
      · rename_i hp
        have hp := Nat.le_of_ble_eq_true hp
        have hset : ∀ t u, tmps[t]? = some u → t ≠ p → (tmps.setIfInBounds p v')[t]? = some u := fun t u e ne => by rw [Array.getElem?_setIfInBounds_ne (Ne.symm ne)]; exact e
        have hsz : (tmps.setIfInBounds p v').size = nt := by simpa using hs
        split at h
        · rename_i hk
          have := setPs_spec ps vs ((p, v) :: tm) tm' vs' (tmps.setIfInBounds p v') h hv.tail hsz (fun t u e => by
            rw [agt_cons] at e
            split at e
            · rename_i e1
              subst e1
              cases e
              exact ⟨hk, v', by rw [Array.getElem?_setIfInBounds_self_of_lt (by omega)], hv.head⟩
            · rename_i e1
              obtain ⟨k1, u', k2, k3⟩ := ht t u e
              exact ⟨k1, u', hset t u' k2 (fun e2 => e1 e2.symm), k3⟩)
          simpa using this
        · rename_i hk
          have := setPs_spec ps vs tm tm' vs' (tmps.setIfInBounds p v') h hv.tail hsz (fun t u e => by
            obtain ⟨k1, u', k2, k3⟩ := ht t u e
            exact ⟨k1, u', hset t u' k2 (fun e2 => by rw [e2] at k1; rw [k1] at hk; cases hk), k3⟩)
          simpa using this
      · cases h
theorem setLoop_some {hp hp' : T AObj} {l st : Nat} {pend : Option AX} (h : setLoop hp l st pend = some hp') : ∃ st0 pend0 tm kp nt ps as_ body d, hp.get l = some (.loop st0 pend0 tm kp nt ps as_ body d) ∧
    ∀ i, hp'.get i = if i = l then some (.loop st pend tm kp nt ps as_ body d) else hp.get i := by
  obtain ⟨o, ho, h⟩ := ob_some h
  obtain ⟨st0, pend0, tm, kp, nt, ps, as_, body, d, rfl, h⟩ := withLoop_some h
  exact ⟨st0, pend0, tm, kp, nt, ps, as_, body, d, ho, T.get_set _ _ _ _ h⟩

/-- one round of a range over a function -/
theorem ok_round {rec : CodeF} (hc : CodeOk P rec) {l : Nat} {args : List Value} {hp : T AObj} {nid : Nat} {v : Value} {hp' : T AObj} {nid' : Nat} (h : runRound rec l args hp nid = some (v, hp', nid')) : nid ≤ nid' ∧
    ∀ B M (args' : Array Value) w, LRel M args args'.toList → HRel P B M hp.get w → B ≤ w.heap.size → (∀ id, nid ≤ id → id < nid' → M id = none) →
    CallsT P M (.yield l) args' w fun e w' => ∃ M' v', e = .returned v' ∧ VRel M' v v' ∧ HRel P B M' hp'.get w' ∧ Evol M hp.get nid w M' hp'.get nid' w' := by
  obtain ⟨o, ho, h⟩ := ob_some h
  obtain ⟨st0, pend0, tm0, kp, nt, ps, as_, body, d, rfl, h⟩ := withLoop_some h
  obtain ⟨tm, htm, h⟩ := ob_some h
  obtain ⟨⟨y1, s1⟩, hr1, h⟩ := ob_some h
  obtain ⟨hn1, h⟩ := ck_some h
  obtain ⟨st, hst, h⟩ := ob_some h
  obtain ⟨hst0, h⟩ := ck_some h
  obtain ⟨hp1, hs1, h⟩ := ob_some h
  obtain ⟨⟨y2, s2⟩, hr2, h⟩ := ob_some h
  obtain ⟨hp2, hs2, h⟩ := ob_some h
  cases h
  have hst0 := Nat.eq_of_beq_eq_true hst0
  subst hst0
  have hy1 : y1 = .normal := by cases y1 <;> first | rfl | cases hn1
  subst hy1
  obtain ⟨a1, a2, a3, a4⟩ := hc _ _ _ _ hr1
  obtain ⟨b1, b2, b3, b4⟩ := hc _ _ _ _ hr2
  simp only at a1 a2 a3 b1 b2 b3
  refine ⟨Nat.le_trans a1 b1, fun B M args' w hargs hh hB hf => ?_⟩
  obtain ⟨b, r, ob0, e1, e2, e3, e4⟩ := hh.has l _ ho
  obtain ⟨L, rfl, h1, h2, h3, h4, h5, h6, h7, h8, h9⟩ := e4
  obtain ⟨k1, k2, k3⟩ := setPs_spec ps.toList args tm0 tm args'.toList L.tmps htm hargs h6 h7
  have hsize : args'.size = L.params.size := by rw [h3]; simpa using k1.symm
  have hfold : (L.params.zip args').foldl (fun tmps (x : Tmp × Value) => tmps.setIfInBounds x.1 x.2) L.tmps = (ps.toList.zip args'.toList).foldl (fun (t : Array Value) (p : Tmp × Value) => t.setIfInBounds p.1 p.2) L.tmps := by
    rw [h3, ← Array.foldl_toList, Array.toList_zip]
  have hy := run_yield (P := P) e3 hsize
  refine ⟨b, r, L.fn, _, L.assign, L.body, e1, hy, roundIn_of_wpIn trivial ?_⟩
  rw [h4, h5]
  have hfold' : (L.params.zip args').foldl (fun tmps (x : Tmp × Value) => match x with | (t, a) => tmps.setIfInBounds t a) L.tmps = (ps.toList.zip args'.toList).foldl (fun (t : Array Value) (p : Tmp × Value) => t.setIfInBounds p.1 p.2) L.tmps := hfold
  refine wpIn_mono (a4 B M (some b) _ w ⟨.nil, ⟨r, e1⟩, by rw [hfold']; exact k2, by rw [hfold']; exact k3, hh, hB⟩ (fun id i1 i2 => hf id i1 (Nat.lt_of_lt_of_le i2 b1))) ?_
  rintro e w1a w1 ⟨M1, rfl, hi1, hev1⟩
  obtain ⟨o1, ho1, hst⟩ := ob_some hst
  obtain ⟨st1, pend1, tm1, kp1, nt1, ps1, as1, bd1, d1, rfl, hst⟩ := withLoop_some hst
  cases hst
  obtain ⟨q1, q2, q3, q4, q5, q6, q7, q8, q9, hq, hq1⟩ := setLoop_some hs1
  rw [ho1] at hq
  cases hq
  have hM1 : M1 l = some (b, r) := hev1.ext _ _ e1
  obtain ⟨b', r', ob1, f1, f2, f3, f4⟩ := hi1.heap.has l _ ho1
  rw [hM1] at f1
  cases f1
  obtain ⟨L1, rfl, g1, g2, g3, g4, g5, g6, g7, g8, g9⟩ := f4
  have hp0 := g8 (by omega)
  subst hp0
  have hh2 : HRel P B M1 hp1.get (w1.putObj b (.loop { L1 with state := .busy })) := hi1.heap.put ho1 hM1 (fun x hx => by cases hx; exact ⟨_, rfl, rfl, g2, g3, g4, g5, g6, g7, fun _ => rfl, g9⟩) hq1
  have hev2 : Evol M1 s1.hp.get s1.nid w1 M1 hp1.get s1.nid (w1.putObj b (.loop { L1 with state := .busy })) := Evol.put _ _ ho1 hM1 fun i hi => by rw [hq1, if_neg hi]
  refine ⟨_, run_beginRound f3 g1, ?_⟩
  have hevA := hev1.trans hev2
  refine wpIn_mono (b4 B M1 (some b) w1a _ ⟨hi1.defers, ⟨r, hM1⟩, by have := hi1.size; rw [a3] at this; exact this, fun t v e => by have := hi1.tmps t v e; rw [a2] at this; exact this, hh2, Nat.le_trans hB hevA.size⟩
    (free_of hevA fun id i1 i2 => hf id (Nat.le_trans a1 i1) i2)) ?_
  rintro e a3' w3 ⟨M3, rfl, hi3, hev3⟩
  obtain ⟨t1, t2, t3, t4, t5, t6, t7, t8, t9, ht, ht1⟩ := setLoop_some hs2
  have hM3 : M3 l = some (b, r) := hev3.ext _ _ hM1
  obtain ⟨b'', r'', ob3, j1, j2, j3, j4⟩ := hi3.heap.has l _ ht
  rw [hM3] at j1
  cases j1
  obtain ⟨L3, rfl, u1, u2, u3, u4, u5, u6, u7, u8, u9⟩ := j4
  have fin : ∀ jump : Option Code, jump = (jumpOf y2).map codeOf → jump.isNone = isNormal y2 →
      ∃ v w', (Instr.endRound b jump).run P w3 = .ok v w' ∧ ∃ M' v', Ending.returned v = .returned v' ∧ VRel M' (.bool (isNormal y2)) v' ∧ HRel P B M' hp'.get w' ∧ Evol M hp.get nid w M' hp'.get s2.nid w' := by
    intro jump hj hn
    refine ⟨_, _, run_endRound jump j3, M3, _, rfl, by rw [hn]; exact .bool _, hi3.heap.put ht hM3 (fun x hx => ?_) ht1, hevA.trans (hev3.trans (Evol.put _ _ ht hM3 fun i hi => by rw [ht1, if_neg hi]))⟩
    cases hx
    refine ⟨_, rfl, ?_, hj, u3, u4, u5, u6, u7, fun hne => ?_, u9⟩
    · simp only [hn]
      cases y2 <;> rfl
    · cases y2 with
      | normal => rfl
      | _ => exact absurd rfl hne
  cases y2 with
  | normal => exact fin none rfl rfl
  | exit id => exact fin (some (.exit id)) rfl rfl
  | goto t => exact fin (some (.goto t)) rfl rfl
  | ret => exact fin (some .ret) rfl rfl

theorem ok_callOf {rec : CodeF} (hc : CodeOk P rec) : CallOk P (callAny P rec) := by
  intro tg args hp nid v hp' nid' h
  cases tg with
  | yield l => exact ok_round hc h
  | fn f =>
  obtain ⟨x, hx, h⟩ := ob_some h
  rcases bi_some h with ⟨hf, h2⟩ | ⟨_, h2⟩ <;> clear h
  · rw [forceVs_eq] at h2
    rw [Bool.and_eq_true] at hf
    obtain ⟨⟨v1, hp1, nid1⟩, hr, h3⟩ := ob_some h2
    obtain ⟨hfl, h4⟩ := ck_some h3
    cases h4
    obtain ⟨_, hrun⟩ := ok_body hc hx hr
    refine ⟨Nat.le_refl _, fun B M args' w hargs hh hB hfree => ?_⟩
    have hargs' : args'.toList = args := LRel.eq hargs (fun u hu u' hr' => flat_eq (List.all_eq_true.1 hf.2 u hu) hr')
    refine (hrun w.heap.size (fun _ => none) args' w (by rw [hargs']; exact LRel.same fun u hu => flat_same _ (List.all_eq_true.1 hf.2 u hu)) ⟨fun id o e => (by cases e), fun i j b r r' hi => (by cases hi)⟩ (Nat.le_refl _) (fun _ _ _ => rfl)).mono ?_
    rintro e w' ⟨M', v', rfl, hvr, hh', hev⟩
    have hv' : v' = v1 := flat_eq hfl hvr
    subst hv'
    have hall : ∀ b, b < w.heap.size → w'.heap[b]? = w.heap[b]? := fun b hb => hev.frame b hb fun id r hi => by cases hi
    refine ⟨M, v', rfl, flat_same M hfl, ⟨fun id o e => ?_, hh.inj⟩, ⟨hev.os, hev.tape, hev.output, hev.size, fun b hb _ => hall b hb, fun id b r hi e => .inl ⟨id, r, hi, e⟩, Ext.refl _, fun id a1 a2 => absurd a1 a2, Nat.le_refl _⟩⟩
    obtain ⟨b, r, ob, e1, e2, e3, e4⟩ := hh.has id o e
    exact ⟨b, r, ob, e1, e2, by rw [hall b (Array.getElem?_eq_some_iff.1 e3).1]; exact e3, e4⟩
  · exact ok_body hc hx h2
theorem ok_evD (hm : P.follows .mixedOrders = true) (k : Nat) : ∀ n, CallOk P (evD P k n)
  | 0 => fun f args hp nid v hp' nid' h => by cases h
  | n + 1 => ok_callOf (code_ok (ok_evD hm k n) hm k)

/-- what is reckoned is what every run gives -/
theorem reckoned (hm : P.follows .mixedOrders = true) {k n : Nat} {f : FuncId} {args : List Value} {v : Value} {hp : T AObj} {nid : Nat} (h : evF P k n f args = some (v, hp, nid)) (ha : args.all flat = true) (hv : flat v = true)
    (w : World) : Calls P f args.toArray w fun e w' => e = .returned v ∧ Go.RowKit.Below w.heap.size w w' := by
  obtain ⟨_, hrun⟩ := ok_evD hm k n _ _ _ _ _ _ _ (h : evD P k n (.fn f) args .leaf 0 = some (v, hp, nid))
  refine (hrun w.heap.size (fun _ => none) args.toArray w (LRel.same fun u hu => flat_same _ (List.all_eq_true.1 ha u hu)) ⟨fun id o e => (by cases e), fun i j b r r' hi => (by cases hi)⟩ (Nat.le_refl _) (fun _ _ _ => rfl)).mono ?_
  rintro e w' ⟨M', v', rfl, hvr, hh', hev⟩
  have hv' : v' = v := flat_eq hv hvr
  subst hv'
  exact ⟨rfl, hev.os, hev.tape, hev.output, hev.size, fun b hb => hev.frame b hb fun id r hi => by cases hi⟩
theorem reckoned_true (hm : P.follows .mixedOrders = true) {k n : Nat} {f : FuncId} (h : isTrue (evF P k n f []) = true) (w : World) :
    Calls P f #[] w fun e w' => e = .returned (.bool true) ∧ Go.RowKit.Below w.heap.size w w' := by
  cases hr : evF P k n f [] with
  | none => rw [hr] at h; cases h
  | some r =>
    rw [hr] at h
    obtain ⟨v, hp, nid⟩ := r
    have hb : isB v true = true := h
    cases v with
    | bool b =>
      have : b = true := by cases b <;> first | rfl | cases hb
      subst this
      exact reckoned hm hr rfl rfl w
    | _ => cases hb
end
end Ev
end Go.Proofs.Ytagpaoglcjcaeaa
