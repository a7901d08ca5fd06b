import Derived.Test.YtagpaoglcjcaeaaEV10
set_option linter.unusedSimpArgs false
set_option linter.unusedVariables false
namespace Go.Proofs.Ytagpaoglcjcaeaa
namespace Ev

/-! The way through a region, operation by operation. -/

def putD (dst : Option Tmp) (v : Value) (loc : Tm) : Tm := locPut dst v loc

/-- how one operation turns the state -/
inductive Kind (P : Program) (callF : CallF) (ops : Array Oper) (base : Tm) (nt i m : Nat) (o : Oper) (s s' : DS) : Prop
  | skip (hw : wantedV ops s.loc base o = some false) (hl : s'.loc = locPut o.dst undef s.loc) (hs : s'.core = s.core ∧ s'.abs = s.abs ∧ s'.nid = s.nid ∧ s'.fls = s.fls ∧ s'.old = s.old ∧ s'.lds = s.lds)
  | val (v : Value) (hw : wantedV ops s.loc base o = some true) (he : isEff o = false) (hv : evOp P (evXr (Oper.looksAt ops o) s.loc base) o .leaf s.nid = some (.val v)) (hl : s'.loc = locPut o.dst v s.loc)
      (hs : s'.core = s.core ∧ s'.abs = s.abs ∧ s'.nid = s.nid ∧ s'.fls = s.fls ∧ s'.old = s.old ∧ s'.lds = s.lds)
  | load (t : TypeId) (x : Operand) (b off : Nat) (v : Value) (hw : wantedV ops s.loc base o = some true) (he : isEff o = false) (ho : o.op = .load t x)
      (hx : evXr (Oper.looksAt ops o) s.loc base x = some (.pointer (some ⟨b, off, none⟩))) (hv : loadO P (lookAt m s.core s.abs s.fls b) t off = some v)
      (hold : ∀ q ∈ s.old, bit m q.1 = true ∨ loadO P (lookAt m q.2.1 q.2.2 s.fls b) t off = some v) (hl : s'.loc = locPut o.dst v s.loc)
      (hs : s'.core = s.core ∧ s'.abs = s.abs ∧ s'.nid = s.nid ∧ s'.fls = s.fls ∧ s'.old = s.old ∧ s'.lds = ⟨i, m, t, b, off, v⟩ :: s.lds)
  | new (v : Value) (ob : AObj) (hw : wantedV ops s.loc base o = some true) (he : isEff o = false) (hv : evOp P (evXr (Oper.looksAt ops o) s.loc base) o .leaf s.nid = some (.new v ob)) (hl : s'.loc = locPut o.dst v s.loc)
      (hs : s'.core = s.core ∧ s'.abs = s.abs ∧ s'.nid = s.nid + 1 ∧ s'.fls = (i, s.nid, ob) :: s.fls ∧ s'.old = s.old ∧ s'.lds = s.lds)
  | iso (f : Tgt) (args : List Value) (c : T AObj × List Nat) (v : Value) (hp : T AObj) (nid : Nat) (hw : wantedV ops s.loc base o = some true) (he : isEff o = true)
      (hc : absorb m s.fls s.abs s.core = some c) (hv : evOp P (evXr (Oper.looksAt ops o) s.loc base) o c.1 s.nid = some (.call f args)) (hf : args.all flat = true) (hcall : callF f args .leaf 0 = some (v, hp, nid)) (hfl : flat v = true)
      (hl : s'.loc = locPut o.dst v s.loc) (hs : s'.core = s.core ∧ s'.abs = s.abs ∧ s'.nid = s.nid ∧ s'.fls = s.fls ∧ s'.old = s.old ∧ s'.lds = s.lds)
  | turn (c : T AObj × List Nat) (v : Value) (core : T AObj) (nid : Nat) (hw : wantedV ops s.loc base o = some true) (he : isEff o = true) (hc : absorb m s.fls s.abs s.core = some c)
      (hv : evOp P (evXr (Oper.looksAt ops o) s.loc base) o c.1 s.nid = some (.eff v core nid) ∨ ∃ f args, evOp P (evXr (Oper.looksAt ops o) s.loc base) o c.1 s.nid = some (.call f args) ∧ callF f args c.1 s.nid = some (v, core, nid))
      (hle : s.nid ≤ nid) (hlds : ∀ q ∈ s.lds, bit m q.op = true ∨ loadO P (lookAt q.m core c.2 s.fls q.b) q.t q.off = some q.v) (hl : s'.loc = locPut o.dst v s.loc)
      (hs : s'.core = core ∧ s'.abs = c.2 ∧ s'.nid = nid ∧ s'.fls = s.fls ∧ s'.old = (i, s.core, s.abs) :: s.old ∧ s'.lds = s.lds)

theorem dPut_spec {s s' : DS} {nt : Nat} {dst : Option Tmp} {v : Value} {core : T AObj} {abs : List Nat} {nid : Nat} {fls : List (Nat × Nat × AObj)} {old : List (Nat × T AObj × List Nat)} {lds : List LD}
    (h : dPut s nt dst v core abs nid fls old lds = some s') : (s'.loc = locPut dst v s.loc ∧ ∀ d, dst = some d → d < nt) ∧ s'.core = core ∧ s'.abs = abs ∧ s'.nid = nid ∧ s'.fls = fls ∧ s'.old = old ∧ s'.lds = lds := by
  obtain ⟨r, hr, h⟩ := ob_some h
  cases h
  obtain ⟨_, _, p3, p4⟩ := putT_spec hr
  exact ⟨⟨p3, p4⟩, rfl, rfl, rfl, rfl, rfl, rfl⟩

section
variable {P : Program} {callF : CallF} {ops : Array Oper} {base : Tm} {nt : Nat}

theorem dStep_kind {i m : Nat} {o : Oper} {s s' : DS} (h : dStep P callF ops base nt i m o s = some s') : Kind P callF ops base nt i m o s s' ∧ ∀ d, o.dst = some d → d < nt := by
  obtain ⟨w, hw, h⟩ := ob_some h
  rcases bi_some h with ⟨e, h1⟩ | ⟨e, h1⟩ <;> clear h <;> subst e
  · cases hl : loadOf o with
    | some l =>
      rw [hl] at h1
      obtain ⟨t, x⟩ := l
      have ho : o.op = .load t x := by
        unfold loadOf at hl
        split at hl
        · rename_i e; cases hl; exact e
        · cases hl
      have he : isEff o = false := by simp [isEff, ho]
      have h1 : dLoad P i m nt (Oper.looksAt ops o) base o.dst t x s = some s' := h1
      replace h1 := ob_some h1
      obtain ⟨p, hp, h1⟩ := h1
      replace h1 := withPtr_some h1
      obtain ⟨b, off, rfl, h1⟩ := h1
      replace h1 := ob_some h1
      obtain ⟨v, hv, h1⟩ := h1
      replace h1 := ck_some h1
      obtain ⟨hold, h1⟩ := h1
      obtain ⟨⟨q1, q1'⟩, q2⟩ := dPut_spec h1
      refine ⟨.load t x b off v hw he ho hp hv (fun q hq => ?_) q1 q2, q1'⟩
      have := List.all_eq_true.1 hold q hq
      rw [Bool.or_eq_true] at this
      exact this.imp (fun a => a) sameV_eq
    | none =>
      rw [hl] at h1
      have h1 : bi (isEff o) (dEff P callF i m nt (Oper.looksAt ops o) base o s) (dPlain P i nt (Oper.looksAt ops o) base o s) = some s' := h1
      rcases bi_some h1 with ⟨he, h2⟩ | ⟨he, h2⟩ <;> clear h1
      · replace h2 := ob_some h2
        obtain ⟨c, hc, h2⟩ := h2
        replace h2 := ob_some h2
        obtain ⟨r, hr, h2⟩ := h2
        cases r with
        | val v => cases h2
        | new v ob => cases h2
        | eff v hp nid =>
          obtain ⟨hck, h3⟩ := ck_some h2
          rw [Bool.and_eq_true] at hck
          obtain ⟨⟨q1, q1'⟩, q2⟩ := dPut_spec h3
          refine ⟨.turn c v hp nid hw he hc (.inl hr) (Nat.le_of_ble_eq_true hck.1) (fun q hq => ?_) q1 q2, q1'⟩
          have := List.all_eq_true.1 hck.2 q hq
          rw [Bool.or_eq_true] at this
          exact this.imp (fun a => a) sameV_eq
        | call f args =>
          rcases bi_some h2 with ⟨hpl, h3⟩ | ⟨hpl, h3⟩
          · rw [Bool.and_eq_true] at hpl
            obtain ⟨⟨v, hp, nid⟩, hq, h4⟩ := ob_some h3
            obtain ⟨hfl, h5⟩ := ck_some h4
            obtain ⟨⟨q1, q1'⟩, q2⟩ := dPut_spec h5
            exact ⟨.iso f args c v hp nid hw he hc hr hpl.2 hq hfl q1 q2, q1'⟩
          · obtain ⟨⟨v, hp, nid⟩, hq, h4⟩ := ob_some h3
            obtain ⟨hck, h5⟩ := ck_some h4
            rw [Bool.and_eq_true] at hck
            obtain ⟨⟨q1, q1'⟩, q2⟩ := dPut_spec h5
            refine ⟨.turn c v hp nid hw he hc (.inr ⟨f, args, hr, hq⟩) (Nat.le_of_ble_eq_true hck.1) (fun q hq => ?_) q1 q2, q1'⟩
            have := List.all_eq_true.1 hck.2 q hq
            rw [Bool.or_eq_true] at this
            exact this.imp (fun a => a) sameV_eq
      · replace h2 := ob_some h2
        obtain ⟨r, hr, h2⟩ := h2
        cases r with
        | val v =>
          obtain ⟨⟨q1, q1'⟩, q2⟩ := dPut_spec h2
          exact ⟨.val v hw he hr q1 q2, q1'⟩
        | new v ob =>
          obtain ⟨⟨q1, q1'⟩, q2⟩ := dPut_spec h2
          exact ⟨.new v ob hw he hr q1 q2, q1'⟩
        | eff v hp nid => cases h2
        | call f args => cases h2
  · obtain ⟨⟨q1, q1'⟩, q2⟩ := dPut_spec h1
    exact ⟨.skip hw q1 q2, q1'⟩

/-- the states along the text -/
theorem trace : ∀ (ms : List Nat) (l : List Oper) (i : Nat) (s s' : DS), dSteps P callF ops ms base nt l i s = some s' → ∃ σ : Nat → DS, σ i = s ∧ σ (i + l.length) = s' ∧
    ∀ k o, l[k]? = some o → ∃ m, ms[i + k]? = some m ∧ dStep P callF ops base nt (i + k) m o (σ (i + k)) = some (σ (i + k + 1))
  | ms, [], i, s, s', h => by cases h; exact ⟨fun _ => s, rfl, rfl, fun k o h => by simp at h⟩
  | ms, o :: l, i, s, s', h => by
    have h' : (ob ms[i]? fun m => ob (dStep P callF ops base nt i m o s) fun s => dSteps P callF ops ms base nt l (i + 1) s) = some s' := h
    obtain ⟨m, hm, h'⟩ := ob_some h'
    obtain ⟨s1, h1, h'⟩ := ob_some h'
    obtain ⟨σ, e1, e2, e3⟩ := trace ms l (i + 1) s1 s' h'
    refine ⟨fun j => if j ≤ i then s else σ j, by simp, by simp only [List.length_cons]; rw [if_neg (by omega)]; rw [show i + (l.length + 1) = i + 1 + l.length by omega]; exact e2, fun k o' hk => ?_⟩
    cases k with
    | zero =>
      simp at hk
      subst hk
      refine ⟨m, by simpa using hm, ?_⟩
      simp only [Nat.add_zero, Nat.le_refl, if_true]
      rw [if_neg (by omega), e1]
      exact h1
    | succ k =>
      obtain ⟨m', hm', h2⟩ := e3 k o' (by simpa using hk)
      refine ⟨m', by rw [show i + (k + 1) = i + 1 + k by omega]; exact hm', ?_⟩
      have n1 : ¬ (i + (k + 1) ≤ i) := by omega
      have n2 : ¬ (i + (k + 1) + 1 ≤ i) := by omega
      simp only [n1, n2, if_false]
      rw [show i + (k + 1) = i + 1 + k by omega]
      exact h2

/-- a way through the whole region -/
structure Way (P : Program) (callF : CallF) (ops : Array Oper) (base : Tm) (nt : Nat) (hp0 : T AObj) (nid0 : Nat) (σ : Nat → DS) : Prop where
  reg : Reg ops
  start : σ 0 = ⟨[], hp0, [], nid0, [], [], []⟩
  step : ∀ i o, ops[i]? = some o → ∃ m, (musts ops.toList [])[i]? = some m ∧ Kind P callF ops base nt i m o (σ i) (σ (i + 1)) ∧ ∀ d, o.dst = some d → d < nt
  clean1 : clean (σ ops.size).fls (σ ops.size).core (σ ops.size).abs = true
  clean2 : ∀ q ∈ (σ ops.size).old, clean (σ ops.size).fls q.2.1 q.2.2 = true
end

section
variable {P : Program} {callF : CallF} {ops : Array Oper} {base : Tm} {nt : Nat} {hp0 : T AObj} {nid0 : Nat} {σ : Nat → DS}

theorem Way.op (W : Way P callF ops base nt hp0 nid0 σ) {i : Nat} (hi : i < ops.size) : ∃ o m, ops[i]? = some o ∧ (musts ops.toList [])[i]? = some m ∧ Kind P callF ops base nt i m o (σ i) (σ (i + 1)) ∧ ∀ d, o.dst = some d → d < nt := by
  obtain ⟨m, h1, h2⟩ := W.step i _ (Array.getElem?_eq_getElem hi)
  exact ⟨_, m, Array.getElem?_eq_getElem hi, h1, h2⟩
theorem Kind.nid_le {i m : Nat} {o : Oper} {s s' : DS} (k : Kind P callF ops base nt i m o s s') : s.nid ≤ s'.nid := by
  cases k with
  | skip hw hl hs => rw [hs.2.2.1]; exact Nat.le_refl _
  | val v hw he hv hl hs => rw [hs.2.2.1]; exact Nat.le_refl _
  | load t x b off v hw he ho hx hv hold hl hs => rw [hs.2.2.1]; exact Nat.le_refl _
  | new v ob hw he hv hl hs => rw [hs.2.2.1]; exact Nat.le_succ _
  | iso f args c v hp nid hw he hc hv hf hcall hfl hl hs => rw [hs.2.2.1]; exact Nat.le_refl _
  | turn c v core nid hw he hc hv hle hlds hl hs => rw [hs.2.2.1]; exact hle
theorem Way.nid (W : Way P callF ops base nt hp0 nid0 σ) {i j : Nat} (hij : i ≤ j) (hj : j ≤ ops.size) : (σ i).nid ≤ (σ j).nid := by
  induction j with
  | zero => have : i = 0 := by omega
            subst this; exact Nat.le_refl _
  | succ j ih =>
    by_cases h : i = j + 1
    · subst h; exact Nat.le_refl _
    · obtain ⟨o, m, _, _, hk, _⟩ := W.op (i := j) (by omega)
      exact Nat.le_trans (ih (by omega) (by omega)) hk.nid_le
theorem Kind.loc_eq {i m : Nat} {o : Oper} {s s' : DS} (k : Kind P callF ops base nt i m o s s') : ∃ v, s'.loc = locPut o.dst v s.loc := by
  cases k with
  | skip hw hl hs => exact ⟨_, hl⟩
  | val v hw he hv hl hs => exact ⟨_, hl⟩
  | load t x b off v hw he ho hx hv hold hl hs => exact ⟨_, hl⟩
  | new v ob hw he hv hl hs => exact ⟨_, hl⟩
  | iso f args c v hp nid hw he hc hv hf hcall hfl hl hs => exact ⟨_, hl⟩
  | turn c v core nid hw he hc hv hle hlds hl hs => exact ⟨_, hl⟩
theorem agt_locPut {dst : Option Tmp} {v : Value} {loc : Tm} {t : Nat} : agt (locPut dst v loc) t = if dst = some t then some v else agt loc t := by
  cases dst with
  | none => simp [locPut]
  | some d => simp only [locPut]; rw [agt_cons]; simp
theorem Way.written (W : Way P callF ops base nt hp0 nid0 σ) : ∀ (i : Nat), i ≤ ops.size → ∀ t, (agt (σ i).loc t).isSome = true ↔ ∃ j o, j < i ∧ ops[j]? = some o ∧ o.dst = some t
  | 0, _, t => by rw [W.start]; simp [agt]
  | i + 1, hi, t => by
    obtain ⟨o, m, ho, _, hk, _⟩ := W.op (i := i) (by omega)
    obtain ⟨v, hl⟩ := hk.loc_eq
    rw [hl, agt_locPut]
    by_cases hd : o.dst = some t
    · simp only [hd, if_true, Option.isSome_some, true_iff]
      exact ⟨i, o, by omega, ho, hd⟩
    · simp only [hd, if_false]
      rw [W.written i (by omega) t]
      constructor
      · rintro ⟨j, o', h1, h2, h3⟩; exact ⟨j, o', by omega, h2, h3⟩
      · rintro ⟨j, o', h1, h2, h3⟩
        refine ⟨j, o', ?_, h2, h3⟩
        by_cases hj : j = i
        · subst hj; rw [ho] at h2; cases h2; exact absurd h3 hd
        · omega
theorem Way.keeps (W : Way P callF ops base nt hp0 nid0 σ) {i : Nat} {t : Nat} {v : Value} (h : agt (σ i).loc t = some v) (hi : i ≤ ops.size) : ∀ (j : Nat), i ≤ j → j ≤ ops.size → agt (σ j).loc t = some v
  | 0, h1, _ => by have : i = 0 := by omega
                   subst this; exact h
  | j + 1, h1, h2 => by
    by_cases hij : i = j + 1
    · rw [← hij]; exact h
    · have ih := W.keeps h hi j (by omega) (by omega)
      obtain ⟨o, m, ho, _, hk, _⟩ := W.op (i := j) (by omega)
      obtain ⟨u, hl⟩ := hk.loc_eq
      rw [hl, agt_locPut]
      obtain ⟨k, o', k1, k2, k3⟩ := (W.written i hi t).1 (by rw [h]; rfl)
      by_cases hd : o.dst = some t
      · have := W.reg.once k j o' o t k2 ho k3 hd
        omega
      · simp only [hd, if_false]; exact ih

/-! blocks made in the region -/
theorem flOf_cons (x : Nat × Nat × AObj) (l : List (Nat × Nat × AObj)) (id : Nat) : flOf (x :: l) id = if x.2.1 = id then some (x.1, x.2.2) else flOf l id := by
  have h : flOf (x :: l) id = bi (Nat.beq x.2.1 id) (some (x.1, x.2.2)) (flOf l id) := rfl
  rw [h, bi_if, beq_eq]
  simp only [decide_eq_true_eq]
theorem flOf_mem : ∀ (l : List (Nat × Nat × AObj)) (id : Nat) (x : Nat × AObj), flOf l id = some x → (x.1, id, x.2) ∈ l
  | [], id, x, h => by cases h
  | y :: l, id, x, h => by
    rw [flOf_cons] at h
    split at h
    · rename_i e; cases h; subst e; simp
    · exact List.mem_cons_of_mem _ (flOf_mem l id x h)
theorem Kind.fls_eq {i m : Nat} {o : Oper} {s s' : DS} (k : Kind P callF ops base nt i m o s s') : s'.fls = s.fls ∨ ∃ ob, s'.fls = (i, s.nid, ob) :: s.fls ∧ s'.nid = s.nid + 1 := by
  cases k with
  | skip hw hl hs => exact .inl hs.2.2.2.1
  | val v hw he hv hl hs => exact .inl hs.2.2.2.1
  | load t x b off v hw he ho hx hv hold hl hs => exact .inl hs.2.2.2.1
  | new v ob hw he hv hl hs => exact .inr ⟨ob, hs.2.2.2.1, hs.2.2.1⟩
  | iso f args c v hp nid hw he hc hv hf hcall hfl hl hs => exact .inl hs.2.2.2.1
  | turn c v core nid hw he hc hv hle hlds hl hs => exact .inl hs.2.2.2.1
/-- where a made block comes from -/
theorem Way.made (W : Way P callF ops base nt hp0 nid0 σ) : ∀ (i : Nat), i ≤ ops.size → ∀ x ∈ (σ i).fls, x.1 < i ∧ x.2.1 = (σ x.1).nid ∧ (σ (x.1 + 1)).nid = (σ x.1).nid + 1 ∧ (σ (x.1 + 1)).fls = (x.1, x.2.1, x.2.2) :: (σ x.1).fls
  | 0, _, x, hx => by rw [W.start] at hx; simp at hx
  | i + 1, hi, x, hx => by
    obtain ⟨o, m, ho, _, hk, _⟩ := W.op (i := i) (by omega)
    rcases hk.fls_eq with e | ⟨ob, e, e2⟩
    · rw [e] at hx
      obtain ⟨h1, h2⟩ := W.made i (by omega) x hx
      exact ⟨by omega, h2⟩
    · rw [e] at hx
      rcases List.mem_cons.1 hx with rfl | hx
      · exact ⟨by simp, rfl, e2, e⟩
      · obtain ⟨h1, h2⟩ := W.made i (by omega) x hx
        exact ⟨by omega, h2⟩
theorem Way.fl_keeps (W : Way P callF ops base nt hp0 nid0 σ) {i : Nat} {id : Nat} {x : Nat × AObj} (h : flOf (σ i).fls id = some x) (hi : i ≤ ops.size) : ∀ (j : Nat), i ≤ j → j ≤ ops.size → flOf (σ j).fls id = some x
  | 0, h1, _ => by have : i = 0 := by omega
                   subst this; exact h
  | j + 1, h1, h2 => by
    by_cases hij : i = j + 1
    · rw [← hij]; exact h
    · have ih := W.fl_keeps h hi j (by omega) (by omega)
      obtain ⟨o, m, ho, _, hk, _⟩ := W.op (i := j) (by omega)
      rcases hk.fls_eq with e | ⟨ob, e, e2⟩
      · rw [e]; exact ih
      · rw [e, flOf_cons]
        obtain ⟨k1, k2, k3, k4⟩ := W.made i hi _ (flOf_mem _ _ _ h)
        simp only at k1 k2 k3
        have := W.nid (i := x.1 + 1) (j := j) (by omega) (by omega)
        rw [if_neg (by simp only; omega)]
        exact ih
end
end Ev
end Go.Proofs.Ytagpaoglcjcaeaa
