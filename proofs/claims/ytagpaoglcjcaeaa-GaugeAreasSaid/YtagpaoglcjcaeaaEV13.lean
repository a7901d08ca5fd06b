import Derived.Test.YtagpaoglcjcaeaaEV12
set_option linter.unusedSimpArgs false
set_option linter.unusedVariables false
namespace Go.Proofs.Ytagpaoglcjcaeaa
namespace Ev

abbrev Lst (l : Array Bool) (i : Nat) : Prop := l.getD i false = true

section
variable {P : Program} {callF : CallF} {ops : Array Oper} {base : Tm} {nt : Nat} {hp0 : T AObj} {nid0 : Nat} {σ : Nat → DS}

noncomputable def stg (ops : Array Oper) (σ : Nat → DS) (p : Nat) (l : Array Bool) : Mem := fun id =>
  match (σ p).core.get id with
  | some o => some o
  | none => match flOf (σ ops.size).fls id with
    | some x => if Lst l x.1 ∧ id ∉ (σ p).abs then some x.2 else none
    | none => none

structure IsStage (ops : Array Oper) (l : Array Bool) (p : Nat) : Prop where
  le : p ≤ ops.size
  done : ∀ e o, e < p → ops[e]? = some o → isEff o = true → Lst l e
  todo : ∀ e o, p ≤ e → ops[e]? = some o → isEff o = true → ¬ Lst l e
  here : p = ops.size ∨ ∃ o, ops[p]? = some o ∧ isEff o = true

theorem next_stage {l : Array Bool} : ∀ (d k : Nat), k + d = ops.size → (∀ e o, e < k → ops[e]? = some o → isEff o = true → Lst l e) → (∀ e o, k ≤ e → ops[e]? = some o → isEff o = true → ¬ Lst l e) →
    ∃ p, k ≤ p ∧ IsStage ops l p ∧ ∀ e o, k ≤ e → e < p → ops[e]? = some o → isEff o = false
  | 0, k, hk, h1, h2 => ⟨k, Nat.le_refl _, ⟨by omega, h1, h2, .inl (by omega)⟩, fun e o a b => by omega⟩
  | d + 1, k, hk, h1, h2 => by
    have hlt : k < ops.size := by omega
    have ho := Array.getElem?_eq_getElem hlt
    cases he : isEff ops[k] with
    | true => exact ⟨k, Nat.le_refl _, ⟨by omega, h1, h2, .inr ⟨_, ho, he⟩⟩, fun e o a b => by omega⟩
    | false =>
      obtain ⟨p, p1, p2, p3⟩ := next_stage d (k + 1) (by omega) (fun e o a b c => by
        by_cases hek : e = k
        · subst hek; rw [ho] at b; cases b; rw [he] at c; cases c
        · exact h1 e o (by omega) b c) (fun e o a => h2 e o (by omega))
      refine ⟨p, by omega, p2, fun e o a b c => ?_⟩
      by_cases hek : e = k
      · subst hek; rw [ho] at c; cases c; exact he
      · exact p3 e o (by omega) b c

theorem Kind.same {i m : Nat} {o : Oper} {s s' : DS} (k : Kind P callF ops base nt i m o s s') (he : isEff o = false) : s'.core = s.core ∧ s'.abs = s.abs ∧ s'.old = s.old := by
  cases k with
  | skip hw hl hs => exact ⟨hs.1, hs.2.1, hs.2.2.2.2.1⟩
  | val v hw _ hv hl hs => exact ⟨hs.1, hs.2.1, hs.2.2.2.2.1⟩
  | load t x b off v hw _ ho hx hv hold hl hs => exact ⟨hs.1, hs.2.1, hs.2.2.2.2.1⟩
  | new v ob hw _ hv hl hs => exact ⟨hs.1, hs.2.1, hs.2.2.2.2.1⟩
  | iso f args c v hp nid hw h2 => rw [he] at h2; cases h2
  | turn c v core nid hw h2 => rw [he] at h2; cases h2
theorem Way.still (W : Way P callF ops base nt hp0 nid0 σ) {k : Nat} : ∀ (p : Nat), k ≤ p → p ≤ ops.size → (∀ e o, k ≤ e → e < p → ops[e]? = some o → isEff o = false) → (σ p).core = (σ k).core ∧ (σ p).abs = (σ k).abs
  | 0, h1, h2, h3 => by have : k = 0 := by omega
                        subst this; exact ⟨rfl, rfl⟩
  | p + 1, h1, h2, h3 => by
    by_cases hk : k = p + 1
    · subst hk; exact ⟨rfl, rfl⟩
    · obtain ⟨o, m, ho, _, hkd, _⟩ := W.op (i := p) (by omega)
      obtain ⟨e1, e2, _⟩ := hkd.same (h3 p o (by omega) (by omega) ho)
      obtain ⟨f1, f2⟩ := W.still p (by omega) (by omega) (fun e o a b => h3 e o a (by omega))
      exact ⟨e1.trans f1, e2.trans f2⟩
/-- either the memory has not turned, or the turn is noted -/
theorem Kind.core_or {i m : Nat} {o : Oper} {s s' : DS} (k : Kind P callF ops base nt i m o s s') : (s'.core = s.core ∧ s'.abs = s.abs ∧ s'.old = s.old) ∨ s'.old = (i, s.core, s.abs) :: s.old := by
  cases k with
  | skip hw hl hs => exact .inl ⟨hs.1, hs.2.1, hs.2.2.2.2.1⟩
  | val v hw _ hv hl hs => exact .inl ⟨hs.1, hs.2.1, hs.2.2.2.2.1⟩
  | load t x b off v hw _ ho hx hv hold hl hs => exact .inl ⟨hs.1, hs.2.1, hs.2.2.2.2.1⟩
  | new v ob hw _ hv hl hs => exact .inl ⟨hs.1, hs.2.1, hs.2.2.2.2.1⟩
  | iso f args c v hp nid hw h2 hc hv hf hcall hfl hl hs => exact .inl ⟨hs.1, hs.2.1, hs.2.2.2.2.1⟩
  | turn c v core nid hw h2 hc hv hle hlds hl hs => exact .inr hs.2.2.2.2.1
theorem Way.old_keeps (W : Way P callF ops base nt hp0 nid0 σ) {i : Nat} {q : Nat × T AObj × List Nat} (h : q ∈ (σ i).old) : ∀ j, i ≤ j → j ≤ ops.size → q ∈ (σ j).old
  | 0, h1, _ => by have : i = 0 := by omega
                   subst this; exact h
  | j + 1, h1, h2 => by
    by_cases hij : i = j + 1
    · rw [← hij]; exact h
    · have ih := W.old_keeps h j (by omega) (by omega)
      obtain ⟨o, m, ho, _, hk, _⟩ := W.op (i := j) (by omega)
      rcases hk.core_or with ⟨_, _, e⟩ | e
      · rw [e]; exact ih
      · rw [e]; exact List.mem_cons_of_mem _ ih
/-- the first turn from a place on, up to another -/
theorem Way.turns (W : Way P callF ops base nt hp0 nid0 σ) : ∀ (d p i : Nat), p + d = i → i ≤ ops.size → ((σ p).core = (σ i).core ∧ (σ p).abs = (σ i).abs) ∨
    ∃ e o, p ≤ e ∧ e < i ∧ ops[e]? = some o ∧ isEff o = true ∧ (e, (σ p).core, (σ p).abs) ∈ (σ i).old
  | 0, p, i, h, hi => by have : p = i := by omega
                         subst this; exact .inl ⟨rfl, rfl⟩
  | d + 1, p, i, h, hi => by
    obtain ⟨o, m, ho, _, hk, _⟩ := W.op (i := p) (by omega)
    rcases hk.core_or with ⟨e1, e2, e3⟩ | e
    · rcases W.turns d (p + 1) i (by omega) hi with ⟨f1, f2⟩ | ⟨e', o', a1, a2, a3, a4, a5⟩
      · exact .inl ⟨e1.symm.trans f1, e2.symm.trans f2⟩
      · refine .inr ⟨e', o', by omega, a2, a3, a4, ?_⟩
        rw [e1, e2] at a5
        exact a5
    · right
      refine ⟨p, o, Nat.le_refl _, by omega, ho, ?_, W.old_keeps (by rw [e]; simp) i (by omega) hi⟩
      cases hx : isEff o with
      | true => rfl
      | false =>
        have := (hk.same hx).2.2
        rw [e] at this
        have := congrArg List.length this
        simp at this
theorem clean_spec {fls : List (Nat × Nat × AObj)} {core : T AObj} {abs : List Nat} (h : clean fls core abs = true) {x : Nat × Nat × AObj} (hx : x ∈ fls) : x.2.1 ∈ abs ∨ core.get x.2.1 = none := by
  have := List.all_eq_true.1 h x hx
  rw [Bool.or_eq_true] at this
  rcases this with h1 | h1
  · obtain ⟨a, ha, hb⟩ := List.any_eq_true.1 h1
    rw [Nat.eq_of_beq_eq_true hb] at ha
    exact .inl ha
  · right
    cases hg : core.get x.2.1 with
    | none => rfl
    | some o => rw [hg] at h1; cases h1
theorem Way.noclash (W : Way P callF ops base nt hp0 nid0 σ) {i : Nat} (hi : i ≤ ops.size) {x : Nat × Nat × AObj} (hx : x ∈ (σ ops.size).fls) : x.2.1 ∈ (σ i).abs ∨ (σ i).core.get x.2.1 = none := by
  rcases W.turns (ops.size - i) i ops.size (by omega) (Nat.le_refl _) with ⟨e1, e2⟩ | ⟨e, o, _, _, _, _, hm⟩
  · rw [e1, e2]; exact clean_spec W.clean1 hx
  · exact clean_spec (W.clean2 _ hm) hx
/-- what has been taken in had to lie ahead of something that is done -/
theorem Way.abs_from (W : Way P callF ops base nt hp0 nid0 σ) : ∀ (p : Nat), p ≤ ops.size → ∀ id, id ∈ (σ p).abs → ∃ e o m j ob, e < p ∧ ops[e]? = some o ∧ isEff o = true ∧ (musts ops.toList [])[e]? = some m ∧ bit m j = true ∧ (j, id, ob) ∈ (σ p).fls
  | 0, _, id, h => by rw [W.start] at h; simp at h
  | p + 1, hp, id, h => by
    obtain ⟨o, m, ho, hm, hk, _⟩ := W.op (i := p) (by omega)
    have hfl : ∀ x, x ∈ (σ p).fls → x ∈ (σ (p + 1)).fls := fun x hx => by
      rcases hk.fls_eq with e | ⟨ob, e, _⟩
      · rw [e]; exact hx
      · rw [e]; exact List.mem_cons_of_mem _ hx
    have old : id ∈ (σ p).abs → ∃ e o m j ob, e < p + 1 ∧ ops[e]? = some o ∧ isEff o = true ∧ (musts ops.toList [])[e]? = some m ∧ bit m j = true ∧ (j, id, ob) ∈ (σ (p + 1)).fls := fun h => by
      obtain ⟨e, o, m, j, ob, a1, a2, a3, a4, a5, a6⟩ := W.abs_from p (by omega) id h
      exact ⟨e, o, m, j, ob, by omega, a2, a3, a4, a5, hfl _ a6⟩
    cases hk with
    | skip hw hl hs => rw [hs.2.1] at h; exact old h
    | val v hw _ hv hl hs => rw [hs.2.1] at h; exact old h
    | load t x b off v hw _ ho hx hv hold hl hs => rw [hs.2.1] at h; exact old h
    | new v ob hw _ hv hl hs => rw [hs.2.1] at h; exact old h
    | iso f args c v hp nid hw h2 hc hv hf hcall hfl hl hs => rw [hs.2.1] at h; exact old h
    | turn c v core nid hw h2 hc hv hle hlds hl hs =>
      rw [hs.2.1] at h
      obtain ⟨_, _, _, k4, _⟩ := absorb_spec _ _ _ _ hc
      rcases k4 id h with h | ⟨j, ob, h1, h3⟩
      · exact old h
      · exact ⟨p, o, m, j, ob, by omega, ho, h2, hm, h3, hfl _ h1⟩

theorem lookAt_some {m : Nat} {core : T AObj} {abs : List Nat} {fls : List (Nat × Nat × AObj)} {id : Nat} {o : AObj} (h : lookAt m core abs fls id = some o) :
    core.get id = some o ∨ (core.get id = none ∧ ∃ j, flOf fls id = some (j, o) ∧ bit m j = true ∧ id ∉ abs) := by
  unfold lookAt at h
  cases hg : core.get id with
  | some o' => rw [hg] at h; cases h; exact .inl rfl
  | none =>
    rw [hg] at h
    have h : (ob (flOf fls id) fun x => ck (bit m x.1 && abs.all (fun a => !(Nat.beq a id))) (some x.2)) = some o := h
    obtain ⟨x, hx, h⟩ := ob_some h
    obtain ⟨hc, h⟩ := ck_some h
    cases h
    rw [Bool.and_eq_true] at hc
    refine .inr ⟨rfl, x.1, hx, hc.1, fun hm => ?_⟩
    have := List.all_eq_true.1 hc.2 id hm
    simp at this
theorem run_loadO {M : Mp} {B : Nat} {g : Mem} {w : World} {t : TypeId} {b b' r off : Nat} {o : Option AObj} {v : Value} (hh : HRel P B M g w) (hb : M b = some (b', r)) (hg : ∀ x, o = some x → g b = some x) (h : loadO P o t off = some v) :
    ∃ v', (loadVar t ⟨b', off, none⟩).run P w = .ok v' w ∧ VRel M v v' := by
  obtain ⟨x, hx, h⟩ := ob_some h
  obtain ⟨c, e, p, rfl, h⟩ := withRow_some h
  obtain ⟨b2, r2, obj, e1, _, hw, ho⟩ := hh.has b _ (hg _ hx)
  rw [hb] at e1
  cases e1
  obtain ⟨g', hg', h⟩ := ob_some h
  rcases bi_some h with ⟨hbb, h2⟩ | ⟨hbb, h2⟩ <;> clear h <;> subst hbb <;> have h := h2 <;> clear h2
  · obtain ⟨n, hn, h⟩ := ob_some h
    obtain ⟨l, hl, h⟩ := ob_some h
    cases h
    obtain ⟨l', h1, h2, h3⟩ := cells_of ho hw hl
    have := run_loadCells_list (P := P) w ⟨b', off, none⟩ l' h2
    rw [h3] at this
    refine ⟨.agg l'.toArray, by simp [loadVar, run_aggT hg', run_sizeT hn, this], LRel.agg (by simpa using h1)⟩
  · rw [nth_eq] at h
    obtain ⟨v', e', hr⟩ := ho.cell hw h
    exact ⟨v', by simp [loadVar, run_aggT hg', e'], hr⟩

/-- what holds when some operations of the region are done, in whatever order -/
structure DInv (ds : List Deferred) (P : Program) (ops : Array Oper) (base : Tm) (nt : Nat) (hp0 : T AObj) (nid0 : Nat) (σ : Nat → DS) (B : Nat) (M0 : Mp) (w0 : World) (l : Array Bool) (p : Nat) (M : Mp) (a : Act) (w : World) : Prop where
  size : l.size = ops.size
  closed : Closed ops (Lst l)
  stage : IsStage ops l p
  defers : a.defers = ds
  tsize : a.tmps.size = nt
  tmps1 : ∀ j o d v, ops[j]? = some o → o.dst = some d → Lst l j → agt (σ ops.size).loc d = some v → ∃ v', a.tmps[d]? = some v' ∧ VRel M v v'
  tmps0 : ∀ t v, (∀ j o, ops[j]? = some o → o.dst = some t → ¬ Lst l j) → agt base t = some v → ∃ v', a.tmps[t]? = some v' ∧ VRel M v v'
  heap : HRel P B M (stg ops σ p l) w
  base_ : B ≤ w.heap.size
  dom : ∀ id, M id ≠ none → M0 id ≠ none ∨ ∃ j, j < ops.size ∧ Lst l j ∧ (σ j).nid ≤ id ∧ id < (σ (j + 1)).nid
  evol : Evol M0 hp0.get nid0 w0 M (stg ops σ p l) (σ ops.size).nid w
end
end Ev
end Go.Proofs.Ytagpaoglcjcaeaa
