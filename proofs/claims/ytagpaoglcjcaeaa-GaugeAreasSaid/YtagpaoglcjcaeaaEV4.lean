import Derived.Test.YtagpaoglcjcaeaaEV3
set_option linter.unusedSimpArgs false
set_option linter.unusedVariables false
namespace Go.Proofs.Ytagpaoglcjcaeaa
namespace Ev

/-! The operations: what is reckoned is what is run. -/

def ERel (M : Mp) (e : Operand → Option Value) (ρ : Operand → Value) : Prop := ∀ x v, e x = some v → VRel M v (ρ x)

def EffOk (P : Program) (B : Nat) (M : Mp) (hp : T AObj) (nid : Nat) (w : World) (v : Value) (hp' : T AObj) (nid' : Nat) (s : Result Next) : Prop :=
  ∃ x v' w' M', s = .ok x w' ∧ (x = .value v' ∨ (x = .skip ∧ v' = undef)) ∧ VRel M' v v' ∧ HRel P B M' hp'.get w' ∧ Evol M hp.get nid w M' hp'.get nid' w'
def NOk (P : Program) (B : Nat) (M : Mp) (hp : T AObj) (nid : Nat) (w : World) (s : Result Next) : OR → Prop
  | .val v => ∃ v', s = .ok (.value v') w ∧ VRel M v v'
  | .new v ob => ∃ v' obj, s = .ok (.value v') { w with heap := w.heap.push obj } ∧ VRel (M.upd nid w.heap.size 0) v v' ∧ ORel P M 0 ob obj
  | .eff v hp' nid' => EffOk P B M hp nid w v hp' nid' s
  | .call t args => ∃ args' : Array Value, LRel M args args'.toList ∧ match t with
      | .fn f => s = .ok (.enter f args') w ∧ callable P f = true
      | .yield l => ∃ l' rr, M l = some (l', rr) ∧ s = (Instr.yield l' args').run P w

/-- the first number behind what an operation takes -/
def topOf (nid : Nat) : OR → Nat
  | .new .. => nid + 1
  | .eff _ _ n => n
  | _ => nid

section
variable {P : Program} {B : Nat} {M : Mp} {e : Operand → Option Value} {ρ : Operand → Value} {o : Oper} {hp : T AObj} {nid : Nat} {w : World} {r : OR}

theorem ok_move {x : Operand} (h : oMove x P e o hp nid = some r) (he : ERel M e ρ) : NOk P B M hp nid w (.ok (.value (ρ x)) w) r := by
  obtain ⟨v, hv, rfl⟩ := oval_some h
  exact ⟨_, rfl, he x v hv⟩
theorem ok_extract {x : Operand} {ix : Nat} (h : oExtract x ix P e o hp nid = some r) (he : ERel M e ρ) :
    NOk P B M hp nid w (((do pure (.value (← Instr.extract (ρ x) ix))) : Sem Next).run P w) r := by
  obtain ⟨v, hv, h⟩ := ob_some h
  obtain ⟨cs, rfl, h⟩ := withTup_some h
  obtain ⟨u, hu, rfl⟩ := oval_some h
  have hr := he x _ hv
  generalize ρ x = y at hr
  cases hr with
  | tup hs h1 =>
    rename_i cs'
    have hl : LRel M cs.toList cs'.toList := lrel_arr.2 ⟨hs, h1⟩
    obtain ⟨u', e', hr⟩ := hl.get (i := ix) (by simpa using hu)
    have e' : cs'[ix]? = some u' := by simpa using e'
    exact ⟨u', by simp [Instr.extract, e'], hr⟩
theorem ok_field {s : TypeId} {x : Operand} {f : Nat} (h : oField s x f P e o hp nid = some r) (he : ERel M e ρ) :
    NOk P B M hp nid w (((do pure (.value (← Instr.field s (ρ x) f))) : Sem Next).run P w) r := by
  obtain ⟨v, hv, h⟩ := ob_some h
  obtain ⟨cs, rfl, h⟩ := withAgg_some h
  obtain ⟨fd, hfd, h⟩ := ob_some h
  obtain ⟨u, hu, rfl⟩ := oval_some h
  obtain ⟨fs, h1, h2⟩ := fieldOf_some hfd
  have hr := he x _ hv
  generalize ρ x = y at hr
  cases hr with
  | agg hs h3 =>
    obtain ⟨u', e', hr⟩ := run_partV (P := P) (w := w) hu (lrel_arr.2 ⟨hs, h3⟩)
    exact ⟨u', by simp [Instr.field, run_underlying h1 w, h2, asAgg, e'], hr⟩
theorem ok_load {t : TypeId} {x : Operand} (h : oLoad t x P e o hp nid = some r) (he : ERel M e ρ) (hh : HRel P B M hp.get w) :
    NOk P B M hp nid w (((do pure (.value (← Instr.loadAt t (ρ x)))) : Sem Next).run P w) r := by
  obtain ⟨v, hv, h⟩ := ob_some h
  obtain ⟨b, off, rfl, h⟩ := withPtr_some h
  obtain ⟨u, hu, rfl⟩ := oval_some h
  have hr := he x _ hv
  generalize ρ x = y at hr
  cases hr with
  | ptr hb =>
    obtain ⟨u', e', hr⟩ := run_loadV hh hb hu
    exact ⟨u', by simp [Instr.loadAt, Instr.sureAddr, e'], hr⟩

theorem lay_length {c vs : List Value} {i : Nat} (h : i + vs.length ≤ c.length) : (lay c i vs).length = c.length := by
  simp [lay]; omega
theorem lay_append {a b vs : List Value} {i : Nat} (h : i + vs.length ≤ a.length) : lay (a ++ b) i vs = lay a i vs ++ b := by
  unfold lay
  rw [List.take_append_of_le_length (by omega), List.drop_append_of_le_length (by omega)]
  simp
theorem mem_lay {c vs : List Value} {i : Nat} {v : Value} (h : v ∈ lay c i vs) : v ∈ c ∨ v ∈ vs := by
  unfold lay at h
  rcases List.mem_append.1 h with h | h
  · rcases List.mem_append.1 h with h | h
    · exact .inl (List.mem_of_mem_take h)
    · exact .inr h
  · exact .inl (List.mem_of_mem_drop h)
/-- a row that is written into -/
theorem ORel.lay {r : Nat} {c vs vs' : List Value} {el : TypeId} {p : Bool} {c' : Array Value} (h : ORel P M r (.row c el p) (.cells c' el (0, 0))) (hv : LRel M vs vs') (h1 : ∀ v ∈ vs, one v = true)
    {i : Nat} (hi : i + vs.length ≤ c.length) : ORel P M r (.row (Ev.lay c i vs) el p) (.cells (Ev.lay c'.toList i vs').toArray el (0, 0)) := by
  obtain ⟨c2, e2, h2, h3, h4⟩ := h
  cases e2
  refine ⟨_, rfl, fun v hv => (mem_lay hv).elim (h2 v) (h1 v), fun hp => ?_, fun hp => ?_⟩
  · simpa using (h3 hp).lay hv i
  · obtain ⟨k1, k2, sz, k3, k4⟩ := h4 hp
    have hlen : c.length ≤ c'.toList.length := by
      have := k1.1
      simp at this
      simp; omega
    have hfull : c'.toList = c'.toList.take c.length ++ c'.toList.drop c.length := (List.take_append_drop _ _).symm
    have e1 : Ev.lay c'.toList i vs' = Ev.lay (c'.toList.take c.length) i vs' ++ c'.toList.drop c.length := by
      conv => lhs; rw [hfull]
      exact lay_append (by rw [← hv.1]; simp; simp at hlen; omega)
    refine ⟨?_, k2, sz, k3, ?_⟩
    · have e3 : (Ev.lay c i vs).length = (Ev.lay (c'.toList.take c.length) i vs').length := (k1.lay hv i).1
      show LRel M (Ev.lay c i vs) ((Ev.lay c'.toList i vs').take (Ev.lay c i vs).length)
      rw [e1, e3, List.take_left]
      exact k1.lay hv i
    · rw [← k4]
      simp
      rw [lay_length (by rw [← hv.1]; simp at hlen ⊢; omega)]
      simp
theorem setRow_size (w : World) (g : Nat) (cs : Array Value) : (w.setRow g cs).heap.size = w.heap.size := by simp [World.setRow]
/-- a block's row is another one -/
theorem HRel.setRow {g g' : Mem} (h : HRel P B M g w) {id b r : Nat} {o o' : AObj} {c0 c1 : Array Value} {el : TypeId} (hg : g id = some o) (e : M id = some (b, r))
    (hw : w.heap[b]? = some (.cells c0 el (0, 0))) (ho : ORel P M r o' (.cells c1 el (0, 0))) (hg' : ∀ i, g' i = if i = id then some o' else g i) : HRel P B M g' (w.setRow b c1) where
  has := fun i x ex => by
    rw [hg'] at ex
    split at ex
    · rename_i hi
      cases ex
      subst hi
      obtain ⟨b', r', ob, e1, e2, _, _⟩ := h.has i o hg
      rw [e] at e1
      cases e1
      exact ⟨b, r, _, e, e2, setRow_heap w b c0 c1 el (0, 0) hw, ho⟩
    · rename_i hi
      obtain ⟨b', r', ob, e1, e2, e3, e4⟩ := h.has i x ex
      refine ⟨b', r', ob, e1, e2, ?_, e4⟩
      rw [setRow_other w b b' c1 (fun eb => ?_)]
      · exact e3
      · subst eb
        exact hi (h.inj i id b' r' r (by rw [ex]; rfl) (by rw [hg]; rfl) e1 e)
  inj := fun i j b1 r1 r2 hi hj => h.inj i j b1 r1 r2
    (by rw [hg'] at hi; split at hi <;> simp_all) (by rw [hg'] at hj; split at hj <;> simp_all)
theorem Evol.setRow {g g' : Mem} {id b r : Nat} {o o' : AObj} {c1 : Array Value} (nid : Nat) (hg : g id = some o) (e : M id = some (b, r)) (hg' : ∀ i, g' i = if i = id then some o' else g i) :
    Evol M g nid w M g' nid (w.setRow b c1) where
  os := rfl
  tape := rfl
  output := rfl
  size := by rw [setRow_size]; exact Nat.le_refl _
  frame := fun k hk hn => setRow_other w b k c1 (fun ek => hn id r (by rw [hg]; rfl) (by rw [ek]; exact e))
  fresh := fun i k r' hi ei => .inl ⟨i, r', by rw [hg'] at hi; split at hi <;> simp_all, ei⟩
  ext := Ext.refl _
  dom := fun i hi hm => absurd hi hm
  le := Nat.le_refl _

theorem ones_all {l : List Value} (h : l.all one = true) : ∀ v ∈ l, one v = true := by simpa using h

theorem ok_store {t : TypeId} {x y : Operand} (h : oStore t x y P e o hp nid = some r) (he : ERel M e ρ) (hh : HRel P B M hp.get w) :
    NOk P B M hp nid w (((do Instr.storeAt t (ρ x) (ρ y); pure .skip) : Sem Next).run P w) r := by
  obtain ⟨a, ha, h⟩ := ob_some h
  obtain ⟨v, hv, h⟩ := ob_some h
  obtain ⟨b, off, rfl, h⟩ := withPtr_some h
  obtain ⟨hp', h1, h⟩ := ob_some h
  cases h
  obtain ⟨ro, hro, h1⟩ := ob_some h1
  obtain ⟨c, el, p, rfl, h1⟩ := withRow_some h1
  obtain ⟨n, hn, h1⟩ := ob_some h1
  obtain ⟨hc, h1⟩ := ck_some h1
  simp only [Bool.and_eq_true] at hc
  obtain ⟨hlen, hone⟩ := hc
  have hlen := Nat.eq_of_beq_eq_true hlen
  have hone := ones_all hone
  obtain ⟨c1, hc1, h1⟩ := ob_some h1
  have hget := T.get_set _ _ _ _ h1
  have hr := he x _ ha
  have hrv := he y _ hv
  generalize ρ x = px at hr
  generalize ρ y = v' at hrv
  cases hr with
  | ptr hb =>
    rename_i b' r'
    obtain ⟨b2, r2, ob, e1, _, hw, ho⟩ := hh.has b _ hro
    rw [hb] at e1
    cases e1
    obtain ⟨c', rfl, _⟩ := id ho
    have hcl := hrv.cells
    have hcells : v'.cells.size = n := by rw [← hlen]; simpa using hcl.1.symm
    rcases setsFrom_eq _ _ _ _ hc1 with ⟨rfl, hfit⟩ | ⟨hnil, rfl⟩
    · have hc'len : c.length ≤ c'.size := by
        obtain ⟨c2, e2, _, k3, k4⟩ := ho
        cases e2
        cases p with
        | false => have := (k3 rfl).1; simp at this; omega
        | true => have := (k4 rfl).1.1; simp at this; omega
      have hst := run_storeCells_at P b' off el v'.cells.toList 0 c' w hw (by have := hcl.1; simp at this hfit ⊢; omega) (hcl.ones hone)
      simp only [Nat.add_zero] at hst
      refine ⟨.skip, undef, w.setRow b' (lay c'.toList off v'.cells.toList).toArray, M, ?_, .inr ⟨rfl, rfl⟩, LRel.tup (LRel.nil M), ?_, ?_⟩
      · simp only [Instr.storeAt, Instr.sureAddr, Sem.run_bind, Sem.run_pure, Result.andThen_ok, storeVar, run_sizeT hn, hcells, ne_eq, not_true_eq_false, if_false, hst]
        rfl
      · exact hh.setRow hro hb hw (ho.lay hcl hone hfit) hget
      · exact Evol.setRow nid hro hb hget
    · have hnil' : v'.cells.toList = [] := by
        have := hcl.1
        rw [hnil] at this
        exact List.eq_nil_of_length_eq_zero this.symm
      have hsame : ∀ i, hp'.get i = hp.get i := fun i => by rw [hget]; split <;> simp_all
      refine ⟨.skip, undef, w, M, ?_, .inr ⟨rfl, rfl⟩, LRel.tup (LRel.nil M), ?_, ?_⟩
      · simp only [Instr.storeAt, Instr.sureAddr, Sem.run_bind, Sem.run_pure, Result.andThen_ok, storeVar, run_sizeT hn, hcells, ne_eq, not_true_eq_false, if_false, hnil', storeCells]
      · exact hh.sub fun i x ex => by rw [← hsame]; exact ex
      · have := Evol.refl M hp.get nid w
        have e2 : hp'.get = hp.get := funext hsame
        rw [e2]
        exact this

theorem ok_alloc {t : TypeId} (h : oAlloc t P e o hp nid = some r) (hn : M nid = none) :
    NOk P B M hp nid w (((do pure (.value (← Instr.alloc t true (.tuple #[])))) : Sem Next).run P w) r := by
  obtain ⟨v, hv, h⟩ := ob_some h
  cases h
  obtain ⟨i, _, _, hf, h1⟩ := zeroV_some hv
  have hl : LRel M v.cells.toList v.cells.toList := (flat2_same M hf).cells
  refine ⟨.pointer (some ⟨w.heap.size, 0, none⟩), .cells v.cells t, ?_, .ptr (Mp.upd_self _ _ _ _), ⟨v.cells, rfl, ones_all h1, fun _ => hl, fun hx => by cases hx⟩⟩
  simp [Instr.alloc, run_zeroV hv, newVar, newRow]
theorem ok_box {t : TypeId} {x : Operand} (h : oBox t x P e o hp nid = some r) (he : ERel M e ρ) (hn : M nid = none) :
    NOk P B M hp nid w (((do pure (.value (← Instr.box t (ρ x)))) : Sem Next).run P w) r := by
  obtain ⟨v, hv, h⟩ := ob_some h
  obtain ⟨hc, h⟩ := ck_some h
  cases h
  have hr := he x _ hv
  refine ⟨.pointer (some ⟨w.heap.size, 0, none⟩), .cells (ρ x).cells t, ?_, .ptr (Mp.upd_self _ _ _ _), ⟨(ρ x).cells, rfl, ones_all hc, fun _ => hr.cells, fun hx => by cases hx⟩⟩
  simp [Instr.box, newVar, newRow]

theorem ok_fieldAddr {s : TypeId} {x : Operand} {f : Nat} (h : oFieldAddr s x f P e o hp nid = some r) (he : ERel M e ρ) :
    NOk P B M hp nid w (((do pure (.value (← Instr.fieldAt s (ρ x) f))) : Sem Next).run P w) r := by
  obtain ⟨v, hv, h⟩ := ob_some h
  obtain ⟨b, off, rfl, h⟩ := withPtr_some h
  obtain ⟨fd, hfd, h⟩ := ob_some h
  obtain ⟨n, hn, h⟩ := ob_some h
  obtain ⟨hc, h⟩ := ck_some h
  cases h
  obtain ⟨fs, h1, h2⟩ := fieldOf_some hfd
  have hn0 : n ≠ 0 := by have := Nat.le_of_ble_eq_true hc; omega
  have hr := he x _ hv
  generalize ρ x = y at hr
  cases hr with
  | ptr hb => exact ⟨_, by simp [Instr.fieldAt, run_underlying h1 w, h2, Instr.sureAddr, Go.fieldPlace, run_sizeT hn, hn0, Addr.add_lit], .ptr hb⟩
theorem ok_indexAddr {t : TypeId} {x ix : Operand} (h : oIndexAddr t x ix P e o hp nid = some r) (he : ERel M e ρ) :
    NOk P B M hp nid w (((do pure (.value (← Instr.indexAt t (ρ x) (ρ ix)))) : Sem Next).run P w) r := by
  obtain ⟨v, hv, h⟩ := ob_some h
  obtain ⟨iv, hiv, h⟩ := ob_some h
  obtain ⟨i, rfl, h⟩ := withNat_some h
  have hri := he ix _ hiv
  generalize ρ ix = yi at hri
  cases hri
  have hr := he x _ hv
  rcases bi_some h with ⟨_, h⟩ | ⟨_, h⟩
  · obtain ⟨el, hel, h⟩ := ob_some h
    have hu := elemT_some hel
    obtain ⟨n, hn, h⟩ := ob_some h
    rcases withSlc_some h with ⟨_, _, _, h⟩ | ⟨b, off, len, c, rfl, h⟩
    · cases h
    obtain ⟨hc, h⟩ := ck_some h
    cases h
    have hlt : i < len := Nat.le_of_ble_eq_true hc
    generalize ρ x = y at hr
    cases hr with
    | slc hb _ => exact ⟨_, by simp [Instr.indexAt, asIntOf, run_underlying hu w, hlt, run_sizeT hn, Addr.add_lit], .ptr hb⟩
    | slo hb _ => exact ⟨_, by simp [Instr.indexAt, asIntOf, run_underlying hu w, hlt, run_sizeT hn, Addr.add_lit], .ptr hb⟩
  · obtain ⟨a, hel, h⟩ := ob_some h
    have hu := arrT_some hel
    obtain ⟨n, hn, h⟩ := ob_some h
    obtain ⟨b, off, rfl, h⟩ := withPtr_some h
    obtain ⟨hc, h⟩ := ck_some h
    cases h
    have hlt : i < a.1 := Nat.le_of_ble_eq_true hc
    generalize ρ x = y at hr
    cases hr with
    | ptr hb => exact ⟨_, by simp [Instr.indexAt, asIntOf, run_underlying hu w, Instr.sureAddr, hlt, run_sizeT hn, Addr.add_lit], .ptr hb⟩
end

end Ev
end Go.Proofs.Ytagpaoglcjcaeaa
