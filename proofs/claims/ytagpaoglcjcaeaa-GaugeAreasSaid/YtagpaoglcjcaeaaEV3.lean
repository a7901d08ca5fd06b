import Derived.Test.YtagpaoglcjcaeaaEV2
import Derived.Orders
import Derived.ChangeKeysEq
set_option linter.unusedSimpArgs false
set_option linter.unusedVariables false
namespace Go.Proofs.Ytagpaoglcjcaeaa
namespace Ev

/-! What the abstract memory says of a world; loads, stores, new blocks. -/

def codeOf : AX → Code
  | .normal => .skip
  | .exit id => .exit id
  | .goto l => .goto l
  | .ret => .ret
def stateIs (st : Nat) : LoopState := if st = 0 then .ready else if st = 1 then .busy else .done
/-- the temporaries of a frame -/
def TRel (M : Mp) (kp : Nat) (tm : Tm) (tmps : Array Value) : Prop := ∀ t v, agt tm t = some v → kept kp t = true ∧ ∃ v', tmps[t]? = some v' ∧ VRel M v v'
def ORel (P : Program) (M : Mp) (r : Nat) : AObj → Obj → Prop
  | .loop st pend tm kp nt ps as_ body d, ob => ∃ l : Loop, ob = .loop l ∧ l.state = stateIs st ∧ l.pending = pend.map codeOf ∧ l.params = ps ∧ l.assign = as_ ∧ l.body = body ∧ l.tmps.size = nt ∧ TRel M kp tm l.tmps ∧ (st ≠ 2 → pend = none) ∧
      ∃ r', M d = some (l.defers, r')
  | .dfr, ob => ob = .deferred (some [])
  | .row c e p, ob => ∃ c' : Array Value, ob = .cells c' e (0, 0) ∧ (∀ v ∈ c, one v = true) ∧ (p = false → LRel M c c'.toList) ∧
      (p = true → LRel M c (c'.toList.take c.length) ∧ r ≤ maxLen ∧ ∃ sz, sizeT P e = some sz ∧ c'.size = r * sz)

abbrev Mem := Nat → Option AObj

structure HRel (P : Program) (B : Nat) (M : Mp) (g : Mem) (w : World) : Prop where
  has : ∀ id o, g id = some o → ∃ b r ob, M id = some (b, r) ∧ B ≤ b ∧ w.heap[b]? = some ob ∧ ORel P M r o ob
  inj : ∀ i j b r r', (g i).isSome = true → (g j).isSome = true → M i = some (b, r) → M j = some (b, r') → i = j

structure Evol (M : Mp) (g : Mem) (nid : Nat) (w : World) (M' : Mp) (g' : Mem) (nid' : Nat) (w' : World) : Prop where
  os : w'.os = w.os
  tape : w'.tape = w.tape
  output : w'.output = w.output
  size : w.heap.size ≤ w'.heap.size
  frame : ∀ b, b < w.heap.size → (∀ id r, (g id).isSome = true → M id ≠ some (b, r)) → w'.heap[b]? = w.heap[b]?
  fresh : ∀ id b r, (g' id).isSome = true → M' id = some (b, r) → (∃ id0 r0, (g id0).isSome = true ∧ M id0 = some (b, r0)) ∨ w.heap.size ≤ b
  ext : Ext M M'
  dom : ∀ id, M id = none → M' id ≠ none → nid ≤ id ∧ id < nid'
  le : nid ≤ nid'

theorem Evol.refl (M : Mp) (g : Mem) (nid : Nat) (w : World) : Evol M g nid w M g nid w :=
  ⟨rfl, rfl, rfl, Nat.le_refl _, fun _ _ _ => rfl, fun id b r h e => .inl ⟨id, r, h, e⟩, Ext.refl _, fun id h k => absurd h k, Nat.le_refl _⟩
theorem Evol.trans {M M1 M2 : Mp} {g g1 g2 : Mem} {n n1 n2 : Nat} {w w1 w2 : World} (h : Evol M g n w M1 g1 n1 w1) (k : Evol M1 g1 n1 w1 M2 g2 n2 w2) :
    Evol M g n w M2 g2 n2 w2 where
  os := k.os.trans h.os
  tape := k.tape.trans h.tape
  output := k.output.trans h.output
  size := Nat.le_trans h.size k.size
  frame := fun b hb hn => by
    rw [k.frame b (Nat.lt_of_lt_of_le hb h.size) ?_, h.frame b hb hn]
    intro id r hg he
    rcases h.fresh id b r hg he with ⟨id0, r0, h0, e0⟩ | hlt
    · exact hn id0 r0 h0 e0
    · omega
  fresh := fun id b r hg he => by
    rcases k.fresh id b r hg he with ⟨id1, r1, h1, e1⟩ | hlt
    · exact h.fresh id1 b r1 h1 e1
    · exact .inr (Nat.le_trans h.size hlt)
  ext := h.ext.trans k.ext
  dom := fun id hn hm => by
    cases e : M1 id with
    | none => have := k.dom id e hm; have := h.le; omega
    | some x => have := h.dom id hn (by simp [e]); have := k.le; omega
  le := Nat.le_trans h.le k.le

theorem ORel.ext {P : Program} {M M' : Mp} (hx : Ext M M') {r : Nat} {o : AObj} {ob : Obj} (h : ORel P M r o ob) : ORel P M' r o ob := by
  cases o with
  | dfr => exact h
  | loop st pend tm kp nt ps as_ body d =>
    obtain ⟨l, h1, h2, h3, h4, h5, h6, h7, h8, hp, r', h9⟩ := h
    exact ⟨l, h1, h2, h3, h4, h5, h6, h7, fun t v e => ⟨(h8 t v e).1, (h8 t v e).2.imp fun _ k => ⟨k.1, k.2.ext hx⟩⟩, hp, r', hx _ _ h9⟩
  | row c e p =>
    obtain ⟨c', h1, h2, h3, h4⟩ := h
    exact ⟨c', h1, h2, fun hp => (h3 hp).ext hx, fun hp => ⟨(h4 hp).1.ext hx, (h4 hp).2⟩⟩
theorem HRel.sub {P : Program} {B : Nat} {M : Mp} {g g0 : Mem} {w : World} (h : HRel P B M g w) (hs : ∀ id o, g0 id = some o → g id = some o) : HRel P B M g0 w where
  has := fun id o e => h.has id o (hs id o e)
  inj := fun i j b r r' hi hj => h.inj i j b r r' (by
    obtain ⟨o, e⟩ := Option.isSome_iff_exists.1 hi
    rw [hs i o e]; rfl) (by
    obtain ⟨o, e⟩ := Option.isSome_iff_exists.1 hj
    rw [hs j o e]; rfl)

/-- one more block -/
def Mp.upd (M : Mp) (id b r : Nat) : Mp := fun i => if i = id then some (b, r) else M i
theorem Mp.upd_ext {M : Mp} {id b r : Nat} (h : M id = none) : Ext M (M.upd id b r) := fun i x e => by
  unfold Mp.upd
  split
  · rename_i hi; rw [hi, h] at e; cases e
  · exact e
theorem Mp.upd_self (M : Mp) (id b r : Nat) : M.upd id b r id = some (b, r) := by simp [Mp.upd]

theorem heap_push {w : World} {ob : Obj} {b : Nat} (h : b < w.heap.size) : (w.heap.push ob)[b]? = w.heap[b]? := by
  rw [Array.getElem?_push, if_neg (Nat.ne_of_lt h)]
theorem HRel.lt {P : Program} {B : Nat} {M : Mp} {g : Mem} {w : World} (h : HRel P B M g w) {id b r : Nat} (hg : (g id).isSome = true) (e : M id = some (b, r)) : b < w.heap.size := by
  obtain ⟨o, ho⟩ := Option.isSome_iff_exists.1 hg
  obtain ⟨b', r', ob, e', _, hw, _⟩ := h.has id o ho
  rw [e] at e'
  cases e'
  exact (Array.getElem?_eq_some_iff.1 hw).1

/-- a world that has one more block, and has drawn perhaps -/
theorem HRel.push {P : Program} {B : Nat} {M : Mp} {g g' : Mem} {w w' : World} {id r : Nat} {o : AObj} {ob : Obj} (h : HRel P B M g w) (hB : B ≤ w.heap.size) (hn : M id = none)
    (hg : ∀ i, g' i = if i = id then some o else g i) (hw : w'.heap = w.heap.push ob) (ho : ORel P (M.upd id w.heap.size r) r o ob) : HRel P B (M.upd id w.heap.size r) g' w' where
  has := fun i x e => by
    rw [hg] at e
    split at e
    · rename_i hi
      cases e
      subst hi
      exact ⟨w.heap.size, r, ob, Mp.upd_self _ _ _ _, hB, by rw [hw]; simp, ho⟩
    · rename_i hi
      obtain ⟨b, r', ob', e1, e2, e3, e4⟩ := h.has i x e
      exact ⟨b, r', ob', Mp.upd_ext hn i _ e1, e2, by rw [hw, heap_push (Array.getElem?_eq_some_iff.1 e3).1]; exact e3, e4.ext (Mp.upd_ext hn)⟩
  inj := fun i j b r1 r2 hi hj e1 e2 => by
    rw [hg] at hi hj
    unfold Mp.upd at e1 e2
    by_cases h1 : i = id
    · by_cases h2 : j = id
      · rw [h1, h2]
      · simp only [h1, h2, if_true, if_false] at e1 e2 hj
        cases e1
        have := h.lt hj e2
        omega
    · by_cases h2 : j = id
      · simp only [h1, h2, if_true, if_false] at e1 e2 hi
        cases e2
        have := h.lt hi e1
        omega
      · simp only [h1, h2, if_false] at e1 e2 hi hj
        exact h.inj i j b r1 r2 hi hj e1 e2
theorem Evol.push {P : Program} {B : Nat} {M : Mp} {g g' : Mem} {w w' : World} {id r : Nat} {o : AObj} {ob : Obj} (h : HRel P B M g w) (hn : M id = none)
    (hg : ∀ i, g' i = if i = id then some o else g i) (hw : w'.heap = w.heap.push ob) (h1 : w'.os = w.os) (h2 : w'.tape = w.tape) (h3 : w'.output = w.output) :
    Evol M g id w (M.upd id w.heap.size r) g' (id + 1) w' where
  os := h1
  tape := h2
  output := h3
  size := by rw [hw]; simp
  frame := fun b hb _ => by rw [hw, heap_push hb]
  fresh := fun i b r' hi e => by
    rw [hg] at hi
    unfold Mp.upd at e
    by_cases hid : i = id
    · simp only [hid, if_true] at e; cases e; exact .inr (Nat.le_refl _)
    · simp only [hid, if_false] at e hi; exact .inl ⟨i, r', hi, e⟩
  ext := Mp.upd_ext hn
  dom := fun i hi hm => by
    unfold Mp.upd at hm
    by_cases hid : i = id
    · omega
    · simp only [hid, if_false] at hm; exact absurd hi hm
  le := by omega

theorem nth_eq : ∀ (c : List Value) (i : Nat), nth c i = c[i]?
  | [], i => by simp [nth]
  | v :: c, i => by
    have h : nth (v :: c) i = bi (Nat.beq i 0) (some v) (nth c (Nat.sub i 1)) := rfl
    rw [h, bi_if, beq_eq]
    cases i with
    | zero => simp
    | succ i => simp [nth_eq c]
theorem getsFrom_spec : ∀ (c : List Value) (n i : Nat) (l : List Value), getsFrom c n i = some l → l.length = n ∧ ∀ j v, l[j]? = some v → c[i + j]? = some v
  | c, 0, i, l, h => by cases h; exact ⟨rfl, fun j v e => by simp at e⟩
  | c, n + 1, i, l, h => by
    have h' : (ob (nth c i) fun v => ob (getsFrom c n (i + 1)) fun l => some (v :: l)) = some l := h
    obtain ⟨v, hv, h'⟩ := ob_some h'
    obtain ⟨l', hl, h'⟩ := ob_some h'
    cases h'
    rw [nth_eq] at hv
    obtain ⟨k1, k2⟩ := getsFrom_spec c n (i + 1) l' hl
    refine ⟨by simp [k1], fun j x e => ?_⟩
    cases j with
    | zero => simp at e; subst e; simpa using hv
    | succ j => have := k2 j x (by simpa using e); rw [show i + (j + 1) = i + 1 + j by omega]; exact this
theorem setNth_eq : ∀ (c : List Value) (i : Nat) (v : Value) (l : List Value), setNth c i v = some l → l = c.set i v ∧ i < c.length
  | [], i, v, l, h => by cases h
  | x :: c, i, v, l, h => by
    have h' : bi (Nat.beq i 0) (some (v :: c)) (ob (setNth c (Nat.sub i 1) v) fun l => some (x :: l)) = some l := h
    rw [bi_if, beq_eq] at h'
    cases i with
    | zero => simp at h'; subst h'; simp
    | succ i =>
      simp at h'
      obtain ⟨l', hl, h'⟩ := ob_some h'
      cases h'
      obtain ⟨k1, k2⟩ := setNth_eq c i v l' hl
      subst k1
      simp; omega
/-- the cells laid from a place on -/
def lay (c : List Value) (i : Nat) (vs : List Value) : List Value := c.take i ++ vs ++ c.drop (i + vs.length)
theorem setsFrom_eq : ∀ (vs : List Value) (i : Nat) (c l : List Value), setsFrom vs i c = some l → l = lay c i vs ∧ i + vs.length ≤ c.length ∨ vs = [] ∧ l = c
  | [], i, c, l, h => by cases h; exact .inr ⟨rfl, rfl⟩
  | v :: vs, i, c, l, h => by
    have h' : (ob (setNth c i v) fun c => setsFrom vs (Nat.succ i) c) = some l := h
    obtain ⟨c1, hc, h'⟩ := ob_some h'
    obtain ⟨rfl, hi⟩ := setNth_eq c i v c1 hc
    left
    rcases setsFrom_eq vs (i + 1) _ l h' with ⟨rfl, hl⟩ | ⟨rfl, rfl⟩
    · refine ⟨?_, by simp at hl ⊢; omega⟩
      unfold lay
      apply List.ext_getElem?
      intro k
      simp only [List.getElem?_append, List.length_append, List.length_take, List.length_set, List.getElem?_take, List.getElem?_drop, List.getElem?_set, List.length_cons]
      rcases Nat.lt_trichotomy k i with hk | hk | hk
      · simp [show k < min (i + 1) c.length + vs.length by omega, show k < min (i + 1) c.length by omega, show k < min i c.length + (vs.length + 1) by omega, show k < min i c.length by omega, show k < i + 1 by omega, show k < i by omega, show i ≠ k by omega]
      · subst hk
        simp [show k < min (k + 1) c.length + vs.length by omega, show k < min (k + 1) c.length by omega, show k < min k c.length + (vs.length + 1) by omega, show ¬ k < min k c.length by omega, show k - min k c.length = 0 by omega, hi]
      · by_cases h2 : k < i + 1 + vs.length
        · simp at hl
          simp [show k < min (i + 1) c.length + vs.length by omega, show ¬ k < min (i + 1) c.length by omega, show k < min i c.length + (vs.length + 1) by omega, show ¬ k < min i c.length by omega, show k - min i c.length = (k - min (i + 1) c.length) + 1 by omega]
        · simp at hl
          simp [show ¬ k < min (i + 1) c.length + vs.length by omega, show ¬ k < min i c.length + (vs.length + 1) by omega, show i ≠ i + 1 + vs.length + (k - (min (i + 1) c.length + vs.length)) by omega, show i + 1 + vs.length + (k - (min (i + 1) c.length + vs.length)) = i + (vs.length + 1) + (k - (min i c.length + (vs.length + 1))) by omega]
          intro hx; omega
    · refine ⟨?_, by simp; omega⟩
      unfold lay
      apply List.ext_getElem?
      intro k
      simp only [List.getElem?_append, List.length_append, List.length_take, List.getElem?_take, List.getElem?_drop, List.getElem?_set, List.length_cons, List.length_nil]
      rcases Nat.lt_trichotomy k i with hk | hk | hk
      · simp [show k < min i c.length + 1 by omega, show k < min i c.length by omega, show k < i by omega, show i ≠ k by omega]
      · subst hk
        simp [show k < min k c.length + 1 by omega, show ¬ k < min k c.length by omega, show k - min k c.length = 0 by omega, hi]
      · simp [show ¬ k < min i c.length + 1 by omega, show i ≠ k by omega, show i + 1 + (k - (min i c.length + 1)) = k by omega]


theorem LRel.take {M : Mp} {l l' : List Value} (h : LRel M l l') (n : Nat) : LRel M (l.take n) (l'.take n) := by
  refine ⟨by simp [h.1], fun i v v' e e' => ?_⟩
  rw [List.getElem?_take] at e e'
  split at e
  · rename_i hi; simp only [hi, if_true] at e'; exact h.2 i v v' e e'
  · cases e
theorem LRel.drop {M : Mp} {l l' : List Value} (h : LRel M l l') (n : Nat) : LRel M (l.drop n) (l'.drop n) := by
  refine ⟨by simp [h.1], fun i v v' e e' => ?_⟩
  rw [List.getElem?_drop] at e e'
  exact h.2 _ v v' e e'
theorem LRel.lay {M : Mp} {c c' vs vs' : List Value} (h : LRel M c c') (k : LRel M vs vs') (i : Nat) : LRel M (lay c i vs) (lay c' i vs') := by
  unfold Ev.lay
  rw [k.1]
  exact ((h.take i).append k).append (h.drop _)
theorem VRel.one {M : Mp} {v v' : Value} (h : VRel M v v') : one v' = one v := by cases h <;> rfl
theorem VRel.cells {M : Mp} {v v' : Value} (h : VRel M v v') : LRel M v.cells.toList v'.cells.toList := by
  cases h with
  | agg ha h1 => exact lrel_arr.2 ⟨ha, h1⟩
  | bool b => exact LRel.cons (.bool b) (LRel.nil M)
  | int k n => exact LRel.cons (.int k n) (LRel.nil M)
  | str s => exact LRel.cons (.str s) (LRel.nil M)
  | nilp => exact LRel.cons .nilp (LRel.nil M)
  | ptr h => exact LRel.cons (.ptr h) (LRel.nil M)
  | nils n c => exact LRel.cons (.nils n c) (LRel.nil M)
  | slc h hc => exact LRel.cons (.slc h hc) (LRel.nil M)
  | slo h hn => exact LRel.cons (.slo h hn) (LRel.nil M)
  | nilm => exact LRel.cons .nilm (LRel.nil M)
  | nilf => exact LRel.cons .nilf (LRel.nil M)
  | nili => exact LRel.cons .nili (LRel.nil M)
  | func f ha h1 hc h2 => exact LRel.cons (.func f ha h1 hc h2) (LRel.nil M)
  | yld h => exact LRel.cons (.yld h) (LRel.nil M)
  | tup ha h1 => exact LRel.cons (.tup ha h1) (LRel.nil M)
theorem LRel.ones {M : Mp} {l l' : List Value} (h : LRel M l l') (h1 : ∀ v ∈ l, Ev.one v = true) : ∀ v ∈ l', Ev.one v = true := by
  intro v hv
  obtain ⟨i, hi⟩ := List.getElem?_of_mem hv
  have hlt : i < l.length := by
    have := (List.getElem?_eq_some_iff.1 hi).1
    have := h.1
    omega
  have e := List.getElem?_eq_getElem hlt
  have := VRel.one (h.2 i _ v e hi)
  rw [this]
  exact h1 _ (List.getElem_mem hlt)

theorem withPtr_some {β : Type} {v : Value} {k : Nat → Nat → Option β} {y : β} (h : withPtr v k = some y) : ∃ b o, v = .pointer (some ⟨b, o, none⟩) ∧ k b o = some y := by
  unfold withPtr at h
  split at h
  · exact ⟨_, _, rfl, h⟩
  · cases h
theorem withAgg_some {β : Type} {v : Value} {k : Array Value → Option β} {y : β} (h : withAgg v k = some y) : ∃ cs, v = .agg cs ∧ k cs = some y := by
  unfold withAgg at h
  split at h
  · exact ⟨_, rfl, h⟩
  · cases h
theorem withTup_some {β : Type} {v : Value} {k : Array Value → Option β} {y : β} (h : withTup v k = some y) : ∃ cs, v = .tuple cs ∧ k cs = some y := by
  unfold withTup at h
  split at h
  · exact ⟨_, rfl, h⟩
  · cases h
theorem withNat_some {β : Type} {v : Value} {k : Nat → Option β} {y : β} (h : withNat v k = some y) : ∃ n : Nat, v = .int .i64 n ∧ k n = some y := by
  unfold withNat at h
  split at h
  · exact ⟨_, rfl, h⟩
  · cases h
theorem withSlc_some {β : Type} {v : Value} {z : Nat → Nat → Option β} {k : Nat → Nat → Nat → Nat → Option β} {y : β} (h : withSlc v z k = some y) :
    (∃ n c, v = .slice none n c ∧ z n c = some y) ∨ ∃ b o n c, v = .slice (some ⟨b, o, none⟩) n c ∧ k b o n c = some y := by
  unfold withSlc at h
  split at h
  · exact .inl ⟨_, _, rfl, h⟩
  · exact .inr ⟨_, _, _, _, rfl, h⟩
  · cases h
theorem withFn_some {β : Type} {v : Value} {k : Tgt → Array Value → Array Value → Option β} {y : β} (h : withFn v k = some y) :
    (∃ f a c, v = .func (.func f) a c ∧ k (.fn f) a c = some y) ∨ ∃ l a c, v = .func (.yield l) a c ∧ k (.yield l) a c = some y := by
  unfold withFn at h
  split at h
  · exact .inl ⟨_, _, _, rfl, h⟩
  · exact .inr ⟨_, _, _, rfl, h⟩
  · cases h
theorem withLoop_some {β : Type} {o : AObj} {k : Nat → Option AX → Tm → Nat → Nat → Array Tmp → Code → Code → Nat → Option β} {y : β} (h : withLoop o k = some y) :
    ∃ st pend tm kp nt ps as_ body d, o = .loop st pend tm kp nt ps as_ body d ∧ k st pend tm kp nt ps as_ body d = some y := by
  unfold withLoop at h
  split at h
  · exact ⟨_, _, _, _, _, _, _, _, _, rfl, h⟩
  · cases h
theorem withRow_some {β : Type} {o : AObj} {k : List Value → TypeId → Bool → Option β} {y : β} (h : withRow o k = some y) : ∃ c e p, o = .row c e p ∧ k c e p = some y := by
  cases o with
  | row c e p => exact ⟨c, e, p, rfl, h⟩
  | _ => cases h
theorem oval_some {o : Option Value} {r : OR} (h : oval o = some r) : ∃ v, o = some v ∧ r = .val v := by
  obtain ⟨v, hv, h⟩ := ob_some h
  cases h
  exact ⟨v, hv, rfl⟩

theorem sizeT_some {P : Program} {t : TypeId} {n : Nat} (h : sizeT P t = some n) : ∃ i, P.info? t = some i ∧ i.size = n := by
  unfold sizeT at h
  split at h
  · rename_i i hi; cases h; exact ⟨i, hi, rfl⟩
  · cases h
theorem infoT_some {P : Program} {t : TypeId} {x : Nat × Nat} (h : infoT P t = some x) : ∃ i, P.info? t = some i ∧ i.size = x.1 ∧ i.bytes = x.2 := by
  unfold infoT at h
  split at h
  · rename_i i hi; cases h; exact ⟨i, hi, rfl, rfl⟩
  · cases h
theorem elemT_some {P : Program} {t e : TypeId} (h : elemT P t = some e) : P.underlying t = some (.slice e) := by
  unfold elemT at h
  split at h
  · rename_i e' he; cases h; exact he
  · cases h
theorem arrT_some {P : Program} {t : TypeId} {x : Nat × TypeId} (h : arrT P t = some x) : P.underlying t = some (.array x.1 x.2) := by
  unfold arrT at h
  split at h
  · rename_i n e he; cases h; exact he
  · cases h
theorem fieldOf_some {P : Program} {s : TypeId} {f : Nat} {fd : Field} (h : fieldOf P s f = some fd) : ∃ fs, P.underlying s = some (.struct fs) ∧ fs[f]? = some fd := by
  unfold fieldOf at h
  split at h
  · rename_i fs he; exact ⟨fs, he, h⟩
  · cases h
theorem zeroV_some {P : Program} {t : TypeId} {v : Value} (h : zeroV P t = some v) : ∃ i, P.info? t = some i ∧ i.zero = some v ∧ flat2 v = true ∧ v.cells.toList.all one = true := by
  obtain ⟨v', hv, h⟩ := ob_some h
  obtain ⟨hc, h⟩ := ck_some h
  cases h
  unfold zeroT at hv
  split at hv
  · rename_i i hi; simp at hc; exact ⟨i, hi, hv, hc.1, by simpa using hc.2⟩
  · cases hv

section
variable {P : Program} {w : World}
theorem run_aggT {t : TypeId} {b : Bool} (h : aggT P t = some b) : (isAgg t).run P w = .ok b w := by
  unfold aggT at h
  unfold isAgg
  rw [Sem.run_bind]
  split at h <;> first | cases h | skip
  · rename_i fs e; rw [run_underlying e w]; simp
  · rename_i n el e; rw [run_underlying e w]; simp
  · rename_i d h1 h2 e
    rw [run_underlying e w]
    cases d <;> simp_all
theorem run_sizeT {t : TypeId} {n : Nat} (h : sizeT P t = some n) : (sizeOf t).run P w = .ok n w := by
  obtain ⟨i, hi, rfl⟩ := sizeT_some h
  simp [sizeOf, typeInfo, hi]
theorem run_zeroV {t : TypeId} {v : Value} (h : zeroV P t = some v) : (zeroValue t).run P w = .ok v w := by
  obtain ⟨i, hi, hz, _⟩ := zeroV_some h
  simp [zeroValue, typeInfo, hi, hz]
theorem run_partV {M : Mp} {t : TypeId} {cs cs' : Array Value} {off : Nat} {v : Value} (h : partV P t cs off = some v) (hr : LRel M cs.toList cs'.toList) :
    ∃ v', (part t cs' off).run P w = .ok v' w ∧ VRel M v v' := by
  obtain ⟨b, hb, h⟩ := ob_some h
  rcases bi_some h with ⟨hbb, h2⟩ | ⟨hbb, h2⟩ <;> clear h <;> subst hbb <;> have h := h2 <;> clear h2
  · obtain ⟨n, hn, h⟩ := ob_some h
    cases h
    refine ⟨_, by simp only [part, Sem.run_bind, run_aggT hb, Result.andThen_ok, if_true, run_sizeT hn, Sem.run_pure]; rfl, ?_⟩
    refine LRel.agg ?_
    simp only [Array.toList_extract]
    exact ((hr.drop off).take (off + n - off))
  · obtain ⟨v', e, hv⟩ := hr.get (i := off) (by simpa using h)
    refine ⟨v', ?_, hv⟩
    have e' : cs'[off]? = some v' := by simpa using e
    simp [part, run_aggT hb, e']

/-- a row's cells in the world -/
theorem ORel.cell {M : Mp} {r : Nat} {c : List Value} {e : TypeId} {p : Bool} {ob : Obj} (h : ORel P M r (.row c e p) ob) {b : Nat} (hw : w.heap[b]? = some ob) {j : Nat} {v : Value} (hv : c[j]? = some v) :
    ∃ v', w.cell? ⟨b, j, none⟩ = some v' ∧ VRel M v v' := by
  obtain ⟨c', rfl, _, h3, h4⟩ := h
  rw [cell_of_row w b j c' e (0, 0) hw]
  cases p with
  | false =>
    obtain ⟨v', e', hr⟩ := (h3 rfl).get hv
    exact ⟨v', by simpa using e', hr⟩
  | true =>
    obtain ⟨v', e', hr⟩ := (h4 rfl).1.get hv
    rw [List.getElem?_take] at e'
    split at e'
    · exact ⟨v', by simpa using e', hr⟩
    · cases e'
/-- the cells that were got, in the world -/
theorem cells_of {M : Mp} {r : Nat} {c : List Value} {e : TypeId} {p : Bool} {ob : Obj} (h : ORel P M r (.row c e p) ob) {b : Nat} (hw : w.heap[b]? = some ob) {n o : Nat} {l : List Value}
    (hl : getsFrom c n o = some l) : ∃ l', LRel M l l' ∧ (∀ j v, l'[j]? = some v → w.cell? ((⟨b, o, none⟩ : Addr).add j) = some v) ∧ l'.length = n := by
  obtain ⟨k1, k2⟩ := getsFrom_spec c n o l hl
  have hall : ∀ j, j < n → ∃ v', w.cell? ⟨b, o + j, none⟩ = some v' ∧ ∀ v, l[j]? = some v → VRel M v v' := by
    intro j hj
    have e := List.getElem?_eq_getElem (l := l) (i := j) (by omega)
    obtain ⟨v', e', hr⟩ := h.cell hw (k2 j _ e)
    exact ⟨v', e', fun v hv => by rw [hv] at e; cases e; exact hr⟩
  refine ⟨(List.range n).map fun j => ((w.cell? ⟨b, o + j, none⟩).getD undef), ⟨by simp [k1], fun j v v' e e' => ?_⟩, fun j v e => ?_, by simp⟩
  · have hj : j < n := by rw [← k1]; exact (List.getElem?_eq_some_iff.1 e).1
    obtain ⟨x, hx, hr⟩ := hall j hj
    simp [hj, hx] at e'
    subst e'
    exact hr v e
  · rw [List.getElem?_map] at e
    have hj : j < n := by
      rcases Nat.lt_or_ge j n with h | h
      · exact h
      · rw [List.getElem?_eq_none (by simpa using h)] at e; cases e
    obtain ⟨x, hx, hr⟩ := hall j hj
    simp [hj, hx] at e
    subst e
    rw [Addr.add_lit]; exact hx

theorem run_loadV {B : Nat} {M : Mp} {hp : T AObj} {t : TypeId} {b b' r o : Nat} {v : Value} (hh : HRel P B M hp.get w) (hb : M b = some (b', r)) (h : loadV P hp t b o = some v) :
    ∃ v', (loadVar t ⟨b', o, none⟩).run P w = .ok v' w ∧ VRel M v v' := by
  obtain ⟨x, hx, h⟩ := ob_some h
  obtain ⟨c, e, p, rfl, h⟩ := withRow_some h
  obtain ⟨b2, r2, obj, e1, _, hw, ho⟩ := hh.has b _ hx
  rw [hb] at e1
  cases e1
  obtain ⟨g, hg, h⟩ := ob_some h
  rcases bi_some h with ⟨hbb, h2⟩ | ⟨hbb, h2⟩ <;> clear h <;> subst hbb <;> have h := h2 <;> clear h2
  · obtain ⟨n, hn, h⟩ := ob_some h
    obtain ⟨l, hl, h⟩ := ob_some h
    cases h
    obtain ⟨l', h1, h2, h3⟩ := cells_of ho hw hl
    have := run_loadCells_list (P := P) w ⟨b', o, none⟩ l' h2
    rw [h3] at this
    refine ⟨.agg l'.toArray, by simp [loadVar, run_aggT hg, run_sizeT hn, this], LRel.agg (by simpa using h1)⟩
  · rw [nth_eq] at h
    obtain ⟨v', e', hr⟩ := ho.cell hw h
    exact ⟨v', by simp [loadVar, run_aggT hg, e'], hr⟩
end

end Ev
end Go.Proofs.Ytagpaoglcjcaeaa
