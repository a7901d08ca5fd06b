import Derived.Test.YtlmnhlmgbcpclaaSY22
set_option linter.unusedSimpArgs false
set_option linter.unusedVariables false
namespace Go.Proofs.Ytlmnhlmgbcpclaa
namespace Sy
variable {P : Pg}
open Go.RowKit

/-! What is known of calls, told by patterns: values without blocks, slices over known objects, structs of such a slice and a value. -/

noncomputable def noIdB (ih : Value → Bool) (v : Value) : Bool :=
  match v with
  | .bool _ | .int .. | .string _ | .pointer none | .slice none _ _ | .map none | .nilFunc | .nilIface => true
  | .iface t _ => Nat.ble t 20 || (Nat.ble 100 t || (Nat.beq t 90 || (Nat.beq t 94 || (Nat.beq t 96 || (Nat.beq t 97 || Nat.beq t 98)))))
  | .agg as => as.toList.all ih
  | .tuple as => as.toList.all ih
  | _ => false
noncomputable def noId (n : Nat) : Value → Bool := Nat.rec (fun _ => false) (fun _ ih => noIdB ih) n
theorem VRel.noId {M M' : Mp} : ∀ (n : Nat) (v v' : Value), noId n v = true → VRel P M v v' → VRel P M' v v'
  | 0, v, v', h, _ => by cases h
  | n + 1, v, v', h, d => by
    cases d with
    | bool b => exact .bool b
    | int k m => exact .int k m
    | str s => exact .str s
    | nilp => exact .nilp
    | ptr h1 => have h : false = true := h; cases h
    | nils a c => exact .nils a c
    | slc h1 hc => have h : false = true := h; cases h
    | slo h1 hn => have h : false = true := h; cases h
    | slx h1 hn => have h : false = true := h; cases h
    | nilm => exact .nilm
    | nilf => exact .nilf
    | nili => exact .nili
    | func f ha h1 hc h2 => have h : false = true := h; cases h
    | yld h1 => have h : false = true := h; cases h
    | sym d ht => exact .sym d ht
    | hol h1 h2 h3 => exact .hol h1 h2 h3
    | osl h1 hn => have h : false = true := h; cases h
    | osk h1 hn => have h : false = true := h; cases h
    | hsl h1 hn => exact .hsl h1 hn
    | osm h1 hn hN => have h : false = true := h; cases h
    | opp h1 => have h : false = true := h; cases h
    | fvl hz hd h1 => exact .fvl hz hd h1
    | fst hz hd => exact .fst hz hd
    | fpp hz hd hk hl hs => exact .fpp hz hd hk hl hs
    | agg ha h1 =>
      have h : _ = true := h
      exact .agg ha fun i u u' e e' => VRel.noId n u u' (all_at h e) (h1 i u u' e e')
    | tup ha h1 =>
      have h : _ = true := h
      exact .tup ha fun i u u' e e' => VRel.noId n u u' (all_at h e) (h1 i u u' e e')

inductive Pt where
  | v (x : Value)
  | s (o : AObj) (t : Value)
  | a (o : AObj) (t x : Value)
  /-- a struct: values (none, x), slices over known objects (some o, length) -/
  | g (l : List (Option AObj × Value))
inductive Rs where
  | v (x : Value)
  | n (o : AObj) (mk : Nat → Value)
  /-- two new blocks -/
  | n2 (o1 o2 : AObj) (mk : Nat → Value)
structure Ent where
  f : Nat
  pats : List Pt
  res : Rs

/-- a cell that is no pointer into a known block: a number, a string -/
noncomputable def cellOk (v : Value) : Bool := isNum v || noId 9 v
theorem all_cell {c : List Value} (h : c.all isNum = true) : c.all cellOk = true :=
  List.all_eq_true.2 fun v hv => by
    have : isNum v = true := List.all_eq_true.1 h v hv
    show (isNum v || noId 9 v) = true
    rw [this]; rfl
theorem VRel.cell {M M' : Mp} {v v' : Value} (h : cellOk v = true) (hr : VRel P M v v') : VRel P M' v v' := by
  rcases Bool.or_eq_true_iff.1 h with k | k
  · obtain ⟨x, rfl, d⟩ := vrel_num hr k
    exact d.vrel
  · exact VRel.noId 9 _ _ k hr
noncomputable def numO (o : AObj) : Bool :=
  match o with
  | .win c => c.all cellOk
  | .opq _ _ => true
  | _ => false
theorem ORel.numO {M M' : Mp} {r : Nat} {o : AObj} {ob : Obj} (h : numO o = true) (hr : ORel P M r o ob) : ORel P M' r o ob := by
  cases o with
  | opq k l => exact hr
  | win c =>
    obtain ⟨c', e, fr, h1, h2, h3⟩ := hr
    exact ⟨c', e, fr, h1, ⟨h2.1, fun i v v' e e' => VRel.cell (List.all_eq_true.1 h v (List.mem_of_getElem? e)) (h2.2 i v v' e e')⟩, h3⟩
  | row => cases h
  | loop => cases h
  | dfr => cases h
theorem numO_wrt {o : AObj} (h : numO o = true) : wrt (some o) = false := by
  cases o with
  | opq k l => rfl
  | win c => rfl
  | row => cases h
  | loop => cases h
  | dfr => cases h

noncomputable def slOk (hp : T AObj) (o : AObj) (t v : Value) : Bool := Option.isSome (withOsl v fun id u => ob (hp.get id) fun o' => ck (numO o' && (eqT 90 u t && eqO o' o)) (some ()))
noncomputable def partOk (hp : T AObj) (p : Option AObj × Value) (v : Value) : Bool :=
  match p with
  | (none, x) => noId 9 v && eqW 60 v x
  | (some o, t) => slOk hp o t v
noncomputable def partsOk (hp : T AObj) (l : List (Option AObj × Value)) : List Value → Bool :=
  List.rec (fun vs => Nat.beq vs.length 0) (fun p _ ih vs => Option.isSome (withCons vs fun v vs => ck (partOk hp p v && ih vs) (some ()))) l
noncomputable def ptOk (hp : T AObj) (p : Pt) (v : Value) : Bool :=
  match p with
  | .v x => noId 9 v && eqW 60 v x
  | .s o t => slOk hp o t v
  | .a o t x => Option.isSome (withAgg v fun cs => ob cs[0]? fun s => ob cs[1]? fun u => ck (Nat.beq cs.toList.length 2 && (slOk hp o t s && (noId 9 u && eqW 60 u x))) (some ()))
  | .g l => Option.isSome (withAgg v fun cs => ck (partsOk hp l cs.toList) (some ()))
noncomputable def ptsOk (hp : T AObj) (l : List Pt) : List Value → Bool :=
  List.rec (fun vs => Nat.beq vs.length 0) (fun p _ ih vs => Option.isSome (withCons vs fun v vs => ck (ptOk hp p v && ih vs) (some ()))) l

def SlR (P : Pg) (w : World) (o : AObj) (t v' : Value) : Prop := ∃ (b r n c : Nat) (ob : Obj), v' = .slice (some ⟨b, r, none⟩) n c ∧ Dv P.den t (n : Nat) ∧ w.heap[b]? = some ob ∧ ∀ M, ORel P M r o ob
def PartR (P : Pg) (w : World) (p : Option AObj × Value) (v' : Value) : Prop :=
  match p with
  | (none, x) => ∀ M, VRel P M x v'
  | (some o, t) => SlR P w o t v'
def PartsR (P : Pg) (w : World) : List (Option AObj × Value) → List Value → Prop
  | [], [] => True
  | p :: ps, v :: vs => PartR P w p v ∧ PartsR P w ps vs
  | _, _ => False
def PtR (P : Pg) (w : World) (p : Pt) (v' : Value) : Prop :=
  match p with
  | .v x => ∀ M, VRel P M x v'
  | .s o t => SlR P w o t v'
  | .a o t x => ∃ s u, v' = .agg #[s, u] ∧ SlR P w o t s ∧ ∀ M, VRel P M x u
  | .g l => ∃ vs : Array Value, v' = .agg vs ∧ PartsR P w l vs.toList
/-- the blocks of families lie as told -/
def RoOk (P : Pg) (w : World) : Prop := ∀ b c, P.den.ro b = some c → ∃ e fr, w.heap[b]? = some (.cells c e fr)
def PtsR (P : Pg) (w : World) : List Pt → List Value → Prop
  | [], [] => RoOk P w
  | p :: ps, v :: vs => PtR P w p v ∧ PtsR P w ps vs
  | _, _ => False
def blkOf (v : Value) : List Nat :=
  match v with
  | .slice (some ⟨b, _, _⟩) _ _ => [b]
  | .agg cs => match cs.toList with
    | .slice (some ⟨b, _, _⟩) _ _ :: _ => [b]
    | _ => []
  | _ => []
/-- the blocks of slices that are known -/
def blkG : List (Option AObj × Value) → List Value → List Nat
  | (some _, _) :: ps, v :: vs => blkOf v ++ blkG ps vs
  | (none, _) :: ps, _ :: vs => blkG ps vs
  | _, _ => []
def blkP (p : Pt) (v' : Value) : List Nat :=
  match p with
  | .v _ => []
  | .g l => match v' with
    | .agg vs => blkG l vs.toList
    | _ => []
  | _ => blkOf v'
def blksP : List Pt → List Value → List Nat
  | p :: ps, v :: vs => blkP p v ++ blksP ps vs
  | _, _ => []
def ResOk (P : Pg) (bl : List Nat) (w w' : World) (r : Rs) (e : Ending) : Prop :=
  match r with
  | .v x => ∃ v', e = .returned v' ∧ ∀ M, VRel P M x v'
  | .n o mk => ∃ v' b ob, e = .returned v' ∧ (b ∈ bl ∨ w.heap.size ≤ b) ∧ w'.heap[b]? = some ob ∧ (∀ M, ORel P M 0 o ob) ∧ ∀ M id, M id = some (b, 0) → VRel P M (mk id) v'
  | .n2 o1 o2 mk => ∃ v' b1 b2 ob1 ob2, e = .returned v' ∧ w.heap.size ≤ b1 ∧ w.heap.size ≤ b2 ∧ w'.heap[b1]? = some ob1 ∧ w'.heap[b2]? = some ob2 ∧ (∀ M, ORel P M 0 o1 ob1) ∧ (∀ M, ORel P M 0 o2 ob2) ∧ ∀ M id, M id = some (b1, 0) → M (id + 1) = some (b2, 0) → VRel P M (mk id) v'
def EntOk (P : Pg) (e : Ent) : Prop := ∀ (args' : Array Value) (w : World), PtsR P w e.pats args'.toList → Calls P.prog e.f args' w fun r w' => Below w.heap.size w w' ∧ ResOk P (blksP e.pats args'.toList) w w' e.res r
noncomputable def resE (r : Rs) (hp : T AObj) (nid : Nat) : Option (Value × T AObj × Nat) :=
  match r with
  | .v x => some (x, hp, nid)
  | .n o mk => ob (hp.set nid (some o)) fun hp' => some (mk nid, hp', Nat.succ nid)
  | .n2 o1 o2 mk => ob (hp.set nid (some o1)) fun hp' => ob (hp'.set (Nat.succ nid) (some o2)) fun hp'' => some (mk nid, hp'', Nat.succ (Nat.succ nid))
noncomputable def spEnt (e : Ent) : CallF := fun t args hp nid =>
  match t with
  | .fn g => ck (Nat.beq g e.f && ptsOk hp e.pats args) (resE e.res hp nid)
  | .yield _ => none
noncomputable def spEnts (l : List Ent) : CallF := List.rec spNone (fun e _ ih => spOr (spEnt e) ih) l

theorem isSome_some {α : Type} {o : Option α} (h : o.isSome = true) : ∃ x, o = some x := Option.isSome_iff_exists.1 h
theorem osl_rel {M : Mp} {id : Nat} {t v' : Value} (h : VRel P M (.iface 91 (.tuple #[.int .i64 (.ofNat id), t])) v') : ∃ b r n c, v' = .slice (some ⟨b, r, none⟩) n c ∧ M id = some (b, r) ∧ Dv P.den t (n : Nat) := by
  cases h with
  | sym h ht => omega
  | osl h hn => exact ⟨_, _, _, _, rfl, h, hn⟩
theorem slOk_rel {B : Nat} {M : Mp} {hp : T AObj} {o : AObj} {t v v' : Value} {w : World} (h : slOk hp o t v = true) (hv : VRel P M v v') (hh : HRel P B M hp.get w) :
    SlR P w o t v' ∧ ∃ b r n c id, v' = .slice (some ⟨b, r, none⟩) n c ∧ M id = some (b, r) ∧ hp.get id = some o ∧ wrt (some o) = false ∧ B ≤ b := by
  obtain ⟨_, h1⟩ := isSome_some h
  obtain ⟨id, u, rfl, h2⟩ := withOsl_some h1
  obtain ⟨o', ho, h3⟩ := ob_some h2
  obtain ⟨hk, _⟩ := ck_some h3
  simp only [Bool.and_eq_true] at hk
  obtain ⟨k1, k2, k3⟩ := hk
  have := eqT_eq _ _ _ k2
  subst this
  have := eqO_eq k3
  subst this
  obtain ⟨b, r, n, c, rfl, hm, hn⟩ := osl_rel hv
  obtain ⟨b', r', ob, e1, e2, e3, e4⟩ := hh.has id _ ho
  rw [hm] at e1
  cases e1
  exact ⟨⟨b, r, n, c, ob, rfl, hn, e3, fun M' => e4.numO k1⟩, b, r, n, c, id, rfl, hm, ho, numO_wrt k1, e2⟩
theorem arr2 {a : Array Value} {l : List Value} {M : Mp} (h : LRel P M l a.toList) (hl : l.length = 2) : ∃ x y, a = #[x, y] := by
  have h2 : a.toList.length = 2 := by rw [← h.1]; exact hl
  match he : a.toList, h2 with
  | [x, y], _ => exact ⟨x, y, Array.ext' he⟩
/-- what the blocks of arguments are -/
abbrev OldB (B : Nat) (M : Mp) (g : Mem) (l : List Nat) : Prop := ∀ b ∈ l, ∃ id r o, M id = some (b, r) ∧ g id = some o ∧ wrt (some o) = false ∧ B ≤ b
theorem partsOk_rel {B : Nat} {M : Mp} {hp : T AObj} {w : World} (hh : HRel P B M hp.get w) : ∀ (l : List (Option AObj × Value)) (vs vs' : List Value), partsOk hp l vs = true → LRel P M vs vs' → PartsR P w l vs' ∧ OldB B M hp.get (blkG l vs')
  | [], vs, vs', h, hl => by
    have h : Nat.beq vs.length 0 = true := h
    have h0 := Nat.eq_of_beq_eq_true h
    have h1 : vs' = [] := List.length_eq_zero_iff.1 (by rw [← hl.1]; exact h0)
    subst h1
    exact ⟨trivial, fun b hb => by simp [blkG] at hb⟩
  | p :: ps, vs, vs', h, hl => by
    obtain ⟨_, h1⟩ := isSome_some h
    match vs, vs', hl, h1 with
    | v :: vs, v' :: vs', hl, h1 =>
      obtain ⟨hk, _⟩ := ck_some h1
      simp only [Bool.and_eq_true] at hk
      obtain ⟨b1, b2⟩ := partsOk_rel hh ps vs vs' hk.2 hl.tail
      match p, hk.1 with
      | (none, x), k1 =>
        have k1 : (noId 9 v && eqW 60 v x) = true := k1
        simp only [Bool.and_eq_true] at k1
        have := eqW_eq _ _ _ k1.2
        subst this
        exact ⟨⟨fun M' => hl.head.noId 9 _ _ k1.1, b1⟩, b2⟩
      | (some o, t), k1 =>
        obtain ⟨h1, b, r, n, c, id, rfl, a1, a2, a3, a4⟩ := slOk_rel k1 hl.head hh
        refine ⟨⟨h1, b1⟩, fun b' hb => ?_⟩
        rcases List.mem_append.1 (show b' ∈ blkOf _ ++ blkG ps vs' from hb) with hb | hb
        · simp only [blkOf, List.mem_cons, List.not_mem_nil, or_false] at hb
          subst hb
          exact ⟨id, r, o, a1, a2, a3, a4⟩
        · exact b2 b' hb
    | v :: vs, [], hl, _ => simp [LRel] at hl
    | [], _, _, h1 => cases h1
theorem ptOk_rel {B : Nat} {M : Mp} {hp : T AObj} {p : Pt} {v v' : Value} {w : World} (h : ptOk hp p v = true) (hv : VRel P M v v') (hh : HRel P B M hp.get w) : PtR P w p v' ∧ OldB B M hp.get (blkP p v') := by
  cases p with
  | v x =>
    have h : (noId 9 v && eqW 60 v x) = true := h
    simp only [Bool.and_eq_true] at h
    have := eqW_eq _ _ _ h.2
    subst this
    exact ⟨fun M' => hv.noId 9 _ _ h.1, fun b hb => by cases hb⟩
  | s o t =>
    obtain ⟨h1, b, r, n, c, id, rfl, k1, k2, k3, k4⟩ := slOk_rel h hv hh
    refine ⟨h1, fun b' hb => ?_⟩
    simp only [blkP, blkOf, List.mem_cons, List.not_mem_nil, or_false] at hb
    subst hb
    exact ⟨id, r, o, k1, k2, k3, k4⟩
  | a o t x =>
    obtain ⟨_, h1⟩ := isSome_some h
    obtain ⟨cs, rfl, h2⟩ := withAgg_some h1
    obtain ⟨s, hs, h3⟩ := ob_some h2
    obtain ⟨u, hu, h4⟩ := ob_some h3
    obtain ⟨hk, _⟩ := ck_some h4
    simp only [Bool.and_eq_true] at hk
    obtain ⟨j1, j2, j3, j4⟩ := hk
    have := eqW_eq _ _ _ j4
    subst this
    cases hv with
    | @agg _ a' hsz hel =>
      have hL : LRel P M cs.toList a'.toList := lrel_arr.2 ⟨hsz, hel⟩
      obtain ⟨y0, y1, rfl⟩ := arr2 hL (Nat.eq_of_beq_eq_true j1)
      have v0 := hel 0 s y0 hs rfl
      have v1 := hel 1 u y1 hu rfl
      obtain ⟨h1, b, r, n, c, id, rfl, k1, k2, k3, k4⟩ := slOk_rel j2 v0 hh
      refine ⟨⟨_, _, rfl, h1, fun M' => v1.noId 9 _ _ j3⟩, fun b' hb => ?_⟩
      simp only [blkP, blkOf, List.mem_cons, List.not_mem_nil, or_false] at hb
      subst hb
      exact ⟨id, r, o, k1, k2, k3, k4⟩
  | g l =>
    obtain ⟨_, h1⟩ := isSome_some h
    obtain ⟨cs, rfl, h2⟩ := withAgg_some h1
    obtain ⟨hk, _⟩ := ck_some h2
    cases hv with
    | @agg _ a' hsz hel =>
      obtain ⟨k1, k2⟩ := partsOk_rel hh l cs.toList a'.toList hk (lrel_arr.2 ⟨hsz, hel⟩)
      exact ⟨⟨a', rfl, k1⟩, k2⟩
theorem ptsOk_rel {B : Nat} {M : Mp} {hp : T AObj} {w : World} (hh : HRel P B M hp.get w) : ∀ (l : List Pt) (vs vs' : List Value), ptsOk hp l vs = true → LRel P M vs vs' → PtsR P w l vs' ∧ OldB B M hp.get (blksP l vs')
  | [], vs, vs', h, hl => by
    have h : Nat.beq vs.length 0 = true := h
    have h0 := Nat.eq_of_beq_eq_true h
    have h1 : vs' = [] := List.length_eq_zero_iff.1 (by rw [← hl.1]; exact h0)
    subst h1
    exact ⟨fun b c hb => (hh.old b c hb).1, fun b hb => by simp [blksP] at hb⟩
  | p :: ps, vs, vs', h, hl => by
    obtain ⟨_, h1⟩ := isSome_some h
    match vs, vs', hl, h1 with
    | v :: vs, v' :: vs', hl, h1 =>
      obtain ⟨hk, _⟩ := ck_some h1
      simp only [Bool.and_eq_true] at hk
      obtain ⟨a1, a2⟩ := ptOk_rel hk.1 hl.head hh
      obtain ⟨b1, b2⟩ := ptsOk_rel hh ps vs vs' hk.2 hl.tail
      refine ⟨⟨a1, b1⟩, fun b hb => ?_⟩
      rcases List.mem_append.1 hb with hb | hb
      · exact a2 b hb
      · exact b2 b hb
    | v :: vs, [], hl, _ => simp [LRel] at hl
    | [], _, _, h1 => cases h1
/-- a call that answers a block that is known: a new one, or one of those that were told and that are read alone -/
theorem new_post2 {B : Nat} {M : Mp} {g g' : Mem} {w w' : World} {nid b r : Nat} {o : AObj} {ob : Obj} (hh : HRel P B M g w) (hB : B ≤ w.heap.size) (hM : M nid = none) (hb : Below w.heap.size w w')
    (hlt : (∃ id r o, M id = some (b, r) ∧ g id = some o ∧ wrt (some o) = false ∧ B ≤ b) ∨ w.heap.size ≤ b) (hw : w'.heap[b]? = some ob) (hnw : wrt (some o) = false)
    (ho : ORel P (M.upd nid b r) r o ob) (hg : ∀ i, g' i = if i = nid then some o else g i) : HRel P B (M.upd nid b r) g' w' ∧ Evol M g nid w (M.upd nid b r) g' (nid + 1) w' := by
  rcases Nat.lt_or_ge b w.heap.size with hsm | hge
  case inr => exact new_post hh hB hM hb hge hw ho hg
  obtain ⟨id0, r0, o0, m0, g0, w0, hB0⟩ : ∃ id r o, M id = some (b, r) ∧ g id = some o ∧ wrt (some o) = false ∧ B ≤ b := hlt.resolve_right (by omega)
  obtain ⟨h1, _⟩ := below_post nid hh hb
  refine ⟨⟨fun id x e => ?_, fun i j c r1 r2 hi hj e1 e2 => ?_, fun k c hk => ⟨(h1.old k c hk).1, fun i r1 hi e1 => ?_⟩⟩, ⟨hb.os, hb.tape, hb.output, hb.size, fun b h _ => hb.block b h, fun id c r1 hi e => ?_, fun id c r1 hi e => ?_, Mp.upd_ext hM, fun id a1 a2 => ?_, Nat.le_succ _⟩⟩
  · rw [hg] at e
    split at e
    · rename_i hi
      cases e
      subst hi
      exact ⟨b, r, ob, Mp.upd_self _ _ _ _, hB0, hw, ho⟩
    · obtain ⟨b1, r1, ob1, k1, k2, k3, k4⟩ := h1.has id x e
      exact ⟨b1, r1, ob1, Mp.upd_ext hM _ _ k1, k2, k3, k4.ext (Mp.upd_ext hM)⟩
  · rw [hg] at hi hj
    unfold Mp.upd at e1 e2
    by_cases h2 : i = nid
    · simp only [h2, if_true] at hi
      rw [hnw] at hi
      cases hi
    · by_cases h3 : j = nid
      · simp only [h2, h3, if_true, if_false] at e1 e2 hi
        cases e2
        have := hh.inj i id0 _ _ _ hi (by rw [g0]; rfl) e1 m0
        subst this
        rw [g0, w0] at hi
        cases hi
      · simp only [h2, h3, if_false] at e1 e2 hi hj
        exact hh.inj i j c r1 r2 hi hj e1 e2
  · rw [hg] at hi
    unfold Mp.upd at e1
    by_cases h2 : i = nid
    · simp only [h2, if_true] at hi
      rw [hnw] at hi
      cases hi
    · simp only [h2, if_false] at e1 hi
      exact (hh.old k c hk).2 i r1 hi e1
  · rw [hg] at hi
    unfold Mp.upd at e
    by_cases h2 : id = nid
    · simp only [h2, if_true] at e; cases e; exact .inl ⟨id0, r0, by rw [g0]; rfl, m0⟩
    · simp only [h2, if_false] at e hi; exact .inl ⟨id, r1, hi, e⟩
  · rw [hg] at hi
    unfold Mp.upd at e
    by_cases h2 : id = nid
    · simp only [h2, if_true] at hi; rw [hnw] at hi; cases hi
    · simp only [h2, if_false] at e hi; exact .inl ⟨id, r1, hi, e⟩
  · unfold Mp.upd at a2
    by_cases h2 : id = nid
    · omega
    · simp only [h2, if_false] at a2; exact absurd a1 a2
/-- a call that has made two blocks that are known -/
theorem new_two {B : Nat} {M : Mp} {g g' : Mem} {w w' : World} {nid b1 b2 : Nat} {o1 o2 : AObj} {ob1 ob2 : Obj} (hh : HRel P B M g w) (hB : B ≤ w.heap.size) (hM : M nid = none) (hM2 : M (nid + 1) = none) (hb : Below w.heap.size w w')
    (l1 : w.heap.size ≤ b1) (l2 : w.heap.size ≤ b2) (h1 : w'.heap[b1]? = some ob1) (h2 : w'.heap[b2]? = some ob2) (n1 : wrt (some o1) = false) (n2 : wrt (some o2) = false)
    (r1 : ∀ M, ORel P M 0 o1 ob1) (r2 : ∀ M, ORel P M 0 o2 ob2) (hg : ∀ i, g' i = if i = nid + 1 then some o2 else if i = nid then some o1 else g i) : HRel P B ((M.upd nid b1 0).upd (nid + 1) b2 0) g' w' ∧ Evol M g nid w ((M.upd nid b1 0).upd (nid + 1) b2 0) g' (nid + 2) w' := by
  obtain ⟨hh', _⟩ := below_post nid hh hb
  have hx1 : Ext M (M.upd nid b1 0) := Mp.upd_ext hM
  have hx2 : Ext (M.upd nid b1 0) ((M.upd nid b1 0).upd (nid + 1) b2 0) := Mp.upd_ext (by unfold Mp.upd; rw [if_neg (by omega)]; exact hM2)
  have cas : ∀ i, i = nid + 1 ∨ (i ≠ nid + 1 ∧ i = nid) ∨ (i ≠ nid + 1 ∧ i ≠ nid) := fun i => by omega
  have up : ∀ i, i ≠ nid + 1 → i ≠ nid → ((M.upd nid b1 0).upd (nid + 1) b2 0) i = M i := fun i a b => by unfold Mp.upd; rw [if_neg a, if_neg b]
  have u1 : ((M.upd nid b1 0).upd (nid + 1) b2 0) nid = some (b1, 0) := by unfold Mp.upd; rw [if_neg (by omega), if_pos rfl]
  have u2 : ((M.upd nid b1 0).upd (nid + 1) b2 0) (nid + 1) = some (b2, 0) := Mp.upd_self _ _ _ _
  refine ⟨⟨fun id x e => ?_, fun i j c q1 q2 hi hj e1 e2 => ?_, fun k c hk => ⟨(hh'.old k c hk).1, fun i q1 hi e1 => ?_⟩⟩, ⟨hb.os, hb.tape, hb.output, hb.size, fun b h _ => hb.block b h, fun id c q hi e => ?_, fun id c q hi e => ?_, hx1.trans hx2, fun id a1 a2 => ?_, by omega⟩⟩
  · rw [hg] at e
    rcases cas id with h | ⟨h, h'⟩ | ⟨h, h'⟩
    · subst h; rw [if_pos rfl] at e; cases e; exact ⟨b2, 0, ob2, u2, Nat.le_trans hB l2, h2, r2 _⟩
    · subst h'; rw [if_neg h, if_pos rfl] at e; cases e; exact ⟨b1, 0, ob1, u1, Nat.le_trans hB l1, h1, r1 _⟩
    · rw [if_neg h, if_neg h'] at e
      obtain ⟨b, r, ob, k1, k2, k3, k4⟩ := hh'.has id x e
      exact ⟨b, r, ob, hx2 _ _ (hx1 _ _ k1), k2, k3, (k4.ext hx1).ext hx2⟩
  · have wi : i ≠ nid + 1 ∧ i ≠ nid := by
      rw [hg] at hi
      rcases cas i with h | ⟨h, h'⟩ | h
      · rw [if_pos h, n2] at hi; cases hi
      · rw [if_neg h, if_pos h', n1] at hi; cases hi
      · exact h
    rw [hg, if_neg wi.1, if_neg wi.2] at hi
    rw [up i wi.1 wi.2] at e1
    have hc := hh.lt (wrt_some hi) e1
    rcases cas j with h | ⟨h, h'⟩ | ⟨h, h'⟩
    · subst h; rw [u2] at e2; cases e2; omega
    · subst h'; rw [u1] at e2; cases e2; omega
    · rw [hg, if_neg h, if_neg h'] at hj
      rw [up j h h'] at e2
      exact hh.inj i j c q1 q2 hi hj e1 e2
  · have wi : i ≠ nid + 1 ∧ i ≠ nid := by
      rw [hg] at hi
      rcases cas i with h | ⟨h, h'⟩ | h
      · rw [if_pos h, n2] at hi; cases hi
      · rw [if_neg h, if_pos h', n1] at hi; cases hi
      · exact h
    rw [hg, if_neg wi.1, if_neg wi.2] at hi
    rw [up i wi.1 wi.2] at e1
    exact (hh.old k c hk).2 i q1 hi e1
  · rcases cas id with h | ⟨h, h'⟩ | ⟨h, h'⟩
    · subst h; rw [u2] at e; cases e; exact .inr l2
    · subst h'; rw [u1] at e; cases e; exact .inr l1
    · rw [hg, if_neg h, if_neg h'] at hi; rw [up id h h'] at e; exact .inl ⟨id, q, hi, e⟩
  · rcases cas id with h | ⟨h, h'⟩ | ⟨h, h'⟩
    · subst h; rw [u2] at e; cases e; exact .inr l2
    · subst h'; rw [u1] at e; cases e; exact .inr l1
    · rw [hg, if_neg h, if_neg h'] at hi; rw [up id h h'] at e; exact .inl ⟨id, q, hi, e⟩
  · rcases cas id with h | ⟨h, h'⟩ | ⟨h, h'⟩
    · omega
    · omega
    · rw [up id h h'] at a2; exact absurd a1 a2
def nwR (r : Rs) : Prop :=
  match r with
  | .v _ => True
  | .n o _ => wrt (some o) = false
  | .n2 o1 o2 _ => wrt (some o1) = false ∧ wrt (some o2) = false
theorem ok_spEnt {e : Ent} (he : EntOk P e) (hnw : nwR e.res) : CallOk P (spEnt e) := fun t args hp0 nid v hp' nid' h => by
  cases t with
  | yield l => cases h
  | fn g =>
    obtain ⟨hk, h1⟩ := ck_some h
    clear h
    simp only [Bool.and_eq_true] at hk
    have hg := Nat.eq_of_beq_eq_true hk.1
    subst hg
    obtain ⟨f, pats, res⟩ := e
    cases res with
    | v x =>
      have h1 : some (x, hp0, nid) = some (v, hp', nid') := h1
      cases h1
      refine ⟨Nat.le_refl _, fun B M args' w ha hh hB hf => ?_⟩
      obtain ⟨hp, _⟩ := ptsOk_rel hh _ _ _ hk.2 ha
      show Calls P.prog _ _ _ _
      refine Calls.mono (he args' w hp) ?_
      rintro r w' ⟨hb, v', rfl, hv⟩
      obtain ⟨q1, q2⟩ := below_post nid hh hb
      exact ⟨M, v', rfl, hv M, q1, q2⟩
    | n o mk =>
      obtain ⟨hp1, hset, h2⟩ := ob_some (show ob (hp0.set nid (some o)) (fun hp' => some (mk nid, hp', Nat.succ nid)) = some (v, hp', nid') from h1)
      cases h2
      refine ⟨Nat.le_succ _, fun B M args' w ha hh hB hf => ?_⟩
      have hM : M nid = none := hf nid (Nat.le_refl _) (Nat.lt_succ_self _)
      obtain ⟨hp, hold⟩ := ptsOk_rel hh _ _ _ hk.2 ha
      show Calls P.prog _ _ _ _
      refine Calls.mono (he args' w hp) ?_
      rintro r w' ⟨hb, v', b, ob, rfl, hfr, hw, ho, hv⟩
      obtain ⟨q1, q2⟩ := new_post2 (r := 0) (o := o) hh hB hM hb (hfr.imp (fun h => hold b h) id) hw hnw (ho _) (T.get_set _ _ _ _ hset)
      exact ⟨M.upd nid b 0, v', rfl, hv _ _ (Mp.upd_self _ _ _ _), q1, q2⟩
    | n2 o1 o2 mk =>
      obtain ⟨hp1, hset, h2⟩ := ob_some (show ob (hp0.set nid (some o1)) (fun hp' => ob (hp'.set (Nat.succ nid) (some o2)) fun hp'' => some (mk nid, hp'', Nat.succ (Nat.succ nid))) = some (v, hp', nid') from h1)
      obtain ⟨hp2, hset2, h3⟩ := ob_some h2
      cases h3
      refine ⟨by omega, fun B M args' w ha hh hB hf => ?_⟩
      have hM : M nid = none := hf nid (Nat.le_refl _) (by omega)
      have hM2 : M (nid + 1) = none := hf (nid + 1) (by omega) (by omega)
      obtain ⟨hp, hold⟩ := ptsOk_rel hh _ _ _ hk.2 ha
      show Calls P.prog _ _ _ _
      refine Calls.mono (he args' w hp) ?_
      rintro r w' ⟨hb, v', b1, b2, ob1, ob2, rfl, l1, l2, k1, k2, r1, r2, hv⟩
      obtain ⟨q1, q2⟩ := new_two (g' := hp'.get) hh hB hM hM2 hb l1 l2 k1 k2 hnw.1 hnw.2 r1 r2 (fun i => by
        rw [T.get_set _ _ _ _ hset2 i, T.get_set _ _ _ _ hset i])
      exact ⟨_, v', rfl, hv _ nid (by unfold Mp.upd; rw [if_neg (by omega), if_pos rfl]) (Mp.upd_self _ _ _ _), q1, q2⟩
theorem ok_spEnts : ∀ {l : List Ent}, (∀ e ∈ l, EntOk P e) → (∀ e ∈ l, nwR e.res) → CallOk P (spEnts l)
  | [], _, _ => ok_spNone
  | e :: l, h, k => ok_spOr (ok_spEnt (h e (List.mem_cons_self ..)) (k e (List.mem_cons_self ..))) (ok_spEnts (fun x hx => h x (List.mem_cons_of_mem _ hx)) (fun x hx => k x (List.mem_cons_of_mem _ hx)))

/-! A run over such arguments tells what is known of a call. -/
def partObjs : List (Option AObj × Value) → List AObj
  | [] => []
  | (none, _) :: ps => partObjs ps
  | (some o, _) :: ps => o :: partObjs ps
def partVals : Nat → List (Option AObj × Value) → List Value
  | _, [] => []
  | k, (none, x) :: ps => x :: partVals k ps
  | k, (some _, t) :: ps => .iface 91 (.tuple #[.int .i64 (.ofNat k), t]) :: partVals (k + 1) ps
def ptVals : Nat → List Pt → List Value
  | _, [] => []
  | k, .v x :: ps => x :: ptVals k ps
  | k, .s _ t :: ps => .iface 91 (.tuple #[.int .i64 (.ofNat k), t]) :: ptVals (k + 1) ps
  | k, .a _ t x :: ps => .agg #[.iface 91 (.tuple #[.int .i64 (.ofNat k), t]), x] :: ptVals (k + 1) ps
  | k, .g l :: ps => .agg (partVals k l).toArray :: ptVals (k + (partObjs l).length) ps
def ptObjs : List Pt → List AObj
  | [] => []
  | .v _ :: ps => ptObjs ps
  | .s o _ :: ps => o :: ptObjs ps
  | .a o _ _ :: ps => o :: ptObjs ps
  | .g l :: ps => partObjs l ++ ptObjs ps
theorem parts_lay {w : World} : ∀ (ps : List (Option AObj × Value)) (vs : List Value), PartsR P w ps vs → ∃ L : List (Nat × Nat), L.length = (partObjs ps).length ∧ (∀ (M : Mp) (k : Nat), (∀ (i : Nat) (x : Nat × Nat), L[i]? = some x → M (k + i) = some x) → LRel P M (partVals k ps) vs) ∧
    (∀ (i : Nat) (o : AObj), (partObjs ps)[i]? = some o → ∃ (b r : Nat) (ob : Obj), L[i]? = some (b, r) ∧ w.heap[b]? = some ob ∧ ∀ M, ORel P M r o ob) ∧ (∀ x ∈ L, x.1 ∈ blkG ps vs)
  | [], [], _ => ⟨[], rfl, fun M k _ => LRel.nil M, fun i o h => by simp [partObjs] at h, fun x h => by cases h⟩
  | [], _ :: _, h => h.elim
  | p :: ps, [], h => h.elim
  | (none, x) :: ps, v :: vs, h => by
    obtain ⟨L, h1, h2, h3, h4⟩ := parts_lay ps vs h.2
    exact ⟨L, h1, fun M k hM => LRel.cons (h.1 M) (h2 M k hM), h3, fun x hx => h4 x hx⟩
  | (some o, t) :: ps, v :: vs, h => by
    obtain ⟨L, h1, h2, h3, h4⟩ := parts_lay ps vs h.2
    obtain ⟨b, r, n, c, ob, rfl, hn, hw, ho⟩ := h.1
    refine ⟨(b, r) :: L, by simp [partObjs, h1], fun M k hM => LRel.cons (.osl (by simpa using hM 0 (b, r) rfl) hn) (h2 M (k + 1) fun i x hx => (by have := hM (i + 1) x (by simpa using hx); rwa [show k + 1 + i = k + (i + 1) by omega])), fun i o' hi => ?_, fun x hx => ?_⟩
    · cases i with
      | zero => simp [partObjs] at hi; subst hi; exact ⟨b, r, ob, rfl, hw, ho⟩
      | succ i => obtain ⟨b', r', ob', k1, k2⟩ := h3 i o' (by simpa [partObjs] using hi); exact ⟨b', r', ob', by simpa using k1, k2⟩
    · rcases List.mem_cons.1 hx with rfl | hx
      · exact List.mem_append.2 (.inl (by simp [blkOf]))
      · exact List.mem_append.2 (.inr (h4 x hx))
theorem pts_lay {w : World} : ∀ (ps : List Pt) (vs : List Value), PtsR P w ps vs → ∃ L : List (Nat × Nat), L.length = (ptObjs ps).length ∧ (∀ (M : Mp) (k : Nat), (∀ (i : Nat) (x : Nat × Nat), L[i]? = some x → M (k + i) = some x) → LRel P M (ptVals k ps) vs) ∧
    (∀ (i : Nat) (o : AObj), (ptObjs ps)[i]? = some o → ∃ (b r : Nat) (ob : Obj), L[i]? = some (b, r) ∧ w.heap[b]? = some ob ∧ ∀ M, ORel P M r o ob) ∧ (∀ x ∈ L, x.1 ∈ blksP ps vs)
  | [], [], _ => ⟨[], rfl, fun M k _ => LRel.nil M, fun i o h => by simp [ptObjs] at h, fun x h => by cases h⟩
  | [], _ :: _, h => h.elim
  | p :: ps, [], h => by cases p <;> exact h.elim
  | .v x :: ps, v :: vs, h => by
    obtain ⟨L, h1, h2, h3, h4⟩ := pts_lay ps vs h.2
    exact ⟨L, h1, fun M k hM => LRel.cons (h.1 M) (h2 M k hM), h3, fun x hx => List.mem_append.2 (.inr (h4 x hx))⟩
  | .s o t :: ps, v :: vs, h => by
    obtain ⟨L, h1, h2, h3, h4⟩ := pts_lay ps vs h.2
    obtain ⟨b, r, n, c, ob, rfl, hn, hw, ho⟩ := h.1
    refine ⟨(b, r) :: L, by simp [ptObjs, h1], fun M k hM => LRel.cons (.osl (by simpa using hM 0 (b, r) rfl) hn) (h2 M (k + 1) fun i x hx => (by have := hM (i + 1) x (by simpa using hx); rwa [show k + 1 + i = k + (i + 1) by omega])), fun i o' hi => ?_, fun x hx => ?_⟩
    · cases i with
      | zero => simp [ptObjs] at hi; subst hi; exact ⟨b, r, ob, rfl, hw, ho⟩
      | succ i => obtain ⟨b', r', ob', k1, k2⟩ := h3 i o' (by simpa [ptObjs] using hi); exact ⟨b', r', ob', by simpa using k1, k2⟩
    · rcases List.mem_cons.1 hx with rfl | hx
      · exact List.mem_append.2 (.inl (by simp [blkP, blkOf]))
      · exact List.mem_append.2 (.inr (h4 x hx))
  | .a o t x :: ps, v :: vs, h => by
    obtain ⟨L, h1, h2, h3, h4⟩ := pts_lay ps vs h.2
    obtain ⟨s, u, rfl, ⟨b, r, n, c, ob, rfl, hn, hw, ho⟩, hu⟩ := h.1
    refine ⟨(b, r) :: L, by simp [ptObjs, h1], fun M k hM => LRel.cons (LRel.agg (LRel.cons (.osl (by simpa using hM 0 (b, r) rfl) hn) (LRel.cons (hu M) (LRel.nil M)))) (h2 M (k + 1) fun i x hx => (by have := hM (i + 1) x (by simpa using hx); rwa [show k + 1 + i = k + (i + 1) by omega])), fun i o' hi => ?_, fun x hx => ?_⟩
    · cases i with
      | zero => simp [ptObjs] at hi; subst hi; exact ⟨b, r, ob, rfl, hw, ho⟩
      | succ i => obtain ⟨b', r', ob', k1, k2⟩ := h3 i o' (by simpa [ptObjs] using hi); exact ⟨b', r', ob', by simpa using k1, k2⟩
    · rcases List.mem_cons.1 hx with rfl | hx
      · exact List.mem_append.2 (.inl (by simp [blkP, blkOf]))
      · exact List.mem_append.2 (.inr (h4 x hx))
  | .g l :: ps, v :: vs, h => by
    obtain ⟨L2, h1, h2, h3, h4⟩ := pts_lay ps vs h.2
    obtain ⟨us, rfl, hu⟩ := h.1
    obtain ⟨L1, g1, g2, g3, g4⟩ := parts_lay l us.toList hu
    refine ⟨L1 ++ L2, by simp [ptObjs, h1, g1], fun M k hM => LRel.cons (LRel.agg (g2 M k fun i x hx => hM i x (by rw [List.getElem?_append_left (List.getElem?_eq_some_iff.1 hx).1]; exact hx))) (h2 M (k + (partObjs l).length) fun i x hx => ?_), fun i o hi => ?_, fun x hx => ?_⟩
    · have := hM (L1.length + i) x (by rw [List.getElem?_append_right (by omega), Nat.add_sub_cancel_left]; exact hx)
      rwa [← g1, Nat.add_assoc]
    · have hi : (partObjs l ++ ptObjs ps)[i]? = some o := hi
      by_cases hlt : i < (partObjs l).length
      · rw [List.getElem?_append_left hlt] at hi
        obtain ⟨b, r, ob, k1, k2⟩ := g3 i o hi
        exact ⟨b, r, ob, by rw [List.getElem?_append_left (by omega)]; exact k1, k2⟩
      · rw [List.getElem?_append_right (by omega)] at hi
        obtain ⟨b, r, ob, k1, k2⟩ := h3 _ o hi
        exact ⟨b, r, ob, by rw [List.getElem?_append_right (by omega), g1]; exact k1, k2⟩
    · rcases List.mem_append.1 hx with hx | hx
      · exact List.mem_append.2 (.inl (g4 x hx))
      · exact List.mem_append.2 (.inr (h4 x hx))
/-- a memory of up to three objects -/
def memT (l : List AObj) : T AObj := .node (.node .leaf l[1]? .leaf) l[0]? (.node .leaf l[2]? .leaf)
theorem memT_get {l : List AObj} (hl : l.length ≤ 3) (id : Nat) : (memT l).get id = l[id]? := by
  unfold memT
  rw [T.get_node]
  by_cases h0 : id = 0
  · subst h0; rfl
  rw [if_neg h0]
  by_cases h1 : id % 2 = 1
  · rw [if_pos h1, T.get_node]
    by_cases h2 : id / 2 = 0
    · rw [if_pos h2, show id = 1 by omega]
    · rw [if_neg h2, List.getElem?_eq_none (by omega)]; split <;> exact T.get_leaf _
  · rw [if_neg h1, T.get_node]
    by_cases h2 : id / 2 - 1 = 0
    · rw [if_pos h2, show id = 2 by omega]
    · rw [if_neg h2, List.getElem?_eq_none (by omega)]; split <;> exact T.get_leaf _
theorem pts_ro {w : World} : ∀ (ps : List Pt) (vs : List Value), PtsR P w ps vs → RoOk P w
  | [], [], h => h
  | _ :: ps, _ :: vs, h => pts_ro ps vs h.2
  | [], _ :: _, h => h.elim
  | _ :: _, [], h => h.elim
theorem run_lay {k n f nid0 : Nat} {pats : List Pt} (hm : P.prog.follows .mixedOrders = true) {sp : CallF} (hsp : CallOk P sp) (hl : (ptObjs pats).length ≤ 3) (hnum : (ptObjs pats).all numO = true) {v : Value} {hp1 : T AObj} {nid : Nat} (hn : (ptObjs pats).length ≤ nid0)
    (hrun : evDS P sp k n (.fn f) (ptVals 0 pats) (memT (ptObjs pats)) nid0 = some (v, hp1, nid)) {args' : Array Value} {w : World} (h : PtsR P w pats args'.toList) :
    Calls P.prog f args' w fun e w' => ∃ M M' v', e = .returned v' ∧ VRel P M' v v' ∧ HRel P 0 M' hp1.get w' ∧ Evol M (memT (ptObjs pats)).get nid0 w M' hp1.get nid w' ∧ Below w.heap.size w w' ∧ (∀ id b r, ((memT (ptObjs pats)).get id).isSome = true → M id = some (b, r) → b ∈ blksP pats args'.toList) := by
  obtain ⟨L, h1, h2, h3, h4⟩ := pts_lay pats args'.toList h
  have hg := memT_get hl
  have nw : ∀ id, wrt ((memT (ptObjs pats)).get id) = false := fun id => by
    rw [hg]
    cases e : (ptObjs pats)[id]? with
    | none => rfl
    | some o => exact numO_wrt (List.all_eq_true.1 hnum o (List.mem_of_getElem? e))
  have hh : HRel P 0 (fun id => L[id]?) (memT (ptObjs pats)).get w := ⟨fun id o e => by
    rw [hg] at e
    obtain ⟨b, r, ob, k1, k2, k3⟩ := h3 id o e
    exact ⟨b, r, ob, k1, Nat.zero_le _, k2, k3 _⟩, fun i j b r r' hi => (by rw [nw i] at hi; cases hi), fun b c hb => ⟨pts_ro _ _ h b c hb, fun id r hi => (by rw [nw id] at hi; cases hi)⟩⟩
  refine Calls.mono (reckonS (B := 0) (M := fun id => L[id]?) hm hsp hrun (h2 _ 0 fun i x hx => (by rw [Nat.zero_add]; exact hx)) hh (Nat.zero_le _) (fun id k1 _ => List.getElem?_eq_none (by omega))) ?_
  rintro e w' ⟨M', v', rfl, hv, hh', hev⟩
  exact ⟨_, M', v', rfl, hv, hh', hev, ⟨hev.os, hev.tape, hev.output, hev.size, fun b hb => hev.frame b hb fun id r hi => by rw [nw id] at hi; cases hi⟩, fun id b r hi e => h4 (b, r) (List.mem_of_getElem? e)⟩
/-- a run that answers a value without blocks -/
theorem run_ent {k n f : Nat} {pats : List Pt} (hm : P.prog.follows .mixedOrders = true) {sp : CallF} (hsp : CallOk P sp) (hl : (ptObjs pats).length ≤ 3) (hnum : (ptObjs pats).all numO = true) {v : Value} (hv : noId 9 v = true)
    (hrun : fstO (evDS P sp k n (.fn f) (ptVals 0 pats) (memT (ptObjs pats)) 3) = some v) : EntOk P ⟨f, pats, .v v⟩ := fun args' w h => by
  cases hr : evDS P sp k n (.fn f) (ptVals 0 pats) (memT (ptObjs pats)) 3 with
  | none => rw [hr] at hrun; cases hrun
  | some q =>
    obtain ⟨v1, hp1, nid⟩ := q
    rw [hr] at hrun
    have e1 : v1 = v := Option.some.inj hrun
    subst e1
    refine Calls.mono (run_lay hm hsp hl hnum hl hr h) ?_
    rintro e w' ⟨M, M', v', rfl, hvr, _, _, hb, _⟩
    exact ⟨hb, v', rfl, fun M2 => hvr.noId 9 _ _ hv⟩
/-! A run that answers a block. -/
noncomputable def fst2 (id : Nat) (o : Option (Value × T AObj × Nat)) : Option (Value × Option AObj) := o.map fun r => (r.1, r.2.1.get id)
/-- the slice over the block old, as one over the block new -/
noncomputable def reVB (new : Nat) (ih : Value → Value) (v : Value) : Value :=
  match v with
  | .slice (some ⟨_, _, none⟩) n _ => .iface 91 (.tuple #[.int .i64 (.ofNat new), .int .i64 (.ofNat n)])
  | .iface t p => bi (Nat.beq t 91) (match p with
    | .tuple zs => match zs.toList with
      | [_, u] => .iface 91 (.tuple #[.int .i64 (.ofNat new), u])
      | _ => v
    | _ => v) v
  | .agg as => .agg (as.toList.map ih).toArray
  | .tuple as => .tuple (as.toList.map ih).toArray
  | v => v
noncomputable def reV (n new : Nat) : Value → Value := Nat.rec (fun v => v) (fun _ ih => reVB new ih) n
noncomputable def reOkB (old : Nat) (z : Bool) (ih : Value → Bool) (v : Value) : Bool :=
  match v with
  | .slice (some ⟨b, o, none⟩) _ _ => Nat.beq b old && Nat.beq o 0
  | .iface t p => bi (Nat.beq t 91) (z && (match p with
    | .tuple zs => match zs.toList with
      | [.int _ (.ofNat id), _] => Nat.beq id old
      | _ => false
    | _ => false)) (Nat.ble t 20 || (Nat.ble 100 t || (Nat.beq t 90 || (Nat.beq t 94 || (Nat.beq t 96 || (Nat.beq t 97 || Nat.beq t 98))))))
  | .agg as => as.toList.all ih
  | .tuple as => as.toList.all ih
  | .pointer (some _) => false
  | .func .. => false
  | _ => true
noncomputable def reOk (old : Nat) (z : Bool) (n : Nat) : Value → Bool := Nat.rec (fun _ => false) (fun _ ih => reOkB old z ih) n
theorem VRel.re {M M2 : Mp} {old new b r : Nat} {z : Bool} (h1 : M old = some (b, r)) (h2 : M2 new = some (b, 0)) (hz : z = true → r = 0) : ∀ (n : Nat) (v v' : Value), reOk old z n v = true → VRel P M v v' → VRel P M2 (reV n new v) v'
  | 0, v, v', h, _ => by cases h
  | n + 1, v, v', h, d => by
    cases d with
    | bool b => exact .bool b
    | int k m => exact .int k m
    | str s => exact .str s
    | nilp => exact .nilp
    | ptr h1 => have h : false = true := h; cases h
    | nils a c => exact .nils a c
    | @slc b0 b' r' o m c k1 hc =>
      have h := Bool.and_eq_true_iff.1 (show (Nat.beq b0 old && Nat.beq o 0) = true from h)
      have e1 := Nat.eq_of_beq_eq_true h.1
      have e2 := Nat.eq_of_beq_eq_true h.2
      subst e1 e2
      rw [h1] at k1
      cases k1
      exact .osl h2 (.lit (m : Int))
    | @slo b0 b' r' m k1 hn =>
      have h := Bool.and_eq_true_iff.1 (show (Nat.beq b0 old && Nat.beq 0 0) = true from h)
      have e1 := Nat.eq_of_beq_eq_true h.1
      subst e1
      rw [h1] at k1
      cases k1
      exact .osl h2 (.lit (m : Int))
    | @slx b0 b' r' o m c k1 hn =>
      have h := Bool.and_eq_true_iff.1 (show (Nat.beq b0 old && Nat.beq o 0) = true from h)
      have e1 := Nat.eq_of_beq_eq_true h.1
      have e2 := Nat.eq_of_beq_eq_true h.2
      subst e1 e2
      rw [h1] at k1
      cases k1
      exact .osl h2 (.lit (m : Int))
    | nilm => exact .nilm
    | nilf => exact .nilf
    | nili => exact .nili
    | func f ha h1 hc h2 => have h : false = true := h; cases h
    | yld h1 => have h : false = true := h; cases h
    | @sym t p x d ht =>
      have ne : Nat.beq t 91 = false := by
        cases e : Nat.beq t 91 with
        | false => rfl
        | true => have := Nat.eq_of_beq_eq_true e; omega
      show VRel P M2 (reVB new (reV n new) (.iface t p)) _
      unfold reVB
      simp only [ne]
      exact .sym d ht
    | hol h1 h2 h3 => exact .hol h1 h2 h3
    | @osl id b0 r0 m c t k1 hn =>
      have h := Bool.and_eq_true_iff.1 (show (z && Nat.beq id old) = true from h)
      have e1 := Nat.eq_of_beq_eq_true h.2
      subst e1
      rw [h1] at k1
      cases k1
      have := hz h.1
      subst this
      exact .osl h2 hn
    | osk h1 hn => have h : false = true := h; cases h
    | hsl h1 hn => exact .hsl h1 hn
    | osm h1 hn hN => have h : false = true := h; cases h
    | opp h1 => have h : false = true := h; cases h
    | fvl hz hd h1 => exact .fvl hz hd h1
    | fst hz hd => exact .fst hz hd
    | fpp hz hd hk hl hs => exact .fpp hz hd hk hl hs
    | agg ha k1 =>
      have h : _ = true := h
      refine .agg (by simpa using ha) fun i u u' e e' => ?_
      obtain ⟨x, ex, rfl⟩ := map_at e
      exact VRel.re h1 h2 hz n x u' (all_at h ex) (k1 i x u' ex e')
    | tup ha k1 =>
      have h : _ = true := h
      refine .tup (by simpa using ha) fun i u u' e e' => ?_
      obtain ⟨x, ex, rfl⟩ := map_at e
      exact VRel.re h1 h2 hz n x u' (all_at h ex) (k1 i x u' ex e')
/-- a run that answers a block, told as another object -/
theorem run_entN {k n f id : Nat} {pats : List Pt} (hm : P.prog.follows .mixedOrders = true) {sp : CallF} (hsp : CallOk P sp) (hl : (ptObjs pats).length ≤ 3) (hnum : (ptObjs pats).all numO = true) {v : Value} {o o2 : AObj} {z : Bool} (hv : reOk id z 9 v = true)
    (hconv : ∀ M r ob, ORel P M r o ob → (z = true → r = 0) ∧ ∀ M', ORel P M' 0 o2 ob)
    (hrun : fst2 id (evDS P sp k n (.fn f) (ptVals 0 pats) (memT (ptObjs pats)) 3) = some (v, some o)) : EntOk P ⟨f, pats, .n o2 (fun new => reV 9 new v)⟩ := fun args' w h => by
  cases hr : evDS P sp k n (.fn f) (ptVals 0 pats) (memT (ptObjs pats)) 3 with
  | none => rw [hr] at hrun; cases hrun
  | some q =>
    obtain ⟨v1, hp1, nid⟩ := q
    rw [hr] at hrun
    have hv' := Option.some.inj hrun
    have e1 : v1 = v := (Prod.mk.inj hv').1
    have hg : hp1.get id = some o := (Prod.mk.inj hv').2
    subst e1
    refine Calls.mono (run_lay hm hsp hl hnum hl hr h) ?_
    rintro e w' ⟨M, M', v', rfl, hvr, hh', hev, hb, hbl⟩
    obtain ⟨b, r, ob, j1, j2, j3, j4⟩ := hh'.has id _ hg
    obtain ⟨c1, c2⟩ := hconv _ _ _ j4
    refine ⟨hb, v', b, ob, rfl, ?_, j3, c2, fun M2 id2 e2 => VRel.re j1 e2 c1 9 _ _ hv hvr⟩
    rcases hev.fresh id b r (by rw [hg]; rfl) j1 with ⟨id0, r0, h0, m0⟩ | h
    · exact .inl (hbl id0 b r0 h0 m0)
    · exact .inr h
/-- a row of numbers and strings as a window -/
theorem row_winC {M : Mp} {r : Nat} {c : List Value} {el : TypeId} {opn : Bool} {ob : Obj} (hc : c.all cellOk = true) (hpin : ∀ ob, P.den.pin ob) (h : ORel P M r (.row c el opn) ob) (M' : Mp) : ORel P M' 0 (.win c) ob := by
  obtain ⟨c', rfl, _, g1, g2⟩ := h
  refine ⟨c', el, (0, 0), rfl, ?_, hpin _⟩
  have hl : LRel P M c (c'.toList.take c.length) := by
    cases opn with
    | true => exact (g2 rfl).1
    | false =>
      have := g1 rfl
      rwa [List.take_of_length_le (by rw [this.1]; exact Nat.le_refl _)]
  exact ⟨hl.1, fun i v v' e e' => VRel.cell (List.all_eq_true.1 hc v (List.mem_of_getElem? e)) (hl.2 i v v' e e')⟩
/-- of numbers alone -/
theorem row_win {M : Mp} {r : Nat} {c : List Value} {el : TypeId} {opn : Bool} {ob : Obj} (hc : c.all isNum = true) (hpin : ∀ ob, P.den.pin ob) (h : ORel P M r (.row c el opn) ob) (M' : Mp) : ORel P M' 0 (.win c) ob := row_winC (all_cell hc) hpin h M'
/-! Other ways to tell the same. -/
theorem EntOk.pats {f : Nat} {p1 p2 : List Pt} {r : Rs} (h : EntOk P ⟨f, p1, r⟩) (hp : ∀ w vs, PtsR P w p2 vs → PtsR P w p1 vs ∧ blksP p2 vs = blksP p1 vs) : EntOk P ⟨f, p2, r⟩ := fun args' w k => by
  obtain ⟨h1, h2⟩ := hp w _ k
  have := h args' w h1
  rw [← h2] at this
  exact this
theorem EntOk.objs {f : Nat} {p : List Pt} {o o2 : AObj} {mk : Nat → Value} (h : EntOk P ⟨f, p, .n o mk⟩) (hc : ∀ ob, (∀ M, ORel P M 0 o ob) → ∀ M, ORel P M 0 o2 ob) : EntOk P ⟨f, p, .n o2 mk⟩ := fun args' w k => by
  refine Calls.mono (h args' w k) ?_
  rintro e w' ⟨hb, v', b, ob, h1, h2, h3, h4, h5⟩
  exact ⟨hb, v', b, ob, h1, h2, h3, hc ob h4, h5⟩
/-- a run that answers a row that it has made -/
theorem run_rowC {k n f id : Nat} {pats : List Pt} (hm : P.prog.follows .mixedOrders = true) {sp : CallF} (hsp : CallOk P sp) (hl : (ptObjs pats).length ≤ 3) (hnum : (ptObjs pats).all numO = true) {v : Value} {c : List Value} {el : TypeId} {opn : Bool} (hv : reOk id false 9 v = true) (hc : c.all cellOk = true) (hpin : ∀ ob, P.den.pin ob)
    (hrun : fst2 id (evDS P sp k n (.fn f) (ptVals 0 pats) (memT (ptObjs pats)) 3) = some (v, some (.row c el opn))) {args' : Array Value} {w : World} (h : PtsR P w pats args'.toList) :
    Calls P.prog f args' w fun e w' => Below w.heap.size w w' ∧ ∃ v' b ob, e = .returned v' ∧ w.heap.size ≤ b ∧ w'.heap[b]? = some ob ∧ (∀ M, ORel P M 0 (.win c) ob) ∧ ∀ M id2, M id2 = some (b, 0) → VRel P M (reV 9 id2 v) v' := by
  cases hr : evDS P sp k n (.fn f) (ptVals 0 pats) (memT (ptObjs pats)) 3 with
  | none => rw [hr] at hrun; cases hrun
  | some q =>
    obtain ⟨v1, hp1, nid⟩ := q
    rw [hr] at hrun
    have hv' := Option.some.inj hrun
    have e1 : v1 = v := (Prod.mk.inj hv').1
    have hg : hp1.get id = some (.row c el opn) := (Prod.mk.inj hv').2
    subst e1
    have nw : ∀ id, wrt ((memT (ptObjs pats)).get id) = false := fun id => by
      rw [memT_get hl]
      cases e : (ptObjs pats)[id]? with
      | none => rfl
      | some o => exact numO_wrt (List.all_eq_true.1 hnum o (List.mem_of_getElem? e))
    refine Calls.mono (run_lay hm hsp hl hnum hl hr h) ?_
    rintro e w' ⟨M, M', v', rfl, hvr, hh', hev, hb, hbl⟩
    obtain ⟨b, r, ob, j1, j2, j3, j4⟩ := hh'.has id _ hg
    refine ⟨hb, v', b, ob, rfl, ?_, j3, row_winC hc hpin j4, fun M2 id2 e2 => VRel.re (z := false) j1 e2 (fun h => by cases h) 9 _ _ hv hvr⟩
    rcases hev.freshW id b r (by rw [hg]; rfl) j1 with ⟨id0, r0, h0, _⟩ | h
    · rw [nw id0] at h0; cases h0
    · exact h
/-- of numbers alone -/
theorem run_row {k n f id : Nat} {pats : List Pt} (hm : P.prog.follows .mixedOrders = true) {sp : CallF} (hsp : CallOk P sp) (hl : (ptObjs pats).length ≤ 3) (hnum : (ptObjs pats).all numO = true) {v : Value} {c : List Value} {el : TypeId} {opn : Bool} (hv : reOk id false 9 v = true) (hc : c.all isNum = true) (hpin : ∀ ob, P.den.pin ob)
    (hrun : fst2 id (evDS P sp k n (.fn f) (ptVals 0 pats) (memT (ptObjs pats)) 3) = some (v, some (.row c el opn))) {args' : Array Value} {w : World} (h : PtsR P w pats args'.toList) :
    Calls P.prog f args' w fun e w' => Below w.heap.size w w' ∧ ∃ v' b ob, e = .returned v' ∧ w.heap.size ≤ b ∧ w'.heap[b]? = some ob ∧ (∀ M, ORel P M 0 (.win c) ob) ∧ ∀ M id2, M id2 = some (b, 0) → VRel P M (reV 9 id2 v) v' :=
  run_rowC hm hsp hl hnum hv (all_cell hc) hpin hrun h
/-! The same of another list of facts. -/
theorem SlR.congr {P P' : Pg} (hd : P'.den = P.den) (hp : P'.prog = P.prog) {w : World} {o : AObj} {t v : Value} (h : SlR P w o t v) : SlR P' w o t v := by
  obtain ⟨b, r, n, c, ob, h1, h2, h3, h4⟩ := h
  exact ⟨b, r, n, c, ob, h1, by rw [hd]; exact h2, h3, fun M => (h4 M).congr hd hp⟩
theorem PartsR.congr {P P' : Pg} (hd : P'.den = P.den) (hp : P'.prog = P.prog) {w : World} : ∀ {ps : List (Option AObj × Value)} {vs : List Value}, PartsR P w ps vs → PartsR P' w ps vs
  | [], [], _ => trivial
  | (none, _) :: _, _ :: _, h => ⟨fun M => (h.1 M).congr hd, PartsR.congr hd hp h.2⟩
  | (some _, _) :: _, _ :: _, h => ⟨SlR.congr hd hp h.1, PartsR.congr hd hp h.2⟩
  | [], _ :: _, h => h.elim
  | _ :: _, [], h => h.elim
theorem PtR.congr {P P' : Pg} (hd : P'.den = P.den) (hp : P'.prog = P.prog) {w : World} {p : Pt} {v : Value} (h : PtR P w p v) : PtR P' w p v := by
  cases p with
  | v x => exact fun M => (h M).congr hd
  | s o t => exact SlR.congr hd hp h
  | a o t x =>
    obtain ⟨s, u, h1, h2, h3⟩ := h
    exact ⟨s, u, h1, h2.congr hd hp, fun M => (h3 M).congr hd⟩
  | g l =>
    obtain ⟨vs, h1, h2⟩ := h
    exact ⟨vs, h1, h2.congr hd hp⟩
theorem PtsR.congr {P P' : Pg} (hd : P'.den = P.den) (hp : P'.prog = P.prog) {w : World} : ∀ {ps : List Pt} {vs : List Value}, PtsR P w ps vs → PtsR P' w ps vs
  | [], [], h => fun b c hb => h b c (by rw [← hd]; exact hb)
  | _ :: _, _ :: _, h => ⟨h.1.congr hd hp, PtsR.congr hd hp h.2⟩
  | [], _ :: _, h => h.elim
  | _ :: _, [], h => h.elim
theorem EntOk.congr {P P' : Pg} (hd : P'.den = P.den) (hp : P'.prog = P.prog) {e : Ent} (h : EntOk P e) : EntOk P' e := fun args' w k => by
  rw [hp]
  refine Calls.mono (h args' w (k.congr hd.symm hp.symm)) ?_
  rintro r w' ⟨hb, hr⟩
  refine ⟨hb, ?_⟩
  obtain ⟨f, pats, res⟩ := e
  cases res with
  | v x =>
    obtain ⟨v', h1, h2⟩ := hr
    exact ⟨v', h1, fun M => (h2 M).congr hd⟩
  | n o mk =>
    obtain ⟨v', b, ob, h1, h2, h3, h4, h5⟩ := hr
    exact ⟨v', b, ob, h1, h2, h3, fun M => (h4 M).congr hd hp, fun M id k => (h5 M id k).congr hd⟩
  | n2 o1 o2 mk =>
    obtain ⟨v', b1, b2, ob1, ob2, h1, h2, h3, h4, h5, h6, h7, h8⟩ := hr
    exact ⟨v', b1, b2, ob1, ob2, h1, h2, h3, h4, h5, fun M => (h6 M).congr hd hp, fun M => (h7 M).congr hd hp, fun M id k k2 => (h8 M id k k2).congr hd⟩
end Sy
end Go.Proofs.Ytlmnhlmgbcpclaa
