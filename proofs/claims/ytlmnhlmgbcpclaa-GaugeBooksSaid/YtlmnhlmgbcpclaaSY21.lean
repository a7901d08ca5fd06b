import Derived.Test.YtlmnhlmgbcpclaaSY20
set_option linter.unusedSimpArgs false
set_option linter.unusedVariables false
namespace Go.Proofs.Ytlmnhlmgbcpclaa
namespace Sy
variable {P : Pg}
open Go.RowKit

/-! A loop that keeps numbers in slots: one round of it, reckoned, for each way through it. -/

/-! What is known hangs on what symbols mean alone. -/
theorem VRel.congr {P' : Pg} (hd : P'.den = P.den) {M : Mp} {v v' : Value} (h : VRel P M v v') : VRel P' M v v' := by
  induction h with
  | bool b => exact .bool b
  | int k n => exact .int k n
  | str s => exact .str s
  | nilp => exact .nilp
  | ptr h => exact .ptr h
  | nils n c => exact .nils n c
  | slc h hc => exact .slc h hc
  | slo h hn => exact .slo h hn
  | slx h hn => exact .slx h hn
  | nilm => exact .nilm
  | nilf => exact .nilf
  | nili => exact .nili
  | func f ha h1 hc h2 ih1 ih2 => exact .func f ha ih1 hc ih2
  | yld h => exact .yld h
  | sym h ht => exact .sym (by rw [hd]; exact h) ht
  | @hol n h1 h2 h3 =>
    have e : P'.den.hole n = P.den.hole n := by rw [hd]
    rw [← e] at h1 h2 h3 ⊢
    exact .hol h1 h2 h3
  | osl h hn => exact .osl h (by rw [hd]; exact hn)
  | osk h hn => exact .osk h hn
  | hsl h hn => exact .hsl (by rw [hd]; exact h) (by rw [hd]; exact hn)
  | osm h hn hN => exact .osm h (by rw [hd]; exact hn) hN
  | opp h => exact .opp h
  | @fvl zs c as xs hz hv h1 =>
    have e : P'.den.slc c xs = P.den.slc c xs := by rw [hd]
    rw [← e] at h1 ⊢
    exact .fvl hz (by rw [hd]; exact hv) h1
  | @fst zs c as xs hz hv =>
    have e : P'.den.str c xs = P.den.str c xs := by rw [hd]
    rw [← e]
    exact .fst hz (by rw [hd]; exact hv)
  | fpp hz hv hk hl hs => exact .fpp hz (by rw [hd]; exact hv) (by rw [hd]; exact hk) hl (by rw [hd]; exact hs)
  | agg ha h1 ih => exact .agg ha ih
  | tup ha h1 ih => exact .tup ha ih
theorem LRel.congr {P' : Pg} (hd : P'.den = P.den) {M : Mp} {l l' : List Value} (h : LRel P M l l') : LRel P' M l l' := ⟨h.1, fun i v v' a b => (h.2 i v v' a b).congr hd⟩
theorem ORel.congr {P' : Pg} (hd : P'.den = P.den) (hp : P'.prog = P.prog) {M : Mp} {r : Nat} {o : AObj} {ob : Obj} (h : ORel P M r o ob) : ORel P' M r o ob := by
  cases o with
  | dfr => exact h
  | loop st pend tm kp nt ps as_ body d =>
    obtain ⟨l, a1, a2, a3, a4, a5, a6, a7, a8, a9⟩ := h
    exact ⟨l, a1, a2, a3, a4, a5, a6, a7, fun t v e => by obtain ⟨k1, v', k2, k3⟩ := a8 t v e; exact ⟨k1, v', k2, k3.congr hd⟩, a9⟩
  | opq j l =>
    obtain ⟨h0, xs, h1, h2, h3⟩ := h
    exact ⟨h0, xs, h1, fun i v x e e' => by rw [hd]; exact h2 i v x e e', by rw [hd]; exact h3⟩
  | win c =>
    obtain ⟨c', e, fr, h1, h2, h3⟩ := h
    exact ⟨c', e, fr, h1, h2.congr hd, by rw [hd]; exact h3⟩
  | row c e p =>
    obtain ⟨c', h1, h2, h3, h4⟩ := h
    refine ⟨c', h1, h2, fun e => (h3 e).congr hd, fun e => ⟨(h4 e).1.congr hd, (h4 e).2.1, ?_⟩⟩
    obtain ⟨sz, q1, q2⟩ := (h4 e).2.2
    exact ⟨sz, by unfold sizeT at q1 ⊢; rw [hp]; exact q1, q2⟩
theorem HRel.congr {P' : Pg} (hd : P'.den = P.den) (hp : P'.prog = P.prog) {B : Nat} {M : Mp} {g : Mem} {w : World} (h : HRel P B M g w) : HRel P' B M g w :=
  ⟨fun id o e => by obtain ⟨b, r, ob, k1, k2, k3, k4⟩ := h.has id o e; exact ⟨b, r, ob, k1, k2, k3, k4.congr hd hp⟩, h.inj, fun b c hb => h.old b c (by rw [← hd]; exact hb)⟩
theorem CInv.congr {P' : Pg} (hd : P'.den = P.den) (hp : P'.prog = P.prog) {B : Nat} {M : Mp} {rf : Option Nat} {s : St} {a : Act} {w : World} (h : CInv P B M rf s a w) : CInv P' B M rf s a w :=
  ⟨h.defers, h.rnd, h.size, fun t v e => by obtain ⟨k1, v', k2, k3⟩ := h.tmps t v e; exact ⟨k1, v', k2, k3.congr hd⟩, h.heap.congr hd hp, h.base_⟩

/-! What is known in a greater map of what was known in the lesser one. -/
theorem slc_inv {M : Mp} {b o n c : Nat} {v : Value} (h : VRel P M (.slice (some ⟨b, o, none⟩) n c) v) : ∃ b' r, M b = some (b', r) ∧
    ((c < OPEN ∧ v = .slice (some ⟨b', o, none⟩) n c) ∨ (c = OPEN ∧ o = 0 ∧ n ≤ r ∧ v = .slice (some ⟨b', 0, none⟩) n r) ∨ (c = OPEN1 ∧ ∃ cc, n ≤ cc ∧ v = .slice (some ⟨b', o, none⟩) n cc)) := by
  generalize hu : Value.slice (some ⟨b, o, none⟩) n c = u at h
  cases h with
  | slc h hc => cases hu; exact ⟨_, _, h, .inl ⟨hc, rfl⟩⟩
  | slo h hn => injection hu with e1 e2 e3; cases e1; subst e2; exact ⟨_, _, h, .inr (.inl ⟨e3, rfl, hn, rfl⟩)⟩
  | slx h hn => injection hu with e1 e2 e3; cases e1; subst e2; exact ⟨_, _, h, .inr (.inr ⟨e3, _, hn, rfl⟩)⟩
  | _ => cases hu
theorem slc_mk {M : Mp} {b o n c b' r : Nat} {v : Value} (hb : M b = some (b', r)) (h : (c < OPEN ∧ v = .slice (some ⟨b', o, none⟩) n c) ∨ (c = OPEN ∧ o = 0 ∧ n ≤ r ∧ v = .slice (some ⟨b', 0, none⟩) n r) ∨ (c = OPEN1 ∧ ∃ cc, n ≤ cc ∧ v = .slice (some ⟨b', o, none⟩) n cc)) :
    VRel P M (.slice (some ⟨b, o, none⟩) n c) v := by
  rcases h with ⟨h1, rfl⟩ | ⟨rfl, rfl, h1, rfl⟩ | ⟨rfl, cc, h1, rfl⟩
  · exact .slc hb h1
  · exact .slo hb h1
  · exact .slx hb h1
theorem slc_back {M M1 : Mp} (hx : Ext M M1) {b o n c : Nat} {x v1 : Value} (h : VRel P M (.slice (some ⟨b, o, none⟩) n c) x) (h1 : VRel P M1 (.slice (some ⟨b, o, none⟩) n c) v1) : VRel P M (.slice (some ⟨b, o, none⟩) n c) v1 := by
  obtain ⟨b', r, hb, _⟩ := slc_inv h
  obtain ⟨b2, r2, hb2, k⟩ := slc_inv h1
  rw [hx _ _ hb] at hb2
  cases hb2
  exact slc_mk hb k
theorem VRel.back {M M1 : Mp} (hx : Ext M M1) {v v0 : Value} (h : VRel P M v v0) : ∀ {v1 : Value}, VRel P M1 v v1 → VRel P M v v1 := by
  induction h with
  | bool b => intro v1 k; cases k; exact .bool b
  | int kd n => intro v1 k; cases k; exact .int kd n
  | str s => intro v1 k; cases k; exact .str s
  | nilp => intro v1 k; cases k; exact .nilp
  | ptr h => intro v1 k; cases k with | ptr h2 => rw [hx _ _ h] at h2; cases h2; exact .ptr h
  | nils n c => intro v1 k; cases k; exact .nils n c
  | slc h hc => intro v1 k; exact slc_back hx (.slc h hc) k
  | slo h hn => intro v1 k; exact slc_back hx (.slo h hn) k
  | slx h hn => intro v1 k; exact slc_back hx (.slx h hn) k
  | nilm => intro v1 k; cases k; exact .nilm
  | nilf => intro v1 k; cases k; exact .nilf
  | nili => intro v1 k; cases k; exact .nili
  | @func f a a' c c' ha h1 hc h2 ih1 ih2 =>
    intro v1 k
    cases k with
    | func f ha' k1 hc' k2 =>
      refine .func f ha' (fun i u u' e e' => ?_) hc' (fun i u u' e e' => ?_)
      · have hi : i < a'.size := by have := (Array.getElem?_eq_some_iff.1 e).1; omega
        exact ih1 i u _ e (Array.getElem?_eq_getElem hi) (k1 i u u' e e')
      · have hi : i < c'.size := by have := (Array.getElem?_eq_some_iff.1 e).1; omega
        exact ih2 i u _ e (Array.getElem?_eq_getElem hi) (k2 i u u' e e')
  | yld h => intro v1 k; cases k with | yld h2 => rw [hx _ _ h] at h2; cases h2; exact .yld h
  | sym h ht =>
    intro v1 k
    cases k with
    | sym h2 ht2 => exact .sym h2 ht2
    | hol h1 h2 h3 => rcases ht with e | e <;> exact absurd e (by decide)
    | osl h1 h2 => rcases ht with e | e <;> exact absurd e (by decide)
    | osk h1 h2 => rcases ht with e | e <;> exact absurd e (by decide)
    | hsl h1 h2 => rcases ht with e | e <;> exact absurd e (by decide)
    | osm h1 h2 h3 => rcases ht with e | e <;> exact absurd e (by decide)
    | opp h1 => rcases ht with e | e <;> exact absurd e (by decide)
    | fvl h1 h2 h3 => rcases ht with e | e <;> exact absurd e (by decide)
    | fst h1 h2 => rcases ht with e | e <;> exact absurd e (by decide)
    | fpp h1 h2 h3 h4 h5 => rcases ht with e | e <;> exact absurd e (by decide)
  | fvl hz hv h1 =>
    intro v1 k
    cases k with
    | fvl hz2 hv2 h2 => exact .fvl hz2 hv2 h2
    | sym h2 ht2 => rcases ht2 with e | e <;> exact absurd e (by decide)
  | fst hz hv =>
    intro v1 k
    cases k with
    | fst hz2 hv2 => exact .fst hz2 hv2
    | sym h2 ht2 => rcases ht2 with e | e <;> exact absurd e (by decide)
  | fpp hz hv hk hl hs =>
    intro v1 k
    cases k with
    | fpp hz2 hv2 hk2 hl2 hs2 => exact .fpp hz2 hv2 hk2 hl2 hs2
    | sym h2 ht2 => rcases ht2 with e | e <;> exact absurd e (by decide)
  | hol h1 h2 h3 =>
    intro v1 k
    cases k with
    | hol h1 h2 h3 => exact .hol h1 h2 h3
    | sym h2 ht2 => rcases ht2 with e | e <;> exact absurd e (by decide)
  | osl h hn =>
    intro v1 k
    cases k with
    | osl h2 hn2 => rw [hx _ _ h] at h2; cases h2; exact .osl h hn2
    | sym h2 ht2 => rcases ht2 with e | e <;> exact absurd e (by decide)
  | osk h hn =>
    intro v1 k
    cases k with
    | osk h2 hn2 => rw [hx _ _ h] at h2; cases h2; exact .osk h hn2
    | sym h2 ht2 => rcases ht2 with e | e <;> exact absurd e (by decide)
  | hsl h hn =>
    intro v1 k
    cases k with
    | hsl h2 hn2 => exact .hsl h2 hn2
    | sym h2 ht2 => rcases ht2 with e | e <;> exact absurd e (by decide)
  | osm h hn hN =>
    intro v1 k
    cases k with
    | osm h2 hn2 hN2 => rw [hx _ _ h] at h2; cases h2; exact .osm h hn2 hN2
    | sym h2 ht2 => rcases ht2 with e | e <;> exact absurd e (by decide)
  | opp h =>
    intro v1 k
    cases k with
    | opp h2 => rw [hx _ _ h] at h2; cases h2; exact .opp h
    | sym h2 ht2 => rcases ht2 with e | e <;> exact absurd e (by decide)
  | @agg a a' ha h1 ih =>
    intro v1 k
    cases k with
    | agg ha' k1 =>
      refine .agg ha' fun i u u' e e' => ?_
      have hi : i < a'.size := by have := (Array.getElem?_eq_some_iff.1 e).1; omega
      exact ih i u _ e (Array.getElem?_eq_getElem hi) (k1 i u u' e e')
  | @tup a a' ha h1 ih =>
    intro v1 k
    cases k with
    | tup ha' k1 =>
      refine .tup ha' fun i u u' e e' => ?_
      have hi : i < a'.size := by have := (Array.getElem?_eq_some_iff.1 e).1; omega
      exact ih i u _ e (Array.getElem?_eq_getElem hi) (k1 i u u' e e')
theorem LRel.back {M M1 : Mp} (hx : Ext M M1) {l l0 l1 : List Value} (h : LRel P M l l0) (k : LRel P M1 l l1) : LRel P M l l1 :=
  ⟨k.1, fun i v v' e e' => by obtain ⟨u, _, hu⟩ := h.get e; exact hu.back hx (k.2 i v v' e e')⟩
theorem ORel.back {M M1 : Mp} (hx : Ext M M1) {r : Nat} {o : AObj} {ob0 ob1 : Obj} (hl : ∀ st pend tm kp nt ps as_ body d, o ≠ .loop st pend tm kp nt ps as_ body d) (h : ORel P M r o ob0) (k : ORel P M1 r o ob1) : ORel P M r o ob1 := by
  cases o with
  | dfr => exact k
  | loop st pend tm kp nt ps as_ body d => exact absurd rfl (hl st pend tm kp nt ps as_ body d)
  | opq j l => exact k
  | win c =>
    obtain ⟨c0, _, _, _, h2, _⟩ := h
    obtain ⟨c', e, fr, k1, k2, k3⟩ := k
    exact ⟨c', e, fr, k1, h2.back hx k2, k3⟩
  | row c e p =>
    obtain ⟨c0, _, _, h3, h4⟩ := h
    obtain ⟨c', k1, k2, k3, k4⟩ := k
    exact ⟨c', k1, k2, fun e => (h3 e).back hx (k3 e), fun e => ⟨(h4 e).1.back hx (k4 e).1, (k4 e).2⟩⟩

/-! Equality of values and objects, for the kernel. -/
def eqAd (a b : Option Addr) : Bool :=
  match a, b with
  | none, none => true
  | some ⟨b, o, none⟩, some ⟨b', o', none⟩ => Nat.beq b b' && Nat.beq o o'
  | _, _ => false
theorem eqAd_eq {a b : Option Addr} (h : eqAd a b = true) : a = b := by
  unfold eqAd at h
  split at h
  · rfl
  · simp only [Bool.and_eq_true] at h; rw [Nat.eq_of_beq_eq_true h.1, Nat.eq_of_beq_eq_true h.2]
  · cases h
def eqL (ih : Value → Value → Bool) (as bs : List Value) : Bool := Nat.beq as.length bs.length && (as.zip bs).all fun x => ih x.1 x.2
theorem eqL_eq {ih : Value → Value → Bool} (hi : ∀ a b, ih a b = true → a = b) {as bs : List Value} (h : eqL ih as bs = true) : as = bs := by
  simp only [eqL, Bool.and_eq_true, List.all_eq_true] at h
  have hl := Nat.eq_of_beq_eq_true h.1
  apply List.ext_getElem hl
  intro i h1 h2
  refine hi _ _ (h.2 (as[i], bs[i]) ?_)
  have := List.getElem_mem (l := as.zip bs) (n := i) (by simp at h1 h2 ⊢; omega)
  simpa using this
def eqWB (ih : Value → Value → Bool) (a b : Value) : Bool :=
  match a, b with
  | .bool x, .bool y => x == y
  | .int k x, .int j y => decide (k = j) && eqI x y
  | .string x, .string y => decide (x.data = y.data)
  | .iface t p, .iface u q => Nat.beq t u && ih p q
  | .tuple as, .tuple bs => eqL ih as.toList bs.toList
  | .agg as, .agg bs => eqL ih as.toList bs.toList
  | .pointer x, .pointer y => eqAd x y
  | .slice x n c, .slice y m d => eqAd x y && (Nat.beq n m && Nat.beq c d)
  | .func (.func f) a c, .func (.func g) b d => Nat.beq f g && (eqL ih a.toList b.toList && eqL ih c.toList d.toList)
  | .map none, .map none => true
  | .nilFunc, .nilFunc => true
  | .nilIface, .nilIface => true
  | _, _ => false
noncomputable def eqW (n : Nat) : Value → Value → Bool := Nat.rec (fun _ _ => false) (fun _ ih a b => eqWB ih a b) n
theorem eqW_eq : ∀ (n : Nat) (a b : Value), eqW n a b = true → a = b
  | 0, a, b, h => by cases h
  | n + 1, a, b, h => by
    have hi := fun a b => eqW_eq n a b
    have h1 : eqWB (eqW n) a b = true := h
    unfold eqWB at h1
    split at h1
    · rw [eq_of_beq h1]
    · simp only [Bool.and_eq_true, decide_eq_true_eq, eqI_eq] at h1; rw [h1.1, h1.2]
    · rename_i x y
      have := of_decide_eq_true h1
      cases x; cases y; simp_all
    · simp only [Bool.and_eq_true] at h1; rw [Nat.eq_of_beq_eq_true h1.1, hi _ _ h1.2]
    · rw [Array.toList_inj.1 (eqL_eq hi h1)]
    · rw [Array.toList_inj.1 (eqL_eq hi h1)]
    · rw [eqAd_eq h1]
    · simp only [Bool.and_eq_true] at h1; rw [eqAd_eq h1.1, Nat.eq_of_beq_eq_true h1.2.1, Nat.eq_of_beq_eq_true h1.2.2]
    · simp only [Bool.and_eq_true] at h1; rw [Nat.eq_of_beq_eq_true h1.1, Array.toList_inj.1 (eqL_eq hi h1.2.1), Array.toList_inj.1 (eqL_eq hi h1.2.2)]
    · rfl
    · rfl
    · rfl
    · cases h1
noncomputable def eqO (a b : AObj) : Bool :=
  match a, b with
  | .row c e p, .row d f q => eqL (eqW 40) c d && (Nat.beq e f && (p == q))
  | .win c, .win d => eqL (eqW 40) c d
  | .opq k l, .opq j m => Nat.beq k j && eqL (eqW 40) l m
  | _, _ => false
theorem eqO_eq {a b : AObj} (h : eqO a b = true) : a = b := by
  have hi := fun a b => eqW_eq 40 a b
  unfold eqO at h
  split at h
  · simp only [Bool.and_eq_true] at h; rw [eqL_eq hi h.1, Nat.eq_of_beq_eq_true h.2.1, eq_of_beq h.2.2]
  · rw [eqL_eq hi h]
  · simp only [Bool.and_eq_true] at h; rw [Nat.eq_of_beq_eq_true h.1, eqL_eq hi h.2]
  · cases h
theorem eqO_loop {o : AObj} (h : eqO o o = true) : ∀ st pend tm kp nt ps as_ body d, o ≠ .loop st pend tm kp nt ps as_ body d := by
  intro st pend tm kp nt ps as_ body d e
  subst e
  cases h
/-- the other memory has all of this one -/
noncomputable def keepT (t : T AObj) : T AObj → Bool :=
  T.rec (fun _ => true) (fun _ v _ hl hr t' => T.rec false (fun l' v' r' _ _ => (Option.rec true (fun o => Option.rec false (fun o' => eqO o o') v') v) && (hl l' && hr r')) t') t
theorem keepT_get : ∀ (t t' : T AObj) (id : Nat) (o : AObj), keepT t t' = true → t.get id = some o → t'.get id = some o ∧ eqO o o = true
  | .leaf, t', id, o, _, e => by rw [T.get_leaf] at e; cases e
  | .node l v r, .leaf, id, o, h, e => by cases h
  | .node l v r, .node l' v' r', id, o, h, e => by
    have h : ((Option.rec true (fun o => Option.rec false (fun o' => eqO o o') v') v : Bool) && (keepT l l' && keepT r r')) = true := h
    simp only [Bool.and_eq_true] at h
    rw [T.get_node] at e ⊢
    split at e
    · rename_i h0
      subst e
      rw [if_pos h0]
      cases v' with
      | none => cases h.1
      | some o' =>
        have h1 : eqO o o' = true := h.1
        have := eqO_eq h1
        subst this
        exact ⟨rfl, h1⟩
    · rename_i h0
      rw [if_neg h0]
      split at e
      · rename_i h1
        rw [if_pos h1]
        exact keepT_get l l' _ o h.2.1 e
      · rename_i h1
        rw [if_neg h1]
        exact keepT_get r r' _ o h.2.2 e

/-! The rounds. -/
noncomputable def holeOf (HS : List (Nat × Nat)) (t : Nat) (v : Value) : Value := List.rec v (fun x _ ih => bi (Nat.beq x.1 t) (.iface 0 (.int .i64 (.ofNat x.2))) ih) HS
noncomputable def setHoles (HS : List (Nat × Nat)) (tm : Tm) : Tm := tm.map fun x => (x.1, holeOf HS x.1 x.2)
theorem agt_map (f : Nat → Value → Value) : ∀ (l : Tm) (t : Nat), agt (l.map fun x => (x.1, f x.1 x.2)) t = (agt l t).map (f t)
  | [], t => rfl
  | x :: l, t => by
    rw [List.map_cons, agt_cons, agt_cons, agt_map f l t]
    split
    · rename_i h; subst h; rfl
    · rfl
theorem agt_setHoles (HS : List (Nat × Nat)) (tm : Tm) (t : Nat) : agt (setHoles HS tm) t = (agt tm t).map (holeOf HS t) := agt_map (holeOf HS) tm t
theorem holeOf_cases : ∀ (HS : List (Nat × Nat)) (t : Nat) (v : Value), (∃ (j h : Nat), HS[j]? = some (t, h) ∧ holeOf HS t v = .iface 0 (.int .i64 (.ofNat h))) ∨ (holeOf HS t v = v ∧ ∀ x ∈ HS, x.1 ≠ t)
  | [], t, v => .inr ⟨rfl, by simp⟩
  | x :: HS, t, v => by
    have e : holeOf (x :: HS) t v = bi (Nat.beq x.1 t) (.iface 0 (.int .i64 (.ofNat x.2))) (holeOf HS t v) := rfl
    rw [e]
    cases hb : Nat.beq x.1 t with
    | true =>
      have := Nat.eq_of_beq_eq_true hb
      subst this
      exact .inl ⟨0, x.2, rfl, rfl⟩
    | false =>
      rcases holeOf_cases HS t v with ⟨j, h, h1, h2⟩ | ⟨h1, h2⟩
      · exact .inl ⟨j + 1, h, by simpa using h1, h2⟩
      · refine .inr ⟨h1, fun y hy => ?_⟩
        rcases List.mem_cons.1 hy with rfl | hy
        · exact Nat.ne_of_beq_eq_false hb
        · exact h2 y hy
/-- other meanings of some holes -/
def holeU (ks : List Nat) (xs : List Int) (n : Nat) (d : Value) : Value :=
  match ks, xs with
  | k :: ks, x :: xs => if n = k then .int .i64 x else holeU ks xs n d
  | _, _ => d
def updD (D : Dn) (ks : List Nat) (xs : List Int) : Dn := { D with hole := fun n => holeU ks xs n (D.hole n) }
theorem holeU_out : ∀ (ks : List Nat) (xs : List Int) (n : Nat) (d : Value), n ∉ ks → holeU ks xs n d = d
  | [], xs, n, d, _ => by cases xs <;> rfl
  | k :: ks, [], n, d, _ => rfl
  | k :: ks, x :: xs, n, d, h => by
    show (if n = k then _ else _) = d
    rw [if_neg (fun e => h (by rw [e]; exact List.mem_cons_self))]
    exact holeU_out ks xs n d (fun e => h (List.mem_cons_of_mem _ e))
theorem holeU_in : ∀ (ks : List Nat) (xs : List Int) (j n : Nat) (x : Int) (d : Value), ks.Nodup → ks[j]? = some n → xs[j]? = some x → holeU ks xs n d = .int .i64 x
  | [], xs, j, n, x, d, _, h, _ => by simp at h
  | k :: ks, [], j, n, x, d, _, _, h => by simp at h
  | k :: ks, y :: xs, 0, n, x, d, _, h, h' => by
    simp at h h'
    subst h h'
    exact if_pos rfl
  | k :: ks, y :: xs, j + 1, n, x, d, hn, h, h' => by
    have h : ks[j]? = some n := by simpa using h
    have h' : xs[j]? = some x := by simpa using h'
    have hk := List.nodup_cons.1 hn
    show (if n = k then _ else _) = _
    rw [if_neg (fun e => hk.1 (by rw [← e]; exact List.mem_of_getElem? h))]
    exact holeU_in ks xs j n x d hk.2 h h'
def optEqW (a b : Option Value) : Bool :=
  match a, b with
  | some _, some _ => true
  | _, _ => false
noncomputable def agtIs (tm : Tm) (t : Nat) (v : Value) : Bool := Option.rec false (fun u => eqW 40 u v) (agt tm t)
theorem agtIs_eq {tm : Tm} {t : Nat} {v : Value} (h : agtIs tm t v = true) : agt tm t = some v := by
  unfold agtIs at h
  cases e : agt tm t with
  | none => rw [e] at h; cases h
  | some u => rw [e] at h; rw [eqW_eq _ _ _ h]
def eqX (a b : AX) : Bool :=
  match a, b with
  | .exit i, .exit j => Nat.beq i j
  | .goto i, .goto j => Nat.beq i j
  | .ret, .ret => true
  | _, _ => false
theorem eqX_eq {a b : AX} (h : eqX a b = true) : a = b ∧ a ≠ .normal := by
  unfold eqX at h
  split at h
  · rw [Nat.eq_of_beq_eq_true h]; exact ⟨rfl, by simp⟩
  · rw [Nat.eq_of_beq_eq_true h]; exact ⟨rfl, by simp⟩
  · exact ⟨rfl, by simp⟩
  · cases h
def isNm (y : AX) : Bool :=
  match y with
  | .normal => true
  | _ => false
theorem mrel_nil {M : Mp} {ds : List Deferred} (h : MRel M [] ds) : ds = [] := by cases h; rfl
/-- a round that goes on: slots keep their values, but for those with numbers, which have these ones -/
noncomputable def goesOn (S0 SR : St) (HS : List (Nat × Nat)) (posts : List (Nat × Value)) (o : Option (AX × St)) : Bool :=
  Option.rec false (fun q => isNm q.1 && (Nat.beq q.2.df.length 0 && (Nat.ble q.2.nid SR.nid && (keepT S0.hp q.2.hp && ((S0.tm.all fun x => (HS.any fun h => Nat.beq h.1 x.1) || agtIs q.2.tm x.1 x.2) && posts.all fun x => agtIs q.2.tm x.1 x.2))))) o
/-- a round that ends the loop: these slots have what is told -/
noncomputable def endsIt (S0 SR : St) (HS : List (Nat × Nat)) (ax : AX) (outs : List (Nat × Value)) (o : Option (AX × St)) : Bool :=
  Option.rec false (fun q => eqX q.1 ax && (Nat.beq q.2.df.length 0 && (Nat.ble q.2.nid SR.nid && (keepT S0.hp q.2.hp && ((SR.tm.all fun x => (outs.any fun y => Nat.beq y.1 x.1) || (agtIs q.2.tm x.1 x.2 && (agtIs S0.tm x.1 x.2 && noH2 (HS.map fun h => h.2) 40 x.2))) && outs.all fun x => agtIs q.2.tm x.1 x.2))))) o
def cleanS (S0 : St) (HS : List (Nat × Nat)) : Prop := (S0.tm.all fun x => (HS.any fun h => Nat.beq h.1 x.1) || noH2 (HS.map fun h => h.2) 40 x.2) = true ∧ T.allO (noHO2 (HS.map fun h => h.2)) S0.hp = true ∧ (HS.map fun h => h.2).Nodup
theorem agt_mem : ∀ {l : Tm} {t : Nat} {v : Value}, agt l t = some v → (t, v) ∈ l
  | [], t, v, h => by cases h
  | x :: l, t, v, h => by
    rw [agt_cons] at h
    split at h
    · rename_i e; subst e; cases h; exact List.mem_cons_self
    · exact List.mem_cons_of_mem _ (agt_mem h)
theorem any_slot {HS : List (Nat × Nat)} {t : Nat} (h : (HS.any fun h => Nat.beq h.1 t) = true) : ∃ x ∈ HS, x.1 = t := by
  obtain ⟨x, hx, e⟩ := List.any_eq_true.1 h
  exact ⟨x, hx, Nat.eq_of_beq_eq_true e⟩
theorem loop_num {b : Code} {S0 SR : St} {ax : AX} {HS : List (Nat × Nat)} (hkp : SR.kp = S0.kp) (hnt : SR.nt = S0.nt) (hhp : SR.hp = S0.hp) (hdf : SR.df = []) (hdf0 : S0.df = []) (hrn : SR.rnd = S0.rnd) (hnid : S0.nid ≤ SR.nid)
    (hcl : cleanS S0 HS) (hsub : ∀ t v, agt SR.tm t = some v → kept S0.kp t = true)
    (Inv : List Int → Prop) (meas : List Int → Nat) (x0 : List Int) (h0 : Inv x0) (init : ∀ (t : Nat) (u : Value) (j h : Nat), agt S0.tm t = some u → HS[j]? = some (t, h) → ∃ x, x0[j]? = some x ∧ Dv P.den u x)
    (step : ∀ xs, Inv xs → ∃ (P' : Pg) (rec : CodeF), P'.prog = P.prog ∧ P'.den = updD P.den (HS.map fun h => h.2) xs ∧ CodeOkAt P' rec b ∧
      ((∃ posts ys, goesOn S0 SR HS posts (rec b { S0 with tm := setHoles HS S0.tm }) = true ∧ Inv ys ∧ meas ys < meas xs ∧ ∀ (j t h : Nat), HS[j]? = some (t, h) → ∃ u y, (t, u) ∈ posts ∧ ys[j]? = some y ∧ Dv P'.den u y) ∨
       (∃ outs, endsIt S0 SR HS ax outs (rec b { S0 with tm := setHoles HS S0.tm }) = true ∧ ∀ t u, (t, u) ∈ outs → ∀ v, agt SR.tm t = some v → ∃ z, Dv P'.den u z ∧ Dv P.den v z))) :
    ∀ B M rf a w, CInv P B M rf S0 a w → (∀ id, S0.nid ≤ id → id < SR.nid → M id = none) →
      (Code.loop b).wpIn (Fr rf) 0 P (fun e a' w' => ∃ M', e = exitOf ax ∧ CInv P B M' rf SR a' w' ∧ Evol M S0.hp.get S0.nid w M' SR.hp.get SR.nid w') a w := by
  intro B M rf a w hi hf
  obtain ⟨cl1, cl2, cl3⟩ := hcl
  let ks := HS.map fun h => h.2
  -- slots and memory have none of these symbols, but for the slots of numbers
  have slot : ∀ t v, agt S0.tm t = some v → (∀ x ∈ HS, x.1 ≠ t) → noH2 ks 40 v = true := fun t v e hne => by
    have := List.all_eq_true.1 cl1 _ (agt_mem e)
    rcases Bool.or_eq_true_iff.1 this with h | h
    · obtain ⟨x, hx, e⟩ := any_slot h; exact absurd e (hne x hx)
    · exact h
  have outN : ∀ xs (n : Nat), n ∉ ks → (updD P.den ks xs).hole n = P.den.hole n := fun xs n h => holeU_out ks xs n _ h
  have getK : ∀ (j t h : Nat), HS[j]? = some (t, h) → ks[j]? = some h := fun j t h e => by
    show (HS.map fun h => h.2)[j]? = _
    rw [List.getElem?_map, e]; rfl
  -- what holds ahead of each round
  let Rnd : List Int → Act → World → Prop := fun xs a1 w1 => ∃ (P' : Pg), P'.prog = P.prog ∧ P'.den = updD P.den ks xs ∧ CInv P' B M rf { S0 with tm := setHoles HS S0.tm } a1 w1 ∧ Evol M S0.hp.get S0.nid w M S0.hp.get S0.nid w1
  have evS : ∀ {M1 : Mp} {g1 : Mem} {n1 : Nat} {w1 w2 : World}, Evol M S0.hp.get S0.nid w1 M1 g1 n1 w2 → ∀ n2, S0.nid ≤ n2 → Evol M S0.hp.get S0.nid w1 M S0.hp.get n2 w2 := fun {M1 g1 n1 w1 w2} h n2 hn =>
    ⟨h.os, h.tape, h.output, h.size, h.frame, fun id b r hi e => .inl ⟨id, r, hi, e⟩, fun id b r hi e => .inl ⟨id, r, hi, e⟩, Ext.refl _, fun id h k => absurd h k, hn⟩
  refine wp_loop_fuel (fun n a1 w1 => ∃ xs, Inv xs ∧ meas xs < n ∧ Rnd xs a1 w1) (fun a1 w1 h => by obtain ⟨xs, _, h, _⟩ := h; omega) (fun n a1 w1 h => ?_) (meas x0 + 1) a w ⟨x0, h0, Nat.lt_succ_self _, ?_⟩
  · obtain ⟨xs, hI, hm, Q, hQp, hQd, hc, hev⟩ := h
    obtain ⟨P', rec, hp', hd', hok, hstep⟩ := step xs hI
    have hdd : P'.den = Q.den := hd'.trans hQd.symm
    have hpp : P'.prog = Q.prog := hp'.trans hQp.symm
    have hc' : CInv P' B M rf { S0 with tm := setHoles HS S0.tm } a1 w1 := hc.congr hdd hpp
    have hPP : (P' : Program) = P.prog := hp'
    -- memory behind a round, as it was
    have memB : ∀ {M1 : Mp} {hp1 : T AObj} {w2 : World}, Ext M M1 → keepT S0.hp hp1 = true → HRel P' B M1 hp1.get w2 → HRel P' B M S0.hp.get w2 := fun {M1 hp1 w2} hx hk hh => by
      refine ⟨fun id o e => ?_, fun i j b r r' hi hj e1 e2 => ?_, fun b c hb => ⟨(hh.old b c hb).1, (hc'.heap.old b c hb).2⟩⟩
      · obtain ⟨e1, e2⟩ := keepT_get _ _ id o hk e
        obtain ⟨b1, r1, ob1, k1, k2, k3, k4⟩ := hh.has id o e1
        obtain ⟨b0, r0, ob0, q1, q2, q3, q4⟩ := hc'.heap.has id o e
        rw [hx _ _ q1] at k1
        cases k1
        exact ⟨_, _, ob1, q1, k2, k3, q4.back hx (eqO_loop e2) k4⟩
      · cases hi' : S0.hp.get i with
        | none => rw [hi'] at hi; cases hi
        | some oi =>
          cases hj' : S0.hp.get j with
          | none => rw [hj'] at hj; cases hj
          | some oj =>
            obtain ⟨p1, _⟩ := keepT_get _ _ i oi hk hi'
            obtain ⟨p2, _⟩ := keepT_get _ _ j oj hk hj'
            exact hh.inj i j b r r' (by rw [p1, ← hi']; exact hi) (by rw [p2]; rfl) (hx _ _ e1) (hx _ _ e2)
    rcases hstep with ⟨posts, ys, hgo, hIy, hmy, hpost⟩ | ⟨outs, hend, hout⟩
    · cases hr : rec b { S0 with tm := setHoles HS S0.tm } with
      | none => rw [hr] at hgo; cases hgo
      | some q =>
        obtain ⟨y, s1⟩ := q
        rw [hr] at hgo
        have hgo : (isNm y && (Nat.beq s1.df.length 0 && (Nat.ble s1.nid SR.nid && (keepT S0.hp s1.hp && ((S0.tm.all fun x => (HS.any fun h => Nat.beq h.1 x.1) || agtIs s1.tm x.1 x.2) && posts.all fun x => agtIs s1.tm x.1 x.2))))) = true := hgo
        simp only [Bool.and_eq_true] at hgo
        obtain ⟨g1, g0, g2, g3, g4, g5⟩ := hgo
        have g0 : s1.df = [] := List.length_eq_zero_iff.1 (Nat.eq_of_beq_eq_true g0)
        have g2 := Nat.le_of_ble_eq_true g2
        obtain ⟨c1, c2, c3, c4⟩ := hok _ _ _ hr
        have := c4 B M rf a1 w1 hc' (fun id k1 k2 => hf id k1 (by omega))
        rw [hPP] at this
        refine wpIn_mono this ?_
        rintro e a2 w2 ⟨M1, rfl, hi1, hev1⟩
        cases y with
        | normal =>
          refine ⟨ys, hIy, by omega, { prog := P.prog, den := updD P.den ks ys, facts := [], ok := by simp }, rfl, rfl, ⟨?_, ?_, ?_, ?_, ?_, ?_⟩, evS (hev.trans hev1) _ (Nat.le_refl _)⟩
          · have h2 := hi1.defers
            rw [g0] at h2
            show MRel M S0.df a2.defers
            rw [hdf0]
            rw [mrel_nil h2]
            exact .nil
          · exact hc'.rnd
          · rw [hi1.size, c3]
          · intro t v e
            rw [show ({ S0 with tm := setHoles HS S0.tm } : St).tm = setHoles HS S0.tm from rfl, agt_setHoles] at e
            cases e0 : agt S0.tm t with
            | none => rw [e0] at e; cases e
            | some v0 =>
              rw [e0] at e
              have e : holeOf HS t v0 = v := Option.some.inj e
              rcases holeOf_cases HS t v0 with ⟨j, h, h1, h2⟩ | ⟨h1, h2⟩
              · obtain ⟨u, y, p1, p2, p3⟩ := hpost j t h h1
                have := agtIs_eq (List.all_eq_true.1 g5 _ p1)
                obtain ⟨q1, v', q2, q3⟩ := hi1.tmps t u this
                refine ⟨by rw [← c2]; exact q1, v', q2, ?_⟩
                obtain ⟨z, rfl, dz⟩ := vrel_num q3 p3.num
                have := p3.unique _ dz
                subst this
                rw [← e, h2]
                exact .sym (.hole (holeU_in ks ys j h y _ cl3 (getK j t h h1) p2)) (.inl (Nat.zero_le _))
              · have hk : agtIs s1.tm t v0 = true := by
                  have := List.all_eq_true.1 g4 _ (agt_mem e0)
                  rcases Bool.or_eq_true_iff.1 this with h | h
                  · obtain ⟨x, hx, e⟩ := any_slot h; exact absurd e (h2 x hx)
                  · exact h
                obtain ⟨q1, v', q2, q3⟩ := hi1.tmps t v0 (agtIs_eq hk)
                refine ⟨by rw [← c2]; exact q1, v', q2, ?_⟩
                rw [← e, h1]
                obtain ⟨_, v'', _, q4⟩ := hc'.tmps t v0 (by rw [show ({ S0 with tm := setHoles HS S0.tm } : St).tm = setHoles HS S0.tm from rfl, agt_setHoles, e0]; exact congrArg some h1)
                refine VRel.den2 (P := P') (k := ks) (by rw [hd']; exact ⟨rfl, rfl, rfl⟩) ?_ ?_ 40 v0 v' (slot t v0 e0 h2) (q4.back hev1.ext q3)
                · rw [hd']; rfl
                · intro n hn
                  rw [hd']
                  exact (outN ys n hn).trans (outN xs n hn).symm
          · refine HRel.den2 (P := P') (k := ks) (by rw [hd']; exact ⟨rfl, rfl, rfl⟩) hp'.symm ?_ ?_ ?_ ?_ (fun id o e => T.allO_get S0.hp id o cl2 e) (memB hev1.ext g3 hi1.heap)
            · rw [hd']; rfl
            · intro n hn
              rw [hd']
              exact (outN ys n hn).trans (outN xs n hn).symm
            · rw [hd']; rfl
            · rw [hd']; rfl
          · exact hi1.base_
        | exit id => cases g1
        | goto l => cases g1
        | ret => cases g1
    · cases hr : rec b { S0 with tm := setHoles HS S0.tm } with
      | none => rw [hr] at hend; cases hend
      | some q =>
        obtain ⟨y, s1⟩ := q
        rw [hr] at hend
        have hend : (eqX y ax && (Nat.beq s1.df.length 0 && (Nat.ble s1.nid SR.nid && (keepT S0.hp s1.hp && ((SR.tm.all fun x => (outs.any fun y => Nat.beq y.1 x.1) || (agtIs s1.tm x.1 x.2 && (agtIs S0.tm x.1 x.2 && noH2 (HS.map fun h => h.2) 40 x.2))) && outs.all fun x => agtIs s1.tm x.1 x.2))))) = true := hend
        simp only [Bool.and_eq_true] at hend
        obtain ⟨g1, g0, g2, g3, g4, g5⟩ := hend
        have g0 : s1.df = [] := List.length_eq_zero_iff.1 (Nat.eq_of_beq_eq_true g0)
        have g2 := Nat.le_of_ble_eq_true g2
        obtain ⟨g1, hny⟩ := eqX_eq g1
        subst g1
        obtain ⟨c1, c2, c3, c4⟩ := hok _ _ _ hr
        have := c4 B M rf a1 w1 hc' (fun id k1 k2 => hf id k1 (by omega))
        rw [hPP] at this
        refine wpIn_mono this ?_
        rintro e a2 w2 ⟨M1, rfl, hi1, hev1⟩
        have back : ∀ v v', noH2 ks 40 v = true → VRel P' M1 v v' → VRel P M1 v v' := fun v v' hn hv => by
          refine VRel.den2 (P := P') (k := ks) (by rw [hd']; exact ⟨rfl, rfl, rfl⟩) ?_ ?_ 40 v v' hn hv
          · rw [hd']; rfl
          · intro n hn
            rw [hd']
            exact (outN xs n hn).symm
        have fin : CInv P B M rf SR a2 w2 := by
          refine ⟨?_, by rw [hrn]; exact hi.rnd, by rw [hi1.size, c3, hnt], ?_, ?_, hi1.base_⟩
          · have h2 := hi1.defers
            rw [g0] at h2
            rw [hdf]
            rw [mrel_nil h2]
            exact .nil
          · intro t v e
            refine ⟨by rw [hkp]; exact hsub t v e, ?_⟩
            have := List.all_eq_true.1 g4 _ (agt_mem e)
            rcases Bool.or_eq_true_iff.1 this with h | h
            · obtain ⟨⟨t', u⟩, hx, e'⟩ := List.any_eq_true.1 h
              have e' := Nat.eq_of_beq_eq_true e'
              subst e'
              have := agtIs_eq (List.all_eq_true.1 g5 _ hx)
              obtain ⟨_, v', q2, q3⟩ := hi1.tmps _ u this
              obtain ⟨z, d1, d2⟩ := hout _ u hx v e
              obtain ⟨z', rfl, d3⟩ := vrel_num q3 d1.num
              have := d1.unique _ d3
              subst this
              exact ⟨_, q2, d2.vrel⟩
            · simp only [Bool.and_eq_true] at h
              obtain ⟨_, v', q2, q3⟩ := hi1.tmps t v (agtIs_eq h.1)
              obtain ⟨_, v0, _, p3⟩ := hi.tmps t v (agtIs_eq h.2.1)
              exact ⟨v', q2, p3.back hev1.ext (back v v' h.2.2 q3)⟩
          · rw [hhp]
            refine HRel.den2 (P := P') (k := ks) (by rw [hd']; exact ⟨rfl, rfl, rfl⟩) hp'.symm ?_ ?_ ?_ ?_ (fun id o e => T.allO_get S0.hp id o cl2 e) (memB hev1.ext g3 hi1.heap)
            · rw [hd']; rfl
            · intro n hn
              rw [hd']
              exact (outN xs n hn).symm
            · rw [hd']; rfl
            · rw [hd']; rfl
        have ev : Evol M S0.hp.get S0.nid w M SR.hp.get SR.nid w2 := by rw [hhp]; exact evS (hev.trans hev1) _ hnid
        cases y with
        | normal => exact absurd rfl hny
        | exit id => exact ⟨M, rfl, fin, ev⟩
        | goto l => exact ⟨M, rfl, fin, ev⟩
        | ret => exact ⟨M, rfl, fin, ev⟩
  · refine ⟨{ prog := P.prog, den := updD P.den ks x0, facts := [], ok := by simp }, rfl, rfl, ⟨hi.defers, hi.rnd, hi.size, ?_, ?_, hi.base_⟩, Evol.refl _ _ _ _⟩
    · intro t v e
      rw [show ({ S0 with tm := setHoles HS S0.tm } : St).tm = setHoles HS S0.tm from rfl, agt_setHoles] at e
      cases e0 : agt S0.tm t with
      | none => rw [e0] at e; cases e
      | some v0 =>
        rw [e0] at e
        have e : holeOf HS t v0 = v := Option.some.inj e
        obtain ⟨q1, v', q2, q3⟩ := hi.tmps t v0 e0
        refine ⟨q1, v', q2, ?_⟩
        rcases holeOf_cases HS t v0 with ⟨j, h, h1, h2⟩ | ⟨h1, h2⟩
        · obtain ⟨x, p1, p2⟩ := init t v0 j h e0 h1
          obtain ⟨z, rfl, dz⟩ := vrel_num q3 p2.num
          have := p2.unique _ dz
          subst this
          rw [← e, h2]
          exact .sym (.hole (holeU_in ks x0 j h x _ cl3 (getK j t h h1) p1)) (.inl (Nat.zero_le _))
        · rw [← e, h1]
          exact VRel.den2 (P := P) (P' := { prog := P.prog, den := updD P.den ks x0, facts := [], ok := by simp }) (k := ks) ⟨rfl, rfl, rfl⟩ rfl (fun n hn => outN x0 n hn) 40 v0 v' (slot t v0 e0 h2) q3
    · exact HRel.den2 (P := P) (P' := { prog := P.prog, den := updD P.den ks x0, facts := [], ok := by simp }) (k := ks) ⟨rfl, rfl, rfl⟩ rfl rfl (fun n hn => outN x0 n hn) rfl rfl (fun id o e => T.allO_get S0.hp id o cl2 e) hi.heap
end Sy
end Go.Proofs.Ytlmnhlmgbcpclaa
