import Derived.Test.YtlmnhlmgbcpclaaSZ
set_option linter.unusedSimpArgs false
set_option linter.unusedVariables false
namespace Go.Proofs.Ytlmnhlmgbcpclaa
namespace Sy
variable {P : Pg}
open Go.RowKit

/-! Loops by what they keep: numbers in slots, told by holes. -/

def loopsOf : Code → List Code
  | .seq a b => loopsOf a ++ loopsOf b
  | .cond _ a b => loopsOf a ++ loopsOf b
  | .block _ c => loopsOf c
  | .loop c => .loop c :: loopsOf c
  | .scope c => loopsOf c
  | _ => []
/-- the first region of a code -/
def firstR : Code → Nat
  | .region id _ _ => id + 1
  | .seq a b => match firstR a with
    | 0 => firstR b
    | n => n
  | .cond _ a b => match firstR a with
    | 0 => firstR b
    | n => n
  | .block _ c => firstR c
  | .loop c => firstR c
  | .scope c => firstR c
  | _ => 0
/-- is it the loop whose first region is this one? -/
def isLoop (key : Nat) : Code → Bool
  | .loop c => Nat.beq (firstR c) key
  | _ => false
theorem isLoop_loop {key : Nat} {c : Code} (h : isLoop key c = true) : ∃ b, c = .loop b := by
  cases c <;> first | cases h | exact ⟨_, rfl⟩
noncomputable def evCL (hk : Code → Bool) (cs : CodeF) (P : Pd) (callF : CallF) (n : Nat) : CodeF := Nat.rec (fun _ _ => none) (fun _ ih c s => bi (hk c) (cs c s) (codeSel c P callF ih s)) n
def CodeOkAt (P : Pg) (rec : CodeF) (c : Code) : Prop := ∀ s x s', rec c s = some (x, s') → s.nid ≤ s'.nid ∧ s'.kp = s.kp ∧ s'.nt = s.nt ∧
  ∀ B M rf a w, CInv P B M rf s a w → (∀ id, s.nid ≤ id → id < s'.nid → M id = none) → c.wpIn (Fr rf) 0 P (fun e a' w' => ∃ M', e = exitOf x ∧ CInv P B M' rf s' a' w' ∧ Evol M s.hp.get s.nid w M' s'.hp.get s'.nid w') a w
section
variable {callF : CallF}
theorem code_okL (hc : CallOk P callF) (hm : P.prog.follows .mixedOrders = true) {hk : Code → Bool} {cs : CodeF} {Ls : List Code} (hcs : ∀ c ∈ Ls, hk c = true → CodeOkAt P cs c) (hlp : ∀ c, hk c = true → ∃ b, c = .loop b) (n : Nat) : ∀ c, (∀ l ∈ loopsOf c, l ∈ Ls) → CodeOkAt P (evCL hk cs P callF n) c := by
  induction n using Nat.strongRecOn with
  | _ n ih =>
  cases n with
  | zero => intro c _ s x s' h; cases h
  | succ n =>
    have ihn := ih n (Nat.lt_succ_self n)
    intro c hL s x s' h
    cases hkc : hk c with
    | true =>
      have h : bi (hk c) (cs c s) (codeSel c P callF (evCL hk cs P callF n) s) = some (x, s') := h
      rw [hkc] at h
      obtain ⟨b, rfl⟩ := hlp c hkc
      exact hcs _ (hL _ (by simp [loopsOf])) hkc s x s' h
    | false =>
    have h : bi (hk c) (cs c s) (codeSel c P callF (evCL hk cs P callF n) s) = some (x, s') := h
    rw [hkc] at h
    have h : codeSel c P callF (evCL hk cs P callF n) s = some (x, s') := h
    have out : ∀ {y : AX}, (some (y, s) : Option (AX × St)) = some (x, s') → (∀ rf (Q : Exit → Act → World → Prop) a w, Q (exitOf y) a w → c.wpIn (Fr rf) 0 P Q a w) →
        s.nid ≤ s'.nid ∧ s'.kp = s.kp ∧ s'.nt = s.nt ∧ ∀ B M rf a w, CInv P B M rf s a w → (∀ id, s.nid ≤ id → id < s'.nid → M id = none) →
          c.wpIn (Fr rf) 0 P (fun e a' w' => ∃ M', e = exitOf x ∧ CInv P B M' rf s' a' w' ∧ Evol M s.hp.get s.nid w M' s'.hp.get s'.nid w') a w := by
      intro y hy hwp
      cases hy
      exact ⟨Nat.le_refl _, rfl, rfl, fun B M rf a w hi _ => hwp rf _ a w ⟨M, rfl, hi, Evol.refl _ _ _ _⟩⟩
    cases c with
    | skip => exact out h fun rf Q a w hq => wpIn_skip hq
    | label l => exact out h fun rf Q a w hq => wpIn_label hq
    | ret => exact out h fun rf Q a w hq => wpIn_ret hq
    | exit id => exact out h fun rf Q a w hq => wpIn_exit hq
    | goto l => exact out h fun rf Q a w hq => wpIn_goto hq
    | scope c =>
      have h : cScope c P callF (evCL hk cs P callF n) s = some (x, s') := h
      obtain ⟨⟨y, s1⟩, hr, h2⟩ := ob_some h
      have hy : y = x ∧ s1 = s' ∧ ∀ l, x ≠ .goto l := by cases y <;> cases h2 <;> exact ⟨rfl, rfl, by simp⟩
      obtain ⟨rfl, rfl, hg⟩ := hy
      have hL1 : ∀ l ∈ loopsOf c, l ∈ Ls := hL
      obtain ⟨a1, a2, a3, a4⟩ := ihn _ hL1 _ _ _ hr
      refine ⟨a1, a2, a3, fun B M rf a w hi hf => wpIn_scope (wpIn_mono (a4 B M rf a w hi hf) ?_)⟩
      rintro e a' w' ⟨M', rfl, hi', hev⟩
      refine ⟨?_, M', rfl, hi', hev⟩
      cases y with
      | goto l => exact absurd rfl (hg l)
      | normal => intro l e; cases e
      | exit id => intro l e; cases e
      | ret => intro l e; cases e
    | refuse why => cases h
    | rangeFunc f ps as_ body => exact ok_range (rec := evCL hk cs P callF n) hc h
    | region id ops draw => exact ok_region (rec := evCL hk cs P callF n) hc hm h
    | seq c1 c2 =>
      have h : thenN (evCL hk cs P callF n c1 s) (evCL hk cs P callF n c2) = some (x, s') := h
      have hL1 : ∀ l ∈ loopsOf c1, l ∈ Ls := fun l hl => hL l (List.mem_append.2 (.inl hl))
      have hL2 : ∀ l ∈ loopsOf c2, l ∈ Ls := fun l hl => hL l (List.mem_append.2 (.inr hl))
      rcases thenN_some h with ⟨s1, h1, h2⟩ | ⟨h1, hne⟩
      · obtain ⟨a1, a2, a3, a4⟩ := ihn _ hL1 _ _ _ h1
        obtain ⟨b1, b2, b3, b4⟩ := ihn _ hL2 _ _ _ h2
        refine ⟨Nat.le_trans a1 b1, b2.trans a2, b3.trans a3, fun B M rf a w hi hf => wpIn_seq (wpIn_mono (a4 B M rf a w hi fun id k1 k2 => hf id k1 (by omega)) ?_)⟩
        rintro e a' w' ⟨M', rfl, hi', hev⟩
        refine wpIn_mono (b4 B M' rf a' w' hi' fun id k1 k2 => ?_) ?_
        · cases e : M' id with
          | none => rfl
          | some z => have := hev.dom id (hf id (by omega) k2) (by rw [e]; simp); omega
        · rintro e a2 w2 ⟨M2, rfl, hi2, hev2⟩
          exact ⟨M2, rfl, hi2, hev.trans hev2⟩
      · obtain ⟨a1, a2, a3, a4⟩ := ihn _ hL1 _ _ _ h1
        refine ⟨a1, a2, a3, fun B M rf a w hi hf => wpIn_seq (wpIn_mono (a4 B M rf a w hi hf) ?_)⟩
        rintro e a' w' ⟨M', rfl, hi', hev⟩
        cases x with
        | normal => exact absurd rfl hne
        | exit id => exact ⟨M', rfl, hi', hev⟩
        | goto l => exact ⟨M', rfl, hi', hev⟩
        | ret => exact ⟨M', rfl, hi', hev⟩
    | cond c x1 y1 =>
      have h : condV (evX [] s.tm c) (evCL hk cs P callF n x1 s) (evCL hk cs P callF n y1 s) = some (x, s') := h
      obtain ⟨v, hv, h⟩ := ob_some h
      cases v with
      | bool b =>
        have h : bi b (evCL hk cs P callF n x1 s) (evCL hk cs P callF n y1 s) = some (x, s') := h
        have hev : ∀ B M rf a w, CInv P B M rf s a w → a.eval c = .bool b := fun B M rf a w hi => by
          have := hi.erel.erel c _ hv
          generalize a.eval c = z at this
          cases this
          rfl
        have hL1 : ∀ l ∈ loopsOf x1, l ∈ Ls := fun l hl => hL l (List.mem_append.2 (.inl hl))
        have hL2 : ∀ l ∈ loopsOf y1, l ∈ Ls := fun l hl => hL l (List.mem_append.2 (.inr hl))
        rcases bi_some h with ⟨e, h2⟩ | ⟨e, h2⟩ <;> clear h <;> subst e
        · obtain ⟨a1, a2, a3, a4⟩ := ihn _ hL1 _ _ _ h2
          exact ⟨a1, a2, a3, fun B M rf a w hi hf => wpIn_cond_true (hev B M rf a w hi) (a4 B M rf a w hi hf)⟩
        · obtain ⟨a1, a2, a3, a4⟩ := ihn _ hL2 _ _ _ h2
          exact ⟨a1, a2, a3, fun B M rf a w hi hf => wpIn_cond_false (hev B M rf a w hi) (a4 B M rf a w hi hf)⟩
      | _ => cases h
    | block id c =>
      have h : outOf id (evCL hk cs P callF n c s) = some (x, s') := h
      have hL1 : ∀ l ∈ loopsOf c, l ∈ Ls := hL
      rcases outOf_some h with ⟨h1, rfl⟩ | ⟨h1, hne⟩
      · obtain ⟨a1, a2, a3, a4⟩ := ihn _ hL1 _ _ _ h1
        refine ⟨a1, a2, a3, fun B M rf a w hi hf => wpIn_block (wpIn_mono (a4 B M rf a w hi hf) ?_)⟩
        rintro e a' w' ⟨M', rfl, hi', hev⟩
        show (if id = id then _ else _)
        rw [if_pos rfl]
        exact ⟨M', rfl, hi', hev⟩
      · obtain ⟨a1, a2, a3, a4⟩ := ihn _ hL1 _ _ _ h1
        refine ⟨a1, a2, a3, fun B M rf a w hi hf => wpIn_block (wpIn_mono (a4 B M rf a w hi hf) ?_)⟩
        rintro e a' w' ⟨M', rfl, hi', hev⟩
        cases x with
        | normal => exact ⟨M', rfl, hi', hev⟩
        | goto l => exact ⟨M', rfl, hi', hev⟩
        | ret => exact ⟨M', rfl, hi', hev⟩
        | exit id' =>
          show (if id' = id then _ else _)
          rw [if_neg (fun e => hne (by rw [e]))]
          exact ⟨M', rfl, hi', hev⟩
    | loop c =>
      have hL1 : ∀ l ∈ loopsOf c, l ∈ Ls := fun l hl => hL l (List.mem_cons_of_mem _ hl)
      have unf : ∀ m s1, evCL hk cs P callF (m + 1) (.loop c) s1 = thenN (evCL hk cs P callF m c s1) (evCL hk cs P callF m (.loop c)) := fun m s1 => by
        show bi (hk (.loop c)) _ _ = _
        rw [hkc]
        rfl
      have hle : ∀ m, m ≤ n + 1 → ∀ s1, evCL hk cs P callF m (.loop c) s1 = some (x, s') → s1.nid ≤ s'.nid ∧ s'.kp = s1.kp ∧ s'.nt = s1.nt := by
        intro m
        induction m with
        | zero => intro _ s1 h1; cases h1
        | succ m ihm =>
          intro hmn s1 h1
          have h1 : thenN (evCL hk cs P callF m c s1) (evCL hk cs P callF m (.loop c)) = some (x, s') := by rw [← unf]; exact h1
          rcases thenN_some h1 with ⟨s2, h2, h3⟩ | ⟨h2, _⟩
          · obtain ⟨a1, a2, a3, _⟩ := ih m (by omega) _ hL1 _ _ _ h2
            obtain ⟨b1, b2, b3⟩ := ihm (by omega) s2 h3
            exact ⟨Nat.le_trans a1 b1, b2.trans a2, b3.trans a3⟩
          · obtain ⟨a1, a2, a3, _⟩ := ih m (by omega) _ hL1 _ _ _ h2
            exact ⟨a1, a2, a3⟩
      have h : evCL hk cs P callF (n + 1) (.loop c) s = some (x, s') := by rw [unf]; exact h
      obtain ⟨l1, l2, l3⟩ := hle (n + 1) (Nat.le_refl _) s h
      refine ⟨l1, l2, l3, fun B M rf a w hi hf => ?_⟩
      refine wp_loop_fuel (fun m a1 w1 => m ≤ n + 1 ∧ ∃ s1 M1, evCL hk cs P callF m (.loop c) s1 = some (x, s') ∧ CInv P B M1 rf s1 a1 w1 ∧ Evol M s.hp.get s.nid w M1 s1.hp.get s1.nid w1 ∧ ∀ id, s1.nid ≤ id → id < s'.nid → M1 id = none)
        (fun a1 w1 hx => by obtain ⟨_, s1, M1, h1, _⟩ := hx; cases h1) (fun m a1 w1 hx => ?_) (n + 1) a w ⟨Nat.le_refl _, s, M, h, hi, Evol.refl _ _ _ _, hf⟩
      obtain ⟨hmn, s1, M1, h1, hi1, hev1, hf1⟩ := hx
      have h1 : thenN (evCL hk cs P callF m c s1) (evCL hk cs P callF m (.loop c)) = some (x, s') := by rw [← unf]; exact h1
      rcases thenN_some h1 with ⟨s2, h2, h3⟩ | ⟨h2, hne⟩
      · obtain ⟨a1', a2, a3, a4⟩ := ih m (by omega) _ hL1 _ _ _ h2
        have hl := (hle m (by omega) s2 h3).1
        refine wpIn_mono (a4 B M1 rf a1 w1 hi1 fun id k1 k2 => hf1 id k1 (by omega)) ?_
        rintro e a2 w2 ⟨M2, rfl, hi2, hev2⟩
        refine ⟨by omega, s2, M2, h3, hi2, hev1.trans hev2, fun id k1 k2 => ?_⟩
        cases e : M2 id with
        | none => rfl
        | some z => have := hev2.dom id (hf1 id (by omega) k2) (by rw [e]; simp); omega
      · obtain ⟨a1', a2, a3, a4⟩ := ih m (by omega) _ hL1 _ _ _ h2
        refine wpIn_mono (a4 B M1 rf a1 w1 hi1 hf1) ?_
        rintro e a2 w2 ⟨M2, rfl, hi2, hev2⟩
        cases x with
        | normal => exact absurd rfl hne
        | exit id => exact ⟨M2, rfl, hi2, hev1.trans hev2⟩
        | goto l => exact ⟨M2, rfl, hi2, hev1.trans hev2⟩
        | ret => exact ⟨M2, rfl, hi2, hev1.trans hev2⟩
end
theorem ok_bodyL {rec : CodeF} {f : FuncId} {x : Func × Code} (hc : CodeOkAt P rec x.2) (hx : bodyOf P f = some x) {args : List Value} {hp : T AObj} {nid : Nat} {v : Value} {hp' : T AObj} {nid' : Nat}
    (h : runBody P rec x args hp nid = some (v, hp', nid')) : nid ≤ nid' ∧ ∀ B M (args' : Array Value) w, LRel P M args args'.toList → HRel P B M hp.get w → B ≤ w.heap.size → (∀ id, nid ≤ id → id < nid' → M id = none) →
    Calls P f args' w fun e w' => ∃ M' v', e = .returned v' ∧ VRel P M' v v' ∧ HRel P B M' hp'.get w' ∧ Evol M hp.get nid w M' hp'.get nid' w' := by
  obtain ⟨hlen, h⟩ := ck_some h
  obtain ⟨⟨y, s'⟩, hr, h⟩ := ob_some h
  obtain ⟨hl, h⟩ := ck_some h
  obtain ⟨hp2, hdel, h⟩ := ob_some h
  obtain ⟨l, hres, h⟩ := ob_some h
  cases h
  have hlen := Nat.le_of_ble_eq_true hlen
  obtain ⟨a1, a2, a3, a4⟩ := hc _ _ _ hr
  refine ⟨a1, fun B M args' w hargs hh hB hf => ?_⟩
  obtain ⟨hfn, hbody⟩ := bodyOf_some hx
  refine (callsIn_wide (n := 0)).1 (callsIn_of_wp_marks (F := Fence.wide) (n := 0) hfn hbody trivial (wpIn_mono (a4 B M none _ w ⟨.nil, trivial, ?_, ?_, hh, hB⟩ hf) ?_))
  · have := hargs.1
    simp at this ⊢
    omega
  · intro t u e
    obtain ⟨k1, k, k2, k3⟩ := setAll_spec _ _ _ _ e
    simp only [Nat.zero_add] at k2
    subst k2
    obtain ⟨u', e', hru⟩ := hargs.get k3
    refine ⟨k1, u', ?_, hru⟩
    have hlt := (List.getElem?_eq_some_iff.1 e').1
    simp only
    rw [Array.getElem?_append_left (by simpa using hlt)]
    simpa using e'
  · rintro e a' w' ⟨M', rfl, hi, hev⟩
    have hb : LeavesInM Fence.wide 0 P x.1 a'.tmps (fun e w' => ∃ M' v', e = .returned v' ∧ VRel P M' (tupled l) v' ∧ HRel P B M' hp'.get w' ∧ Evol M hp.get nid w M' hp'.get s'.nid w') a'.defers .returning w' := by
      refine leaves_ok hi.defers s'.hp hp' s'.nid w' hi.heap hdel fun w2 hh2 hev2 => ?_
      obtain ⟨vs', k1, k2⟩ := results_spec (a := a') hi.tmps hh2 _ _ hres
      have hres' : (results x.1 a'.tmps).run P w2 = .ok (if hs : vs'.toArray.size = 1 then vs'.toArray[0] else .tuple vs'.toArray) w2 := by
        have e0 : results x.1 a'.tmps = (do let vs ← x.1.results.mapM (resSem a'); pure (if h : vs.size = 1 then vs[0] else .tuple vs)) := by
          have hg : ∀ g : ResultVar → Sem Value, g = resSem a' → (do let vs ← x.1.results.mapM g; pure (if h : vs.size = 1 then vs[0] else .tuple vs) : Sem Value) = (do let vs ← x.1.results.mapM (resSem a'); pure (if h : vs.size = 1 then vs[0] else .tuple vs)) := by
            rintro g rfl; rfl
          exact hg _ (by funext r; cases r <;> rfl)
        rw [e0, Sem.run_bind, Array.mapM_eq_mapM_toList, Sem.run_map, k1]
        rfl
      exact ⟨_, hres', M', _, rfl, tupled_rel k2, hh2, hev.trans hev2⟩
    cases y with
    | normal => exact hb
    | ret => exact hb
    | exit id => cases hl
    | goto l => cases hl

noncomputable def fnRun (P : Pd) (hk : Code → Bool) (cs : CodeF) (callF : CallF) (k f : Nat) (args : List Value) (hp : T AObj) (nid : Nat) : Option (Value × T AObj × Nat) := ob (bodyOf P f) fun x => runBody P (evCL hk cs P callF k) x args hp nid

/-! Several symbols. -/
theorem any_mem {k : List Nat} {m : Nat} (h : m ∈ k) : k.any (Nat.beq m) = true := List.any_eq_true.2 ⟨m, h, Nat.beq_refl m⟩
/-- the symbol k is not in it -/
def noHB2 (k : List Nat) (ih : Value → Bool) (v : Value) : Bool :=
  match v with
  | .iface tg p => match p with
    | .int _ (.ofNat n) => !(k.any (Nat.beq n))
    | .tuple as => !(Nat.beq tg 94) && as.toList.all ih
    | _ => false
  | .tuple as => as.toList.all ih
  | .agg as => as.toList.all ih
  | .func _ a c => a.toList.all ih && c.toList.all ih
  | _ => true
noncomputable def noH2 (k : List Nat) (n : Nat) : Value → Bool := Nat.rec (fun _ => false) (fun _ ih => noHB2 k ih) n
theorem Dv.den2 {D D' : Dn} {k : List Nat} (hi : D'.int = D.int) (hh : ∀ n, n ∉ k → D'.hole n = D.hole n) : ∀ (n : Nat) (v : Value) (x : Int), noH2 k n v = true → Dv D v x → Dv D' v x
  | 0, v, x, h, _ => by cases h
  | n + 1, v, x, h, d => by
    cases d with
    | lit m => exact .lit _
    | @hole m x hx =>
      have h : (!(k.any (Nat.beq m))) = true := h
      refine .hole ?_
      rw [hh m (fun e => by rw [any_mem e] at h; cases h)]
      exact hx
    | @bin t a b x y ht ha hb =>
      have h : (!(Nat.beq t 94) && [a, b].all (noH2 k n)) = true := h
      have h := (Bool.and_eq_true_iff.1 h).2
      simp only [List.all_cons, List.all_nil, Bool.and_true, Bool.and_eq_true] at h
      exact .bin ht (Dv.den2 hi hh n a x h.1 ha) (Dv.den2 hi hh n b y h.2 hb)
    | @app t as xs ht hs ha =>
      have h : (!(Nat.beq t 94) && as.toList.all (noH2 k n)) = true := h
      have h := (Bool.and_eq_true_iff.1 h).2
      rw [← hi]
      exact .app ht hs fun i v x hv hx => Dv.den2 hi hh n v x (all_at h hv) (ha i v x hv hx)
theorem DvL.den2 {D D' : Dn} {k : List Nat} (hi : D'.int = D.int) (hh : ∀ n, n ∉ k → D'.hole n = D.hole n) {n : Nat} {as : List Value} {xs : List Int} (h : as.all (noH2 k n) = true) (hd : DvL D as xs) : DvL D' as xs :=
  ⟨hd.1, fun i v x e e' => Dv.den2 hi hh n v x (List.all_eq_true.1 h v (List.mem_of_getElem? e)) (hd.2 i v x e e')⟩
theorem VRel.den2 {P' : Pg} {M : Mp} {k : List Nat} (hx : P'.den.slc = P.den.slc ∧ P'.den.str = P.den.str ∧ P'.den.ro = P.den.ro := by exact ⟨rfl, rfl, rfl⟩) (hi : P'.den.int = P.den.int) (hh : ∀ n, n ∉ k → P'.den.hole n = P.den.hole n) : ∀ (n : Nat) (v v' : Value), noH2 k n v = true → VRel P M v v' → VRel P' M v v'
  | 0, v, v', h, _ => by cases h
  | n + 1, v, v', h, d => by
    cases d with
    | bool b => exact .bool b
    | int kd m => exact .int kd m
    | str s => exact .str s
    | nilp => exact .nilp
    | ptr h1 => exact .ptr h1
    | nils a c => exact .nils a c
    | slc h1 hc => exact .slc h1 hc
    | slo h1 hn => exact .slo h1 hn
    | slx h1 hn => exact .slx h1 hn
    | nilm => exact .nilm
    | nilf => exact .nilf
    | nili => exact .nili
    | func f ha h1 hc h2 =>
      have h := Bool.and_eq_true_iff.1 h
      exact .func f ha (fun i u u' e e' => VRel.den2 hx hi hh n u u' (all_at h.1 e) (h1 i u u' e e')) hc (fun i u u' e e' => VRel.den2 hx hi hh n u u' (all_at h.2 e) (h2 i u u' e e'))
    | yld h1 => exact .yld h1
    | sym d ht => exact .sym (d.den2 hi hh (n + 1) _ _ h) ht
    | @hol m h1 h2 h3 =>
      have h : (!(k.any (Nat.beq m))) = true := h
      have e : P'.den.hole m = P.den.hole m := hh m (fun e => by rw [any_mem e] at h; cases h)
      rw [← e] at h1 h2 h3 ⊢
      exact .hol h1 h2 h3
    | @osl id b r m c t h1 hn =>
      have h : [Value.int .i64 (.ofNat id), t].all (noH2 k n) = true := h
      simp only [List.all_cons, List.all_nil, Bool.and_true, Bool.and_eq_true] at h
      exact .osl h1 (hn.den2 hi hh n _ _ h.2)
    | osk h1 hn => exact .osk h1 hn
    | hsl h1 hn => cases h
    | @osm id b r m c N t h1 hn hN =>
      have h : [Value.int .i64 (.ofNat id), .int .i64 (.ofNat N), t].all (noH2 k n) = true := h
      simp only [List.all_cons, List.all_nil, Bool.and_true, Bool.and_eq_true] at h
      exact .osm h1 (hn.den2 hi hh n _ _ h.2.2) hN
    | opp h1 => exact .opp h1
    | @fvl zs c as xs hz hd h1 =>
      have h : zs.toList.all (noH2 k n) = true := h
      rw [hz, List.all_cons, Bool.and_eq_true] at h
      rw [← hx.1] at h1 ⊢
      exact .fvl hz (hd.den2 hi hh h.2) h1
    | @fst zs c as xs hz hd =>
      have h : zs.toList.all (noH2 k n) = true := h
      rw [hz, List.all_cons, Bool.and_eq_true] at h
      rw [← hx.2.1]
      exact .fst hz (hd.den2 hi hh h.2)
    | @fpp zs c off n2 k2 b r l cap ix as xs hz hd hk hl hs =>
      have h : zs.toList.all (noH2 k n) = true := h
      rw [hz] at h
      simp only [List.all_cons, Bool.and_eq_true] at h
      rw [← hx.1] at hs
      exact .fpp hz (hd.den2 hi hh h.2.2.2.2) (hk.den2 hi hh n _ _ h.2.2.2.1) hl hs
    | agg ha h1 =>
      have h : _ = true := h
      exact .agg ha fun i u u' e e' => VRel.den2 hx hi hh n u u' (all_at h e) (h1 i u u' e e')
    | tup ha h1 =>
      have h : _ = true := h
      exact .tup ha fun i u u' e e' => VRel.den2 hx hi hh n u u' (all_at h e) (h1 i u u' e e')
theorem LRel.den2 {P' : Pg} {M : Mp} {k : List Nat} {n : Nat} (hx : P'.den.slc = P.den.slc ∧ P'.den.str = P.den.str ∧ P'.den.ro = P.den.ro := by exact ⟨rfl, rfl, rfl⟩) (hi : P'.den.int = P.den.int) (hh : ∀ n, n ∉ k → P'.den.hole n = P.den.hole n) {l l' : List Value} (h : l.all (noH2 k n) = true) (hl : LRel P M l l') : LRel P' M l l' :=
  ⟨hl.1, fun i v v' e e' => VRel.den2 hx hi hh n v v' (List.all_eq_true.1 h v (List.mem_of_getElem? e)) (hl.2 i v v' e e')⟩
/-- the symbol k is not in a block, which no call is to come back to -/
noncomputable def noHO2 (k : List Nat) (o : AObj) : Bool :=
  match o with
  | .row c _ _ => c.all (noH2 k 40)
  | .win c => c.all (noH2 k 40)
  | .opq _ l => l.all (noH2 k 40)
  | .dfr => true
  | .loop .. => false
theorem ORel.den2 {P' : Pg} {M : Mp} {k : List Nat} {r : Nat} {o : AObj} {ob : Obj} (hx : P'.den.slc = P.den.slc ∧ P'.den.str = P.den.str ∧ P'.den.ro = P.den.ro := by exact ⟨rfl, rfl, rfl⟩) (hp : P'.prog = P.prog) (hi : P'.den.int = P.den.int) (hh : ∀ n, n ∉ k → P'.den.hole n = P.den.hole n) (ho : P'.den.obj = P.den.obj) (hq : P'.den.pin = P.den.pin) (h : noHO2 k o = true) (hr : ORel P M r o ob) : ORel P' M r o ob := by
  cases o with
  | dfr => exact hr
  | loop => cases h
  | opq j l =>
    obtain ⟨h0, xs, h1, h2, h3⟩ := hr
    exact ⟨h0, xs, h1, fun i v x e e' => (h2 i v x e e').den2 hi hh 40 v x (List.all_eq_true.1 h v (List.mem_of_getElem? e)), by rw [ho]; exact h3⟩
  | win c =>
    obtain ⟨c', e, fr, h1, h2, h3⟩ := hr
    exact ⟨c', e, fr, h1, h2.den2 hx hi hh h, by rw [hq]; exact h3⟩
  | row c e p =>
    obtain ⟨c', h1, h2, h3, h4⟩ := hr
    refine ⟨c', h1, h2, fun e => (h3 e).den2 hx hi hh h, fun e => ⟨(h4 e).1.den2 hx hi hh h, (h4 e).2.1, ?_⟩⟩
    obtain ⟨sz, q1, q2⟩ := (h4 e).2.2
    exact ⟨sz, by unfold sizeT at q1 ⊢; rw [hp]; exact q1, q2⟩
theorem HRel.den2 {P' : Pg} {B : Nat} {M : Mp} {g : Mem} {w : World} {k : List Nat} (hx : P'.den.slc = P.den.slc ∧ P'.den.str = P.den.str ∧ P'.den.ro = P.den.ro := by exact ⟨rfl, rfl, rfl⟩) (hp : P'.prog = P.prog) (hi : P'.den.int = P.den.int) (hh : ∀ n, n ∉ k → P'.den.hole n = P.den.hole n) (ho : P'.den.obj = P.den.obj) (hq : P'.den.pin = P.den.pin)
    (h : ∀ id o, g id = some o → noHO2 k o = true) (hr : HRel P B M g w) : HRel P' B M g w where
  has := fun id o e => by
    obtain ⟨b, r, ob, k1, k2, k3, k4⟩ := hr.has id o e
    exact ⟨b, r, ob, k1, k2, k3, k4.den2 hx hp hi hh ho hq (h id o e)⟩
  inj := hr.inj
  old := fun b c hb => hr.old b c (by rw [← hx.2.2]; exact hb)

end Sy
end Go.Proofs.Ytlmnhlmgbcpclaa
