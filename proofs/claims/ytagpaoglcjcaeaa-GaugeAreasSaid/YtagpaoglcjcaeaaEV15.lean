import Derived.Test.YtagpaoglcjcaeaaEV14
import Derived.RangeFuncNested
import Derived.RangeFuncRecord
set_option linter.unusedSimpArgs false
set_option linter.unusedVariables false
namespace Go.Proofs.Ytagpaoglcjcaeaa
namespace Ev

section
variable {P : Program} {callF : CallF} {ops : Array Oper} {base : Tm} {nt : Nat} {ds : List Deferred} {rf : Option Nat}

/-- a region that draws its order -/
theorem ok_draw (hc : CallOk P callF) (hm : P.follows .mixedOrders = true) {hp : T AObj} {nid : Nat} {s' : RS} (h : evDraw P callF ops base nt hp nid = some s') : nid ≤ s'.nid ∧
    ∀ {Q : Exit → Act → World → Prop} {id : Nat} {B : Nat} {M : Mp} {a : Act} {w : World}, SInv ds P B M [] base nt hp a w → (∀ id, nid ≤ id → id < s'.nid → M id = none) →
      (∀ M' a' w', SInv ds P B M' s'.loc base nt s'.hp a' w' → Evol M hp.get nid w M' s'.hp.get s'.nid w' → Q .normal a' w') → (Code.region id ops true).wpIn (Fr rf) 0 P Q a w := by
  obtain ⟨hreg, h⟩ := ck_some h
  obtain ⟨sn, hsn, h⟩ := ob_some h
  obtain ⟨hcl, h⟩ := ck_some h
  obtain ⟨c, hcc, h⟩ := ob_some h
  cases h
  rw [Bool.and_eq_true] at hcl
  obtain ⟨σ, e1, e2, e3⟩ := trace _ _ _ _ _ hsn
  simp only [Nat.zero_add, Array.length_toList] at e2
  have W : Way P callF ops base nt hp nid σ := by
    refine ⟨regOk_spec hreg, e1, fun i o ho => ?_, by rw [e2]; exact hcl.1, fun q hq => ?_⟩
    · obtain ⟨m, hm, hd⟩ := e3 i o (by simpa using ho)
      rw [Nat.zero_add] at hm hd
      exact ⟨m, hm, dStep_kind hd⟩
    · rw [e2] at hq ⊢
      exact List.all_eq_true.1 hcl.2 q hq
  have hn0 := W.nid (i := 0) (j := ops.size) (by omega) (Nat.le_refl _)
  rw [e1, e2] at hn0
  refine ⟨hn0, ?_⟩
  intro Q id B M a w hs hfree hK
  refine wpIn_region_any hm ?_
  obtain ⟨p0, p1, p2, p3⟩ := next_stage (ops := ops) (l := Array.replicate ops.size false) ops.size 0 (by omega) (fun e o h => by omega) (fun e o _ ho _ hL => by
    have := (Array.getElem?_eq_some_iff.1 ho).1
    simp [Lst, this] at hL)
  have hnl : ∀ j, ¬ Lst (Array.replicate ops.size false) j := fun j hL => by
    unfold Lst at hL
    rcases Nat.lt_or_ge j ops.size with hj | hj
    · simp [hj] at hL
    · rw [Array.getD_eq_getD_getElem?, Array.getElem?_eq_none (by simpa using hj)] at hL; cases hL
  obtain ⟨c1, c2⟩ := W.still p0 (Nat.zero_le _) p2.le p3
  rw [e1] at c1 c2
  have hst0 : stg ops σ p0 (Array.replicate ops.size false) = hp.get := by
    funext id
    unfold stg
    rw [c1]
    simp only
    cases hp.get id with
    | some o => rfl
    | none =>
      simp only
      cases flOf (σ ops.size).fls id with
      | none => rfl
      | some x => simp only; rw [if_neg (fun hx => hnl _ hx.1)]
  have hend : ∀ (l : Array Bool) (a : Act) (w' : World), (∃ p M', DInv ds P ops base nt hp nid σ B M w l p M' a w') → (∀ i, i < ops.size → l.getD i false = true) → Q .normal a w' := by
    rintro l a w' ⟨p, M', hd⟩ hall
    have hL : ∀ j, j < ops.size → Lst l j := hall
    have hp : p = ops.size := by
      rcases hd.stage.here with h | ⟨o, ho, he⟩
      · exact h
      · exact absurd (hL p (Array.getElem?_eq_some_iff.1 ho).1) (hd.stage.todo p o (Nat.le_refl _) ho he)
    subst hp
    obtain ⟨k1, k2, k3, k4, k5, k6, k7⟩ := absorb_spec _ _ _ _ hcc
    have hsub : ∀ id o, c.1.get id = some o → stg ops σ ops.size l id = some o := by
      intro id o e
      rcases k1 id o e with e | ⟨j, hj, hb, hab⟩
      · unfold stg; rw [e2, e]
      · rw [← e2] at hj hab
        obtain ⟨y1, y2, y3, y4⟩ := W.made _ (Nat.le_refl _) _ hj
        simp only at y1 y2 y3 y4
        have hin : flOf (σ (j + 1)).fls id = some (j, o) := by rw [y4, flOf_cons]; simp
        exact stg_fl (x := (j, o)) W (Nat.le_refl _) (W.fl_keeps hin (by omega) _ (by omega) (Nat.le_refl _)) (hL j y1) hab
    refine hK M' a w' ⟨hd.defers, ⟨hd.tsize, fun t v e => ?_⟩, hd.heap.sub hsub, hd.base_⟩ ?_
    · simp only at e
      rw [← e2, rd_def] at e
      cases hloc : agt (σ ops.size).loc t with
      | some u =>
        rw [hloc] at e
        cases e
        obtain ⟨j, o, hj, ho, hdj⟩ := (W.written _ (Nat.le_refl _) t).1 (by rw [hloc]; rfl)
        exact hd.tmps1 j o t v ho hdj (hL j hj) hloc
      | none =>
        rw [hloc] at e
        refine hd.tmps0 t v (fun j o ho hdj _ => ?_) e
        have := (W.written _ (Nat.le_refl _) t).2 ⟨j, o, (Array.getElem?_eq_some_iff.1 ho).1, ho, hdj⟩
        rw [hloc] at this; cases this
    · have hev := hd.evol
      rw [e2] at hev
      exact { hev with
        fresh := fun id b r hi ei => hev.fresh id b r (by obtain ⟨o, ho⟩ := Option.isSome_iff_exists.1 hi; rw [hsub id o ho]; rfl) ei }
  have hstart : DInv ds P ops base nt hp nid σ B M w (Array.replicate ops.size false) p0 M a { w with drawn := w.drawn + 1 } := by
    refine ⟨by simp, fun k ok hk => absurd hk (hnl k), p2, hs.defers, hs.tmps.size, fun j o d v _ _ hL => absurd hL (hnl j), fun t v _ e => hs.tmps.at_ t v (by rw [rd_nil]; exact e), ?_, hs.base_, fun id hid => .inl hid, ?_⟩
    · rw [hst0]; exact ⟨hs.heap.has, hs.heap.inj⟩
    · rw [hst0]
      rw [← e2] at hn0
      exact ((⟨rfl, rfl, rfl, Nat.le_refl _, fun _ _ _ => rfl, fun id b r h e => .inl ⟨id, r, h, e⟩, Ext.refl _, fun id h k => absurd h k, Nat.le_refl _⟩ : Evol M hp.get nid w M hp.get nid { w with drawn := w.drawn + 1 })).wide (Nat.le_refl _) hn0
  exact any_inv (fun l a w' => ∃ p M', DInv ds P ops base nt hp nid σ B M w l p M' a w') (fun l a w' hx => by obtain ⟨p, M', hd⟩ := hx; exact hd.size) (regOk_spec hreg).edges
    (fun l a w' i hx hi => by obtain ⟨p, M', hd⟩ := hx; exact d_step W hc hd (by rw [e2]; exact hfree) hi) hend ops.size _ a _ ⟨p0, M, hstart⟩ (by omega)
end

/-! Code. -/
def exitOf : AX → Exit
  | .normal => .normal
  | .exit id => .exit id
  | .goto l => .goto l
  | .ret => .ret

/-- the marks for deferred calls of rounds -/
inductive MRel (M : Mp) : List Nat → List Deferred → Prop
  | nil : MRel M [] []
  | cons {d b r : Nat} {df : List Nat} {ds : List Deferred} (h : M d = some (b, r)) (hs : MRel M df ds) : MRel M (d :: df) ({ target := .collected b, args := #[] } :: ds)
theorem MRel.ext {M M' : Mp} (hx : Ext M M') {df : List Nat} {ds : List Deferred} (h : MRel M df ds) : MRel M' df ds := by
  induction h with
  | nil => exact .nil
  | cons h hs ih => exact .cons (hx _ _ h) ih
/-- the round that a frame is of -/
def RdRel (M : Mp) : Option Nat → Option Nat → Prop
  | none, none => True
  | some l, some l' => ∃ rr, M l = some (l', rr)
  | _, _ => False
theorem RdRel.ext {M M' : Mp} (hx : Ext M M') {x y : Option Nat} (h : RdRel M x y) : RdRel M' x y := by
  cases x <;> cases y <;> first | trivial | exact h.elim | (obtain ⟨rr, h⟩ := h; exact ⟨rr, hx _ _ h⟩)

structure CInv (P : Program) (B : Nat) (M : Mp) (rf : Option Nat) (s : St) (a : Act) (w : World) : Prop where
  defers : MRel M s.df a.defers
  rnd : RdRel M s.rnd rf
  size : a.tmps.size = s.nt
  tmps : ∀ t v, agt s.tm t = some v → kept s.kp t = true ∧ ∃ v', a.tmps[t]? = some v' ∧ VRel M v v'
  heap : HRel P B M s.hp.get w
  base_ : B ≤ w.heap.size

def CodeOk (P : Program) (rec : CodeF) : Prop := ∀ c s x s', rec c s = some (x, s') → s.nid ≤ s'.nid ∧ s'.kp = s.kp ∧ s'.nt = s.nt ∧
  ∀ B M rf a w, CInv P B M rf s a w → (∀ id, s.nid ≤ id → id < s'.nid → M id = none) → c.wpIn (Fr rf) 0 P (fun e a' w' => ∃ M', e = exitOf x ∧ CInv P B M' rf s' a' w' ∧ Evol M s.hp.get s.nid w M' s'.hp.get s'.nid w') a w

/-- a loop that is run so and so often -/
theorem wp_loop_fuel {F : Fence} {d : Nat} {P : Program} {Q : Exit → Act → World → Prop} {c : Code} (R : Nat → Act → World → Prop) (h0 : ∀ a w, ¬ R 0 a w)
    (round : ∀ n a w, R (n + 1) a w → c.wpIn F d P (Exit.then (R n) Q) a w) : ∀ n a w, R n a w → (Code.loop c).wpIn F d P Q a w := by
  intro n a w h b k cs hro hb hr
  have key : ∀ n a w, R n a w → ∃ e a' w', Q e a' w' ∧ ArrivesIn (Machine.fenced P F) P (lone (b.atR a (.code c :: .inLoop c :: k)) cs w) b k cs e a' w' := by
    intro n
    induction n with
    | zero => intro a w h; exact absurd h (h0 a w)
    | succ n ih =>
      intro a w h
      obtain ⟨e, a₁, w₁, hq, harr⟩ := round n a w h b (.inLoop c :: k) cs hro hb hr
      cases e with
      | normal =>
        obtain ⟨e₂, a₂, w₂, hq₂, harr₂⟩ := ih a₁ w₁ hq
        exact ⟨e₂, a₂, w₂, hq₂, .of_steps (StepsIn.trans harr (.one (fenced_calm hb hr rfl) stepR_inLoop)) harr₂⟩
      | exit id => exact ⟨_, a₁, w₁, hq, .pass (x := .inLoop c) rfl (fun _ _ => .inl (by simp)) harr⟩
      | goto l => exact ⟨_, a₁, w₁, hq, .pass (x := .inLoop c) rfl (fun _ _ => .inl (by simp)) harr⟩
      | ret => exact ⟨_, a₁, w₁, hq, .pass (x := .inLoop c) rfl (fun _ _ => .inl (by simp)) harr⟩
      | panic ch => exact ⟨_, a₁, w₁, hq, .pass (x := .inLoop c) rfl (fun _ _ => .inl (by simp)) harr⟩
      | outgrown => exact ⟨_, a₁, w₁, hq, .pass (x := .inLoop c) rfl (fun _ _ => .inl (by simp)) harr⟩
  obtain ⟨e, a', w', hq, harr⟩ := key n a w h
  exact ⟨e, a', w', hq, .of_steps (.one (fenced_calm hb hr rfl) stepR_loop) harr⟩

section
variable {P : Program} {callF : CallF}

theorem thenN_some {r : Option (AX × St)} {k : St → Option (AX × St)} {x : AX} {s' : St} (h : thenN r k = some (x, s')) :
    (∃ s1, r = some (.normal, s1) ∧ k s1 = some (x, s')) ∨ (r = some (x, s') ∧ x ≠ .normal) := by
  obtain ⟨⟨y, s1⟩, hr, h⟩ := ob_some h
  cases y with
  | normal => exact .inl ⟨s1, hr, h⟩
  | exit id => cases h; exact .inr ⟨hr, by simp⟩
  | goto l => cases h; exact .inr ⟨hr, by simp⟩
  | ret => cases h; exact .inr ⟨hr, by simp⟩
theorem outOf_some {id : Nat} {r : Option (AX × St)} {x : AX} {s' : St} (h : outOf id r = some (x, s')) :
    (r = some (.exit id, s') ∧ x = .normal) ∨ (r = some (x, s') ∧ x ≠ .exit id) := by
  obtain ⟨⟨y, s1⟩, hr, h⟩ := ob_some h
  cases y with
  | normal => cases h; exact .inr ⟨hr, by simp⟩
  | goto l => cases h; exact .inr ⟨hr, by simp⟩
  | ret => cases h; exact .inr ⟨hr, by simp⟩
  | exit id' =>
    have h : bi (Nat.beq id' id) (some (AX.normal, s1)) (some (AX.exit id', s1)) = some (x, s') := h
    rcases bi_some h with ⟨e, h2⟩ | ⟨e, h2⟩
    · cases h2; rw [Nat.eq_of_beq_eq_true e] at hr; exact .inl ⟨hr, rfl⟩
    · cases h2; exact .inr ⟨hr, fun hx => by cases hx; exact Nat.ne_of_beq_eq_false e rfl⟩
theorem CInv.erel {B : Nat} {M : Mp} {rf : Option Nat} {s : St} {a : Act} {w : World} (h : CInv P B M rf s a w) : RRel M [] s.tm a.tmps s.nt :=
  ⟨h.size, fun t v e => (h.tmps t v e).2⟩
theorem commit_inv {B : Nat} {M M' : Mp} {rf : Option Nat} {s : St} {a a' : Act} {w w' : World} {r : RS} {tm : Tm} (hx : Ext M M') (h : CInv P B M rf s a w) (hr : SInv a.defers P B M' r.loc s.tm s.nt r.hp a' w') (hcm : commit s.kp r.loc s.tm = some tm) :
    CInv P B M' rf ⟨tm, s.kp, s.nt, r.hp, r.nid, s.df, s.rnd⟩ a' w' := by
  refine ⟨by rw [hr.defers]; exact h.defers.ext hx, h.rnd.ext hx, hr.tmps.size, fun t v e => ?_, hr.heap, hr.base_⟩
  simp only at e ⊢
  rw [commit_spec _ _ _ hcm] at e
  split at e
  · rename_i hk; exact ⟨hk, hr.tmps.at_ t v e⟩
  · rename_i hk; exact absurd (h.tmps t v e).1 hk
theorem ok_region (hc : CallOk P callF) (hm : P.follows .mixedOrders = true) {ops : Array Oper} {draw : Bool} {id : Nat} {rec : CodeF} {s s' : St} {x : AX} (h : cRegion ops draw P callF rec s = some (x, s')) :
    s.nid ≤ s'.nid ∧ s'.kp = s.kp ∧ s'.nt = s.nt ∧ ∀ B M rf a w, CInv P B M rf s a w → (∀ id, s.nid ≤ id → id < s'.nid → M id = none) →
      (Code.region id ops draw).wpIn (Fr rf) 0 P (fun e a' w' => ∃ M', e = exitOf x ∧ CInv P B M' rf s' a' w' ∧ Evol M s.hp.get s.nid w M' s'.hp.get s'.nid w') a w := by
  obtain ⟨r, hr, h⟩ := ob_some h
  obtain ⟨tm, htm, h⟩ := ob_some h
  cases h
  cases draw with
  | true =>
    have hr : evDraw P callF ops s.tm s.nt s.hp s.nid = some r := hr
    refine ⟨(ok_draw (ds := []) (rf := none) hc hm hr).1, rfl, rfl, fun B M rf a w hi hf => ?_⟩
    obtain ⟨hle, hrun⟩ := ok_draw (ds := a.defers) (rf := rf) hc hm hr
    exact hrun ⟨rfl, hi.erel, hi.heap, hi.base_⟩ hf (fun M' a' w' hs hev => ⟨M', rfl, commit_inv hev.ext hi hs htm, hev⟩)
  | false =>
    have hr : evSteps P callF ops s.tm s.nt ops.toList ⟨[], s.hp, s.nid⟩ = some r := hr
    refine ⟨le_steps _ _ _ hr, rfl, rfl, fun B M rf a w hi hf => wpIn_region ?_⟩
    have := ok_steps (ds := a.defers) (rf := rf) (Q := fun e a' w' => ∃ M', e = exitOf .normal ∧ CInv P B M' rf ⟨tm, s.kp, s.nt, r.hp, r.nid, s.df, s.rnd⟩ a' w' ∧ Evol M s.hp.get s.nid w M' r.hp.get r.nid w') hc ops.toList 0 ⟨[], s.hp, s.nid⟩ r
      (fun k => by simp) hr (B := B) (M := M) (a := a) (w := w) ⟨rfl, hi.erel, hi.heap, hi.base_⟩ hf (fun M' a' w' hs hev => ⟨M', rfl, commit_inv hev.ext hi hs htm, hev⟩)
    rw [List.range_eq_range']
    simpa using this

/-- a block that is written anew -/
theorem HRel.put {B : Nat} {M : Mp} {g g' : Mem} {w : World} (h : HRel P B M g w) {id b r : Nat} {o : AObj} {o' : Option AObj} {ob : Obj} (hg : g id = some o) (e : M id = some (b, r))
    (ho : ∀ x, o' = some x → ORel P M r x ob) (hg' : ∀ i, g' i = if i = id then o' else g i) : HRel P B M g' (w.putObj b ob) where
  has := fun i x ex => by
    rw [hg'] at ex
    split at ex
    · rename_i hi
      subst hi
      obtain ⟨b', r', ob', e1, e2, e3, _⟩ := h.has i o hg
      rw [e] at e1
      cases e1
      exact ⟨b, r, ob, e, e2, World.putObj_heap_same (Array.getElem?_eq_some_iff.1 e3).1, ho x ex⟩
    · rename_i hi
      obtain ⟨b', r', ob', e1, e2, e3, e4⟩ := h.has i x ex
      refine ⟨b', r', ob', e1, e2, ?_, e4⟩
      rw [World.putObj_heap_other (fun eb => ?_)]
      · exact e3
      · subst eb
        exact hi (h.inj i id b' r' r (by rw [ex]; rfl) (by rw [hg]; rfl) e1 e)
  inj := fun i j b1 r1 r2 hi hj e1 e2 => by
    have key : ∀ k, (g' k).isSome = true → (g k).isSome = true := fun k hk => by
      rw [hg'] at hk
      split at hk
      · rename_i h1; rw [h1, hg]; rfl
      · exact hk
    exact h.inj i j b1 r1 r2 (key i hi) (key j hj) e1 e2
theorem Evol.put {M : Mp} {g g' : Mem} {w : World} {id b r : Nat} {o : AObj} (ob : Obj) (nid : Nat) (hg : g id = some o) (e : M id = some (b, r)) (hg' : ∀ i, i ≠ id → g' i = g i) : Evol M g nid w M g' nid (w.putObj b ob) where
  os := rfl
  tape := rfl
  output := rfl
  size := by rw [World.putObj_size]; exact Nat.le_refl _
  frame := fun k hk hx => World.putObj_heap_other (fun ek => hx id r (by rw [hg]; rfl) (by rw [ek]; exact e))
  fresh := fun i b1 r1 hi ei => .inl ⟨i, r1, by
    by_cases h1 : i = id
    · rw [h1, hg]; rfl
    · rw [hg' i h1] at hi; exact hi, ei⟩
  ext := Ext.refl _
  dom := fun i hi hm => absurd hi hm
  le := Nat.le_refl _
theorem free_of {M M' : Mp} {g g' : Mem} {n n' k : Nat} {w w' : World} (hev : Evol M g n w M' g' n' w') (hf : ∀ id, n' ≤ id → id < k → M id = none) : ∀ id, n' ≤ id → id < k → M' id = none := fun id k1 k2 => by
  cases e : M' id with
  | none => rfl
  | some z => have := hev.dom id (hf id k1 k2) (by rw [e]; simp); omega

/-- a range over a function, behind the block for deferred calls -/
theorem ok_rangeIn (hc : CallOk P callF) {g : Tgt} {first captured : Array Value} {ps : Array Tmp} {as_ body : Code} {s : St} {d : Nat} {df : List Nat} {hp : T AObj} {l : Nat} {x : AX} {s' : St}
    (h : cRangeIn callF g first captured ps as_ body s d df hp l = some (x, s')) : l < s'.nid ∧ s'.kp = s.kp ∧ s'.nt = s.nt ∧ s'.tm = s.tm ∧ s'.df = df ∧ s'.rnd = s.rnd ∧ ∃ gf, g = .fn gf ∧
    ∀ B M (w : World) (tmps first' captured' : Array Value) (fn : FuncId) (dL dR : Nat), HRel P B M hp.get w → B ≤ w.heap.size → (∀ id, l ≤ id → id < s'.nid → M id = none) →
      tmps.size = s.nt → TRel M s.kp s.tm tmps → M d = some (dL, dR) → LRel M first.toList first'.toList → LRel M captured.toList captured'.toList →
      Calls P gf (first' ++ #[.func (.yield w.heap.size) #[] #[]] ++ captured') (w.alloc (.loop { state := .ready, pending := none, fn, tmps, params := ps, assign := as_, body, defers := dL })) fun e w3 =>
        ∃ v, e = .returned v ∧ ∃ jump w4 M', (Instr.endLoop w.heap.size).run P w3 = .ok jump w4 ∧ (jump = none ∧ x = .normal ∨ jump = some (codeOf x)) ∧ HRel P B M' s'.hp.get w4 ∧ Evol M hp.get l w M' s'.hp.get s'.nid w4 := by
  cases g with
  | yield l => cases h
  | fn gf =>
  obtain ⟨hp1, hset, h⟩ := ob_some h
  obtain ⟨⟨v, hp2, nid2⟩, hcall, h⟩ := ob_some h
  obtain ⟨o, ho, h⟩ := ob_some h
  obtain ⟨st, pend, tm2, kp2, nt2, ps2, as2, bd2, d2, rfl, h⟩ := withLoop_some h
  obtain ⟨hck, h⟩ := ck_some h
  obtain ⟨hp3, hset3, h⟩ := ob_some h
  cases h
  rw [Bool.and_eq_true] at hck
  have hst1 : st ≠ 1 := by
    intro e
    subst e
    cases hck.1
  have hle2 : l + 1 ≤ nid2 := Nat.le_of_ble_eq_true hck.2
  refine ⟨hle2, rfl, rfl, rfl, rfl, rfl, gf, rfl, ?_⟩
  intro B M w tmps first' captured' fn dL dR hh hB hf hsz htm hd hfirst hcapt
  have hM : M l = none := hf l (Nat.le_refl _) hle2
  have hx : Ext M (M.upd l w.heap.size 0) := Mp.upd_ext hM
  have hget := T.get_set _ _ _ _ hset
  obtain ⟨_, hrun⟩ := hc _ _ _ _ _ _ _ hcall
  have hO : ORel P (M.upd l w.heap.size 0) 0 (.loop 0 none s.tm s.kp s.nt ps as_ body d) (.loop { state := .ready, pending := none, fn, tmps, params := ps, assign := as_, body, defers := dL }) :=
    ⟨_, rfl, rfl, rfl, rfl, rfl, rfl, hsz, fun t v e => ⟨(htm t v e).1, (htm t v e).2.imp fun _ k => ⟨k.1, k.2.ext hx⟩⟩, fun _ => rfl, dR, hx _ _ hd⟩
  have hh1 : HRel P B (M.upd l w.heap.size 0) hp1.get (w.alloc (.loop { state := .ready, pending := none, fn, tmps, params := ps, assign := as_, body, defers := dL })) := hh.push hB hM hget rfl hO
  have hev1 : Evol M hp.get l w (M.upd l w.heap.size 0) hp1.get (l + 1) (w.alloc (.loop { state := .ready, pending := none, fn, tmps, params := ps, assign := as_, body, defers := dL })) := Evol.push hh hM hget rfl rfl rfl rfl
  have hargs : LRel (M.upd l w.heap.size 0) (first.toList ++ (Value.func (.yield l) #[] #[] :: captured.toList)) (first' ++ #[Value.func (.yield w.heap.size) #[] #[]] ++ captured').toList := by
    simp only [Array.toList_append, List.append_assoc, List.singleton_append]
    exact (hfirst.ext hx).append (LRel.cons (.yld (Mp.upd_self _ _ _ _)) (hcapt.ext hx))
  have hfree := free_of (k := nid2) hev1 (fun id k1 k2 => hf id (by omega) k2)
  refine Calls.mono (hrun B (M.upd l w.heap.size 0) _ _ hargs hh1 (Nat.le_trans hB hev1.size) hfree) ?_
  rintro e w3 ⟨M2, v', rfl, hvr, hh2, hev2⟩
  have hMl : M2 l = some (w.heap.size, 0) := hev2.ext _ _ (Mp.upd_self _ _ _ _)
  obtain ⟨b, r, ob, e1, e2, e3, e4⟩ := hh2.has l _ ho
  rw [hMl] at e1
  cases e1
  obtain ⟨L, rfl, h1, h2, _⟩ := e4
  have hbusy : L.state ≠ .busy := by
    rw [h1]
    unfold stateIs
    by_cases h0 : st = 0
    · simp [h0]
    · simp [h0, hst1]
  refine ⟨v', rfl, L.pending, _, M2, run_endLoop e3 hbusy, ?_, hh2.put ho hMl (fun x hx => by cases hx) (T.get_set _ _ _ _ hset3), hev1.trans (hev2.trans (Evol.put _ _ ho hMl fun i hi => by rw [T.get_set _ _ _ _ hset3, if_neg hi]))⟩
  rw [h2]
  cases pend with
  | none => exact .inl ⟨rfl, rfl⟩
  | some y => exact .inr rfl

theorem wpIn_codeOf {F : Fence} {n : Nat} {Q : Exit → Act → World → Prop} {a : Act} {w : World} {x : AX} (h : Q (exitOf x) a w) : (codeOf x).wpIn F n P Q a w := by
  cases x with
  | normal => exact wpIn_skip h
  | exit id => exact wpIn_exit h
  | goto l => exact wpIn_goto h
  | ret => exact wpIn_ret h

theorem ok_range (hc : CallOk P callF) {f : Operand} {ps : Array Tmp} {as_ body : Code} {rec : CodeF} {s s' : St} {x : AX} (h : cRange f ps as_ body P callF rec s = some (x, s')) :
    s.nid ≤ s'.nid ∧ s'.kp = s.kp ∧ s'.nt = s.nt ∧ ∀ B M rf a w, CInv P B M rf s a w → (∀ id, s.nid ≤ id → id < s'.nid → M id = none) →
      (Code.rangeFunc f ps as_ body).wpIn (Fr rf) 0 P (fun e a' w' => ∃ M', e = exitOf x ∧ CInv P B M' rf s' a' w' ∧ Evol M s.hp.get s.nid w M' s'.hp.get s'.nid w') a w := by
  obtain ⟨v, hv, h⟩ := ob_some h
  have hfnv := withFn_some h
  clear h
  rcases hfnv with ⟨g, first, captured, rfl, h1⟩ | ⟨l, first, captured, rfl, h1⟩
  · obtain ⟨hcb, h2⟩ := ck_some h1
    have hcb : callable P g = true := hcb
    clear h1
    have hres : ∀ (a : Act) (a' c' : Array Value) (L : Nat) (w : World), a.eval f = .func (.func g) a' c' →
        (resolve a.eval (rangeCall f L) 0).run P w = .ok { target := .fn (.func g) c', args := a' ++ #[.func (.yield L) #[] #[]] } w := by
      intro a a' c' L w hy
      simp only [resolve, hy]
      simp [go_sem]
    have hinv : ∀ (a' c' : Array Value) (L : Nat) (w : World), (invoke (.fn (.func g) c') (a' ++ #[.func (.yield L) #[] #[]])).run P w = .ok (.enter g (a' ++ #[.func (.yield L) #[] #[]] ++ c')) w := by
      intro a' c' L w
      simp only [invoke, run_callFunc hcb]
    cases hr : s.rnd with
    | none =>
      rw [hr] at h2
      obtain ⟨hp1, hset, h3⟩ := ob_some h2
      obtain ⟨a1, a2, a3, a4, a5, a6, gf, hgf, hrun⟩ := ok_rangeIn hc h3
      cases hgf
      refine ⟨by omega, a2, a3, fun B M rf a w hi hf => ?_⟩
      have hrd := hi.rnd
      rw [hr] at hrd
      cases rf with
      | some l' => exact hrd.elim
      | none =>
      have hval := hi.erel.erel f _ hv
      cases hy : a.eval f with
      | func fv a' c' =>
        rw [hy] at hval
        cases hval with
        | func _ ha k1 hcs k2 =>
        have r1 : LRel M first.toList a'.toList := lrel_arr.2 ⟨ha, k1⟩
        have r2 : LRel M captured.toList c'.toList := lrel_arr.2 ⟨hcs, k2⟩
        have hM : M s.nid = none := hf _ (Nat.le_refl _) (by omega)
        have hx : Ext M (M.upd s.nid w.heap.size 0) := Mp.upd_ext hM
        have hget := T.get_set _ _ _ _ hset
        have hh1 : HRel P B (M.upd s.nid w.heap.size 0) hp1.get (w.alloc (.deferred (some []))) := hi.heap.push hi.base_ hM hget rfl rfl
        have hev1 : Evol M s.hp.get s.nid w (M.upd s.nid w.heap.size 0) hp1.get (s.nid + 1) (w.alloc (.deferred (some []))) := Evol.push hi.heap hM hget rfl rfl rfl rfl
        have hsz : (w.alloc (.deferred (some []))).heap.size = w.heap.size + 1 := by simp
        refine wpIn_rangeFunc fun fn _ => ?_
        have hk := hrun B (M.upd s.nid w.heap.size 0) (w.alloc (.deferred (some []))) a.tmps a' c' fn w.heap.size 0 hh1 (Nat.le_trans hi.base_ hev1.size) (free_of hev1 fun id e1 e2 => hf id (by omega) e2) hi.size
          (fun t v e => ⟨(hi.tmps t v e).1, (hi.tmps t v e).2.imp fun _ k => ⟨k.1, k.2.ext hx⟩⟩) (Mp.upd_self _ _ _ _) (r1.ext hx) (r2.ext hx)
        rw [hsz] at hk
        refine ⟨w.heap.size + 1, _, _, _, _, g, _, _, run_enterLoop_outer fn a.tmps ps as_ body, hres a a' c' _ _ hy, fun _ _ => Fr_fn _ _, hinv a' c' _ _, fun hd => (by rw [Fr_depth] at hd; cases hd), (callsIn_fr none hk).mono ?_⟩
        rintro e w3 ⟨v, rfl, jump, w4, M', hend, hj, hh, hev⟩
        have hfin : ∃ M', exitOf x = exitOf x ∧ CInv P B M' none s' { a with defers := [{ target := .collected w.heap.size, args := #[] }] ++ a.defers } w4 ∧ Evol M s.hp.get s.nid w M' s'.hp.get s'.nid w4 := by
          have hext := hx.trans hev.ext
          refine ⟨M', rfl, ⟨?_, ?_, by rw [a3]; exact hi.size, fun t v e => ?_, hh, Nat.le_trans hi.base_ (Nat.le_trans hev1.size hev.size)⟩, hev1.trans hev⟩
          · rw [a5]; exact .cons (hev.ext _ _ (Mp.upd_self _ _ _ _)) (hi.defers.ext hext)
          · rw [a6, hr]; trivial
          · rw [a4] at e
            rw [a2]
            exact ⟨(hi.tmps t v e).1, (hi.tmps t v e).2.imp fun _ k => ⟨k.1, k.2.ext hext⟩⟩
        refine ⟨jump, w4, hend, ?_⟩
        rcases hj with ⟨rfl, rfl⟩ | rfl
        · exact hfin
        · exact wpIn_codeOf hfin
      | _ => rw [hy] at hval; cases hval
    | some l0 =>
      rw [hr] at h2
      obtain ⟨o, ho, h2b⟩ := ob_some h2
      obtain ⟨st0, pend0, tm0, kp0, nt0, ps0, as0, bd0, d0, rfl, h3⟩ := withLoop_some h2b
      obtain ⟨a1, a2, a3, a4, a5, a6, gf, hgf, hrun⟩ := ok_rangeIn hc h3
      cases hgf
      refine ⟨by omega, a2, a3, fun B M rf a w hi hf => ?_⟩
      have hrd := hi.rnd
      rw [hr] at hrd
      cases rf with
      | none => exact hrd.elim
      | some l' =>
      obtain ⟨rr, hMl⟩ := hrd
      obtain ⟨b0, r0, ob0, e1, e2, e3, e4⟩ := hi.heap.has l0 _ ho
      rw [hMl] at e1
      cases e1
      obtain ⟨L0, rfl, _, _, _, _, _, _, _, _, r', hd⟩ := e4
      have hval := hi.erel.erel f _ hv
      cases hy : a.eval f with
      | func fv a' c' =>
        rw [hy] at hval
        cases hval with
        | func _ ha k1 hcs k2 =>
        have r1 : LRel M first.toList a'.toList := lrel_arr.2 ⟨ha, k1⟩
        have r2 : LRel M captured.toList c'.toList := lrel_arr.2 ⟨hcs, k2⟩
        refine wpIn_rangeFunc fun fn _ => ?_
        rw [Fr_round]
        have hk := hrun B M w a.tmps a' c' fn L0.defers r' hi.heap hi.base_ hf hi.size hi.tmps hd r1 r2
        refine ⟨w.heap.size, _, _, _, _, g, _, _, run_enterLoop_inner e3 fn a.tmps ps as_ body, hres a a' c' _ _ hy, fun _ _ => Fr_fn _ _, hinv a' c' _ _, fun hd => (by rw [Fr_depth] at hd; cases hd), (callsIn_fr (some l') hk).mono ?_⟩
        rintro e w3 ⟨v, rfl, jump, w4, M', hend, hj, hh, hev⟩
        have hfin : ∃ M', exitOf x = exitOf x ∧ CInv P B M' (some l') s' { a with defers := [] ++ a.defers } w4 ∧ Evol M s.hp.get s.nid w M' s'.hp.get s'.nid w4 := by
          refine ⟨M', rfl, ⟨?_, ?_, by rw [a3]; exact hi.size, fun t v e => ?_, hh, Nat.le_trans hi.base_ hev.size⟩, hev⟩
          · rw [a5]; exact hi.defers.ext hev.ext
          · rw [a6, hr]; exact ⟨rr, hev.ext _ _ hMl⟩
          · rw [a4] at e
            rw [a2]
            exact ⟨(hi.tmps t v e).1, (hi.tmps t v e).2.imp fun _ k => ⟨k.1, k.2.ext hev.ext⟩⟩
        refine ⟨jump, w4, hend, ?_⟩
        rcases hj with ⟨rfl, rfl⟩ | rfl
        · exact hfin
        · exact wpIn_codeOf hfin
      | _ => rw [hy] at hval; cases hval
  · obtain ⟨hcb, h2⟩ := ck_some h1
    clear h1
    exfalso
    cases hr : s.rnd with
    | none =>
      rw [hr] at h2
      obtain ⟨hp1, hset, h3⟩ := ob_some h2
      cases h3
    | some l0 =>
      rw [hr] at h2
      obtain ⟨o, ho, h2b⟩ := ob_some h2
      obtain ⟨st0, pend0, tm0, kp0, nt0, ps0, as0, bd0, d0, rfl, h3⟩ := withLoop_some h2b
      cases h3

theorem evC_succ (n : Nat) (c : Code) (s : St) : evC P callF (n + 1) c s = codeSel c P callF (evC P callF n) s := rfl

theorem code_ok (hc : CallOk P callF) (hm : P.follows .mixedOrders = true) (n : Nat) : CodeOk P (evC P callF n) := by
  induction n using Nat.strongRecOn with
  | _ n ih =>
  cases n with
  | zero => intro c s x s' h; cases h
  | succ n =>
    have ihn : CodeOk P (evC P callF n) := ih n (Nat.lt_succ_self n)
    intro c s x s' h
    rw [evC_succ] at h
    have out : ∀ {y : AX}, (some (y, s) : Option (AX × St)) = some (x, s') → (∀ rf (Q : Exit → Act → World → Prop) a w, Q (exitOf y) a w → c.wpIn (Fr rf) 0 P Q a w) →
        s.nid ≤ s'.nid ∧ s'.kp = s.kp ∧ s'.nt = s.nt ∧ ∀ B M rf a w, CInv P B M rf s a w → (∀ id, s.nid ≤ id → id < s'.nid → M id = none) →
          c.wpIn (Fr rf) 0 P (fun e a' w' => ∃ M', e = exitOf x ∧ CInv P B M' rf s' a' w' ∧ Evol M s.hp.get s.nid w M' s'.hp.get s'.nid w') a w := by
      intro y hy hwp
      cases hy
      exact ⟨Nat.le_refl _, rfl, rfl, fun B M rf a w hi _ => hwp rf _ a w ⟨M, rfl, hi, Evol.refl _ _ _ _⟩⟩
    cases c with
    | skip => exact out h fun rf Q a w hq => wpIn_skip hq
    | label l => exact out h fun rf Q a w hq => wpIn_label hq
    | ret => exact out h fun rf Q a w hq => wpIn_ret hq
    | exit id => exact out h fun rf Q a w hq => wpIn_exit hq
    | goto l => exact out h fun rf Q a w hq => wpIn_goto hq
    | scope c => cases h
    | refuse why => cases h
    | rangeFunc f ps as_ body => exact ok_range (rec := evC P callF n) hc h
    | region id ops draw => exact ok_region (rec := evC P callF n) hc hm h
    | seq c1 c2 =>
      have h : thenN (evC P callF n c1 s) (evC P callF n c2) = some (x, s') := h
      rcases thenN_some h with ⟨s1, h1, h2⟩ | ⟨h1, hne⟩
      · obtain ⟨a1, a2, a3, a4⟩ := ihn _ _ _ _ h1
        obtain ⟨b1, b2, b3, b4⟩ := ihn _ _ _ _ h2
        refine ⟨Nat.le_trans a1 b1, b2.trans a2, b3.trans a3, fun B M rf a w hi hf => wpIn_seq (wpIn_mono (a4 B M rf a w hi fun id k1 k2 => hf id k1 (by omega)) ?_)⟩
        rintro e a' w' ⟨M', rfl, hi', hev⟩
        refine wpIn_mono (b4 B M' rf a' w' hi' fun id k1 k2 => ?_) ?_
        · cases e : M' id with
          | none => rfl
          | some z => have := hev.dom id (hf id (by omega) k2) (by rw [e]; simp); omega
        · rintro e a2 w2 ⟨M2, rfl, hi2, hev2⟩
          exact ⟨M2, rfl, hi2, hev.trans hev2⟩
      · obtain ⟨a1, a2, a3, a4⟩ := ihn _ _ _ _ h1
        refine ⟨a1, a2, a3, fun B M rf a w hi hf => wpIn_seq (wpIn_mono (a4 B M rf a w hi hf) ?_)⟩
        rintro e a' w' ⟨M', rfl, hi', hev⟩
        cases x with
        | normal => exact absurd rfl hne
        | exit id => exact ⟨M', rfl, hi', hev⟩
        | goto l => exact ⟨M', rfl, hi', hev⟩
        | ret => exact ⟨M', rfl, hi', hev⟩
    | cond c x1 y1 =>
      have h : condV (evX [] s.tm c) (evC P callF n x1 s) (evC P callF n y1 s) = some (x, s') := h
      obtain ⟨v, hv, h⟩ := ob_some h
      cases v with
      | bool b =>
        have h : bi b (evC P callF n x1 s) (evC P callF n y1 s) = some (x, s') := h
        have hev : ∀ B M rf a w, CInv P B M rf s a w → a.eval c = .bool b := fun B M rf a w hi => by
          have := hi.erel.erel c _ hv
          generalize a.eval c = z at this
          cases this
          rfl
        rcases bi_some h with ⟨e, h2⟩ | ⟨e, h2⟩ <;> clear h <;> subst e
        · obtain ⟨a1, a2, a3, a4⟩ := ihn _ _ _ _ h2
          exact ⟨a1, a2, a3, fun B M rf a w hi hf => wpIn_cond_true (hev B M rf a w hi) (a4 B M rf a w hi hf)⟩
        · obtain ⟨a1, a2, a3, a4⟩ := ihn _ _ _ _ h2
          exact ⟨a1, a2, a3, fun B M rf a w hi hf => wpIn_cond_false (hev B M rf a w hi) (a4 B M rf a w hi hf)⟩
      | _ => cases h
    | block id c =>
      have h : outOf id (evC P callF n c s) = some (x, s') := h
      rcases outOf_some h with ⟨h1, rfl⟩ | ⟨h1, hne⟩
      · obtain ⟨a1, a2, a3, a4⟩ := ihn _ _ _ _ h1
        refine ⟨a1, a2, a3, fun B M rf a w hi hf => wpIn_block (wpIn_mono (a4 B M rf a w hi hf) ?_)⟩
        rintro e a' w' ⟨M', rfl, hi', hev⟩
        show (if id = id then _ else _)
        rw [if_pos rfl]
        exact ⟨M', rfl, hi', hev⟩
      · obtain ⟨a1, a2, a3, a4⟩ := ihn _ _ _ _ h1
        refine ⟨a1, a2, a3, fun B M rf a w hi hf => wpIn_block (wpIn_mono (a4 B M rf a w hi hf) ?_)⟩
        rintro e a' w' ⟨M', rfl, hi', hev⟩
        cases x with
        | normal => exact ⟨M', rfl, hi', hev⟩
        | goto l => exact ⟨M', rfl, hi', hev⟩
        | ret => exact ⟨M', rfl, hi', hev⟩
        | exit id' =>
          show (if id' = id then _ else _)
          rw [if_neg (fun e => hne (by rw [e]))]
          exact ⟨M', rfl, hi', hev⟩
    | loop c =>
      have hle : ∀ m, m ≤ n + 1 → ∀ s1, evC P callF m (.loop c) s1 = some (x, s') → s1.nid ≤ s'.nid ∧ s'.kp = s1.kp ∧ s'.nt = s1.nt := by
        intro m
        induction m with
        | zero => intro _ s1 h1; cases h1
        | succ m ihm =>
          intro hmn s1 h1
          have h1 : thenN (evC P callF m c s1) (evC P callF m (.loop c)) = some (x, s') := h1
          rcases thenN_some h1 with ⟨s2, h2, h3⟩ | ⟨h2, _⟩
          · obtain ⟨a1, a2, a3, _⟩ := ih m (by omega) _ _ _ _ h2
            obtain ⟨b1, b2, b3⟩ := ihm (by omega) s2 h3
            exact ⟨Nat.le_trans a1 b1, b2.trans a2, b3.trans a3⟩
          · obtain ⟨a1, a2, a3, _⟩ := ih m (by omega) _ _ _ _ h2
            exact ⟨a1, a2, a3⟩
      have h : evC P callF (n + 1) (.loop c) s = some (x, s') := h
      obtain ⟨l1, l2, l3⟩ := hle (n + 1) (Nat.le_refl _) s h
      refine ⟨l1, l2, l3, fun B M rf a w hi hf => ?_⟩
      refine wp_loop_fuel (fun m a1 w1 => m ≤ n + 1 ∧ ∃ s1 M1, evC P callF m (.loop c) s1 = some (x, s') ∧ CInv P B M1 rf s1 a1 w1 ∧ Evol M s.hp.get s.nid w M1 s1.hp.get s1.nid w1 ∧ ∀ id, s1.nid ≤ id → id < s'.nid → M1 id = none)
        (fun a1 w1 hx => by obtain ⟨_, s1, M1, h1, _⟩ := hx; cases h1) (fun m a1 w1 hx => ?_) (n + 1) a w ⟨Nat.le_refl _, s, M, h, hi, Evol.refl _ _ _ _, hf⟩
      obtain ⟨hmn, s1, M1, h1, hi1, hev1, hf1⟩ := hx
      have h1 : thenN (evC P callF m c s1) (evC P callF m (.loop c)) = some (x, s') := h1
      rcases thenN_some h1 with ⟨s2, h2, h3⟩ | ⟨h2, hne⟩
      · obtain ⟨a1', a2, a3, a4⟩ := ih m (by omega) _ _ _ _ h2
        have hl := (hle m (by omega) s2 h3).1
        refine wpIn_mono (a4 B M1 rf a1 w1 hi1 fun id k1 k2 => hf1 id k1 (by omega)) ?_
        rintro e a2 w2 ⟨M2, rfl, hi2, hev2⟩
        refine ⟨by omega, s2, M2, h3, hi2, hev1.trans hev2, fun id k1 k2 => ?_⟩
        cases e : M2 id with
        | none => rfl
        | some z => have := hev2.dom id (hf1 id (by omega) k2) (by rw [e]; simp); omega
      · obtain ⟨a1', a2, a3, a4⟩ := ih m (by omega) _ _ _ _ h2
        refine wpIn_mono (a4 B M1 rf a1 w1 hi1 hf1) ?_
        rintro e a2 w2 ⟨M2, rfl, hi2, hev2⟩
        cases x with
        | normal => exact absurd rfl hne
        | exit id => exact ⟨M2, rfl, hi2, hev1.trans hev2⟩
        | goto l => exact ⟨M2, rfl, hi2, hev1.trans hev2⟩
        | ret => exact ⟨M2, rfl, hi2, hev1.trans hev2⟩
end
end Ev
end Go.Proofs.Ytagpaoglcjcaeaa
