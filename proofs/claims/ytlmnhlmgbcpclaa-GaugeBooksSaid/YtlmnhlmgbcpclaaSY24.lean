import Derived.Test.YtlmnhlmgbcpclaaSY23
set_option linter.unusedSimpArgs false
set_option linter.unusedVariables false
namespace Go.Proofs.Ytlmnhlmgbcpclaa
namespace Sy
variable {P : Pg}
open Go.RowKit

noncomputable def valOf (HS : List (Nat × Nat)) (t : Nat) (v : Value) (fin : List Value) : Value := List.rec (fun _ => v) (fun x _ ih fin => List.rec v (fun u us _ => bi (Nat.beq x.1 t) u (ih us)) fin) HS fin
noncomputable def setVals (HS : List (Nat × Nat)) (fin : List Value) (tm : Tm) : Tm := tm.map fun x => (x.1, valOf HS x.1 x.2 fin)
theorem agt_setVals (HS : List (Nat × Nat)) (fin : List Value) (tm : Tm) (t : Nat) : agt (setVals HS fin tm) t = (agt tm t).map (fun v => valOf HS t v fin) := agt_map (fun t v => valOf HS t v fin) tm t
theorem valOf_cases : ∀ (HS : List (Nat × Nat)) (fin : List Value) (t : Nat) (v : Value), HS.length = fin.length → (∃ (j h : Nat) (u : Value), HS[j]? = some (t, h) ∧ fin[j]? = some u ∧ valOf HS t v fin = u ∧ holeOf HS t v = .iface 0 (.int .i64 (.ofNat h))) ∨ (valOf HS t v fin = v ∧ holeOf HS t v = v ∧ ∀ x ∈ HS, x.1 ≠ t)
  | [], [], t, v, _ => .inr ⟨rfl, rfl, fun x hx => by cases hx⟩
  | [], _ :: _, t, v, h => by cases h
  | _ :: _, [], t, v, h => by cases h
  | x :: HS, u :: fin, t, v, hl => by
    have e : valOf (x :: HS) t v (u :: fin) = bi (Nat.beq x.1 t) u (valOf HS t v fin) := rfl
    have e' : holeOf (x :: HS) t v = bi (Nat.beq x.1 t) (.iface 0 (.int .i64 (.ofNat x.2))) (holeOf HS t v) := rfl
    cases hb : Nat.beq x.1 t with
    | true =>
      have := Nat.eq_of_beq_eq_true hb
      rw [hb] at e e'
      exact .inl ⟨0, x.2, u, by rw [← this]; rfl, rfl, e, e'⟩
    | false =>
      rw [hb] at e e'
      rcases valOf_cases HS fin t v (by simpa using hl) with ⟨j, h, u', h1, h2, h3, h4⟩ | ⟨h1, h2, h3⟩
      · exact .inl ⟨j + 1, h, u', by simpa using h1, by simpa using h2, e.trans h3, e'.trans h4⟩
      · refine .inr ⟨e.trans h1, e'.trans h2, fun y hy => ?_⟩
        rcases List.mem_cons.1 hy with rfl | hy
        · intro k
          rw [k, Nat.beq_refl] at hb
          cases hb
        · exact h3 y hy
/-- a loop that goes on until its slots hold what is told; the last round is run as it is -/
theorem loop_adv {b : Code} {S0 : St} {top : Nat} {HS : List (Nat × Nat)} {fin : List Value} (hdf0 : S0.df = []) (htop : S0.nid ≤ top) (hcl : cleanS S0 HS) (hlen : HS.length = fin.length)
    (Inv : List Int → Prop) (meas : List Int → Nat) (x0 : List Int) (h0 : Inv x0) (init : ∀ (t : Nat) (u : Value) (j h : Nat), agt S0.tm t = some u → HS[j]? = some (t, h) → ∃ x, x0[j]? = some x ∧ Dv P.den u x)
    (x1 : List Int) (hfin : ∀ (j : Nat) (u : Value), fin[j]? = some u → ∃ x, x1[j]? = some x ∧ Dv P.den u x)
    (step : ∀ xs, Inv xs → xs = x1 ∨ ∃ (P' : Pg) (rec : CodeF), P'.prog = P.prog ∧ P'.den = updD P.den (HS.map fun h => h.2) xs ∧ CodeOkAt P' rec b ∧
      ∃ posts ys, goesOn S0 { S0 with nid := top } HS posts (rec b { S0 with tm := setHoles HS S0.tm }) = true ∧ Inv ys ∧ meas ys < meas xs ∧ ∀ (j t h : Nat), HS[j]? = some (t, h) → ∃ u y, (t, u) ∈ posts ∧ ys[j]? = some y ∧ Dv P'.den u y)
    {recF : CodeF} (hrecF : CodeOkAt P recF b) {y : AX} {s' : St} (hF : recF b { S0 with nid := top, tm := setVals HS fin S0.tm } = some (y, s')) (hny : y ≠ .normal) :
    ∀ B M rf a w, CInv P B M rf S0 a w → (∀ id, S0.nid ≤ id → id < s'.nid → M id = none) →
      (Code.loop b).wpIn (Fr rf) 0 P (fun e a' w' => ∃ M', e = exitOf y ∧ CInv P B M' rf s' a' w' ∧ Evol M S0.hp.get S0.nid w M' s'.hp.get s'.nid w') a w := by
  intro B M rf a w hi hf
  obtain ⟨cl1, cl2, cl3⟩ := hcl
  obtain ⟨f1, f2, f3, f4⟩ := hrecF _ _ _ hF
  have hf1 : top ≤ s'.nid := f1
  let ks := HS.map fun h => h.2
  -- slots and memory have none of these symbols, but for the slots of numbers
  have slot : ∀ t v, agt S0.tm t = some v → (∀ x ∈ HS, x.1 ≠ t) → noH2 ks 40 v = true := fun t v e hne => by
    have := List.all_eq_true.1 cl1 _ (agt_mem e)
    rcases Bool.or_eq_true_iff.1 this with h | h
    · obtain ⟨x, hx, e⟩ := any_slot h; exact absurd e (hne x hx)
    · exact h
  have outN : ∀ xs (n : Nat), n ∉ ks → (updD P.den ks xs).hole n = P.den.hole n := fun xs n h => holeU_out ks xs n _ h
  have getK : ∀ (j t h : Nat), HS[j]? = some (t, h) → ks[j]? = some h := fun j t h e => by
    show (HS.map fun h => h.2)[j]? = _
    rw [List.getElem?_map, e]; rfl
  -- what holds ahead of each round
  let Rnd : List Int → Act → World → Prop := fun xs a1 w1 => ∃ (P' : Pg), P'.prog = P.prog ∧ P'.den = updD P.den ks xs ∧ CInv P' B M rf { S0 with tm := setHoles HS S0.tm } a1 w1 ∧ Evol M S0.hp.get S0.nid w M S0.hp.get S0.nid w1
  have evS : ∀ {M1 : Mp} {g1 : Mem} {n1 : Nat} {w1 w2 : World}, Evol M S0.hp.get S0.nid w1 M1 g1 n1 w2 → ∀ n2, S0.nid ≤ n2 → Evol M S0.hp.get S0.nid w1 M S0.hp.get n2 w2 := fun {M1 g1 n1 w1 w2} h n2 hn =>
    ⟨h.os, h.tape, h.output, h.size, h.frame, fun id b r hi e => .inl ⟨id, r, hi, e⟩, fun id b r hi e => .inl ⟨id, r, hi, e⟩, Ext.refl _, fun id h k => absurd h k, hn⟩
  refine wp_loop_fuel (fun n a1 w1 => ∃ xs, Inv xs ∧ meas xs < n ∧ Rnd xs a1 w1) (fun a1 w1 h => by obtain ⟨xs, _, h, _⟩ := h; omega) (fun n a1 w1 h => ?_) (meas x0 + 1) a w ⟨x0, h0, Nat.lt_succ_self _, ?_⟩
  · obtain ⟨xs, hI, hm, Q, hQp, hQd, hc, hev⟩ := h
    rcases step xs hI with rfl | ⟨P', rec, hp', hd', hok, posts, ys, hgo, hIy, hmy, hpost⟩
    · -- the last round
      have hcF : CInv P B M rf { S0 with nid := top, tm := setVals HS fin S0.tm } a1 w1 := by
        refine ⟨hc.defers, hc.rnd, hc.size, ?_, ?_, hc.base_⟩
        · intro t v e
          rw [show ({ S0 with nid := top, tm := setVals HS fin S0.tm } : St).tm = setVals HS fin S0.tm from rfl, agt_setVals] at e
          cases e0 : agt S0.tm t with
          | none => rw [e0] at e; cases e
          | some v0 =>
            rw [e0] at e
            have e : valOf HS t v0 fin = v := Option.some.inj e
            obtain ⟨q1, v', q2, q3⟩ := hc.tmps t (holeOf HS t v0) (by rw [show ({ S0 with tm := setHoles HS S0.tm } : St).tm = setHoles HS S0.tm from rfl, agt_setHoles, e0]; rfl)
            refine ⟨q1, v', q2, ?_⟩
            rcases valOf_cases HS fin t v0 hlen with ⟨j, h, u, h1, h2, h3, h4⟩ | ⟨h1, h2, h3⟩
            · rw [h4] at q3
              obtain ⟨z', p1, p2⟩ := hfin j u h2
              obtain ⟨z, rfl, dz⟩ := vrel_num q3 (by rfl)
              have dz2 : Dv (updD P.den ks xs) (.iface 0 (.int .i64 (.ofNat h))) z := by rw [← hQd]; exact dz
              have := dz2.unique _ (.hole (holeU_in ks xs j h z' _ cl3 (getK j t h h1) p1))
              subst this
              rw [← e, h3]
              exact p2.vrel
            · rw [h2] at q3
              rw [← e, h1]
              exact VRel.den2 (P := Q) (P' := P) (k := ks) (by rw [hQd]; exact ⟨rfl, rfl, rfl⟩) (by rw [hQd]; rfl) (fun n hn => by rw [hQd]; exact (outN xs n hn).symm) 40 v0 v' (slot t v0 e0 h3) q3
        · exact HRel.den2 (P := Q) (P' := P) (k := ks) (by rw [hQd]; exact ⟨rfl, rfl, rfl⟩) hQp.symm (by rw [hQd]; rfl) (fun n hn => by rw [hQd]; exact (outN xs n hn).symm) (by rw [hQd]; rfl) (by rw [hQd]; rfl) (fun id o e => T.allO_get S0.hp id o cl2 e) hc.heap
      refine wpIn_mono (f4 B M rf a1 w1 hcF (fun id k1 k2 => hf id (Nat.le_trans htop k1) k2)) ?_
      rintro e a2 w2 ⟨M1, rfl, hi1, hev1⟩
      have ev : Evol M S0.hp.get S0.nid w M1 s'.hp.get s'.nid w2 := by
        exact (evS hev top htop).trans hev1
      cases y with
      | normal => exact absurd rfl hny
      | exit id => exact ⟨M1, rfl, hi1, ev⟩
      | goto l => exact ⟨M1, rfl, hi1, ev⟩
      | ret => exact ⟨M1, rfl, hi1, ev⟩
    have hdd : P'.den = Q.den := hd'.trans hQd.symm
    have hpp : P'.prog = Q.prog := hp'.trans hQp.symm
    have hc' : CInv P' B M rf { S0 with tm := setHoles HS S0.tm } a1 w1 := hc.congr hdd hpp
    have hPP : (P' : Program) = P.prog := hp'
    -- memory behind a round, as it was
    have memB : ∀ {M1 : Mp} {hp1 : T AObj} {w2 : World}, Ext M M1 → keepT S0.hp hp1 = true → HRel P' B M1 hp1.get w2 → HRel P' B M S0.hp.get w2 := fun {M1 hp1 w2} hx hk hh => by
      refine ⟨fun id o e => ?_, fun i j b r r' hi hj e1 e2 => ?_, fun b c hb => ⟨(hh.old b c hb).1, (hc'.heap.old b c hb).2⟩⟩
      · obtain ⟨e1, e2⟩ := keepT_get _ _ id o hk e
        obtain ⟨b1, r1, ob1, k1, k2, k3, k4⟩ := hh.has id o e1
        obtain ⟨b0, r0, ob0, q1, q2, q3, q4⟩ := hc'.heap.has id o e
        rw [hx _ _ q1] at k1
        cases k1
        exact ⟨_, _, ob1, q1, k2, k3, q4.back hx (eqO_loop e2) k4⟩
      · cases hi' : S0.hp.get i with
        | none => rw [hi'] at hi; cases hi
        | some oi =>
          cases hj' : S0.hp.get j with
          | none => rw [hj'] at hj; cases hj
          | some oj =>
            obtain ⟨p1, _⟩ := keepT_get _ _ i oi hk hi'
            obtain ⟨p2, _⟩ := keepT_get _ _ j oj hk hj'
            exact hh.inj i j b r r' (by rw [p1, ← hi']; exact hi) (by rw [p2]; rfl) (hx _ _ e1) (hx _ _ e2)
    cases hr : rec b { S0 with tm := setHoles HS S0.tm } with
    | none => rw [hr] at hgo; cases hgo
    | some q =>
      obtain ⟨y, s1⟩ := q
      rw [hr] at hgo
      have hgo : (isNm y && (Nat.beq s1.df.length 0 && (Nat.ble s1.nid top && (keepT S0.hp s1.hp && ((S0.tm.all fun x => (HS.any fun h => Nat.beq h.1 x.1) || agtIs s1.tm x.1 x.2) && posts.all fun x => agtIs s1.tm x.1 x.2))))) = true := hgo
      simp only [Bool.and_eq_true] at hgo
      obtain ⟨g1, g0, g2, g3, g4, g5⟩ := hgo
      have g0 : s1.df = [] := List.length_eq_zero_iff.1 (Nat.eq_of_beq_eq_true g0)
      have g2 := Nat.le_of_ble_eq_true g2
      obtain ⟨c1, c2, c3, c4⟩ := hok _ _ _ hr
      have := c4 B M rf a1 w1 hc' (fun id k1 k2 => hf id k1 (by omega))
      rw [hPP] at this
      refine wpIn_mono this ?_
      rintro e a2 w2 ⟨M1, rfl, hi1, hev1⟩
      cases y with
      | normal =>
        refine ⟨ys, hIy, by omega, { prog := P.prog, den := updD P.den ks ys, facts := [], ok := by simp }, rfl, rfl, ⟨?_, ?_, ?_, ?_, ?_, ?_⟩, evS (hev.trans hev1) _ (Nat.le_refl _)⟩
        · have h2 := hi1.defers
          rw [g0] at h2
          show MRel M S0.df a2.defers
          rw [hdf0]
          rw [mrel_nil h2]
          exact .nil
        · exact hc'.rnd
        · rw [hi1.size, c3]
        · intro t v e
          rw [show ({ S0 with tm := setHoles HS S0.tm } : St).tm = setHoles HS S0.tm from rfl, agt_setHoles] at e
          cases e0 : agt S0.tm t with
          | none => rw [e0] at e; cases e
          | some v0 =>
            rw [e0] at e
            have e : holeOf HS t v0 = v := Option.some.inj e
            rcases holeOf_cases HS t v0 with ⟨j, h, h1, h2⟩ | ⟨h1, h2⟩
            · obtain ⟨u, y, p1, p2, p3⟩ := hpost j t h h1
              have := agtIs_eq (List.all_eq_true.1 g5 _ p1)
              obtain ⟨q1, v', q2, q3⟩ := hi1.tmps t u this
              refine ⟨by rw [← c2]; exact q1, v', q2, ?_⟩
              obtain ⟨z, rfl, dz⟩ := vrel_num q3 p3.num
              have := p3.unique _ dz
              subst this
              rw [← e, h2]
              exact .sym (.hole (holeU_in ks ys j h y _ cl3 (getK j t h h1) p2)) (.inl (Nat.zero_le _))
            · have hk : agtIs s1.tm t v0 = true := by
                have := List.all_eq_true.1 g4 _ (agt_mem e0)
                rcases Bool.or_eq_true_iff.1 this with h | h
                · obtain ⟨x, hx, e⟩ := any_slot h; exact absurd e (h2 x hx)
                · exact h
              obtain ⟨q1, v', q2, q3⟩ := hi1.tmps t v0 (agtIs_eq hk)
              refine ⟨by rw [← c2]; exact q1, v', q2, ?_⟩
              rw [← e, h1]
              obtain ⟨_, v'', _, q4⟩ := hc'.tmps t v0 (by rw [show ({ S0 with tm := setHoles HS S0.tm } : St).tm = setHoles HS S0.tm from rfl, agt_setHoles, e0]; exact congrArg some h1)
              refine VRel.den2 (P := P') (k := ks) (by rw [hd']; exact ⟨rfl, rfl, rfl⟩) ?_ ?_ 40 v0 v' (slot t v0 e0 h2) (q4.back hev1.ext q3)
              · rw [hd']; rfl
              · intro n hn
                rw [hd']
                exact (outN ys n hn).trans (outN xs n hn).symm
        · refine HRel.den2 (P := P') (k := ks) (by rw [hd']; exact ⟨rfl, rfl, rfl⟩) hp'.symm ?_ ?_ ?_ ?_ (fun id o e => T.allO_get S0.hp id o cl2 e) (memB hev1.ext g3 hi1.heap)
          · rw [hd']; rfl
          · intro n hn
            rw [hd']
            exact (outN ys n hn).trans (outN xs n hn).symm
          · rw [hd']; rfl
          · rw [hd']; rfl
        · exact hi1.base_
      | exit id => cases g1
      | goto l => cases g1
      | ret => cases g1
  · refine ⟨{ prog := P.prog, den := updD P.den ks x0, facts := [], ok := by simp }, rfl, rfl, ⟨hi.defers, hi.rnd, hi.size, ?_, ?_, hi.base_⟩, Evol.refl _ _ _ _⟩
    · intro t v e
      rw [show ({ S0 with tm := setHoles HS S0.tm } : St).tm = setHoles HS S0.tm from rfl, agt_setHoles] at e
      cases e0 : agt S0.tm t with
      | none => rw [e0] at e; cases e
      | some v0 =>
        rw [e0] at e
        have e : holeOf HS t v0 = v := Option.some.inj e
        obtain ⟨q1, v', q2, q3⟩ := hi.tmps t v0 e0
        refine ⟨q1, v', q2, ?_⟩
        rcases holeOf_cases HS t v0 with ⟨j, h, h1, h2⟩ | ⟨h1, h2⟩
        · obtain ⟨x, p1, p2⟩ := init t v0 j h e0 h1
          obtain ⟨z, rfl, dz⟩ := vrel_num q3 p2.num
          have := p2.unique _ dz
          subst this
          rw [← e, h2]
          exact .sym (.hole (holeU_in ks x0 j h x _ cl3 (getK j t h h1) p1)) (.inl (Nat.zero_le _))
        · rw [← e, h1]
          exact VRel.den2 (P := P) (P' := { prog := P.prog, den := updD P.den ks x0, facts := [], ok := by simp }) (k := ks) ⟨rfl, rfl, rfl⟩ rfl (fun n hn => outN x0 n hn) 40 v0 v' (slot t v0 e0 h2) q3
    · exact HRel.den2 (P := P) (P' := { prog := P.prog, den := updD P.den ks x0, facts := [], ok := by simp }) (k := ks) ⟨rfl, rfl, rfl⟩ rfl rfl (fun n hn => outN x0 n hn) rfl rfl (fun id o e => T.allO_get S0.hp id o cl2 e) hi.heap

/-! Loops that are told: the slots that turn, the ways through a round, what the slots hold ahead of the last round. A run that comes to such a loop reckons one round for each way, and then the last one, wherever the loop stands. -/

structure Wy where
  facts : List Fact
  seqs : List (Value × Value × Bool) := []
  posts : List (Nat × Value)
/-- the function, the loop's first region and 1; slots and holes, what they hold at first; ways; what they hold ahead of the last round; loops within -/
inductive LSpec where
  | mk (f key : Nat) (hs : List (Nat × Nat)) (ini : List Value) (ways : List Wy) (fin : List Value) (inner : List LSpec)
def LSpec.f : LSpec → Nat | .mk f _ _ _ _ _ _ => f
def LSpec.key : LSpec → Nat | .mk _ k _ _ _ _ _ => k
def LSpec.hs : LSpec → List (Nat × Nat) | .mk _ _ h _ _ _ _ => h
def LSpec.ini : LSpec → List Value | .mk _ _ _ i _ _ _ => i
def LSpec.ways : LSpec → List Wy | .mk _ _ _ _ w _ _ => w
def LSpec.fin : LSpec → List Value | .mk _ _ _ _ _ o _ => o
def LSpec.inner : LSpec → List LSpec | .mk _ _ _ _ _ _ i => i
def Pd.more (P : Pd) (w : Wy) : Pd := { P with facts := w.facts ++ P.facts, seqs := w.seqs ++ P.seqs }
noncomputable def finOf (x : LSpec) (s : St) : St := { s with nid := Nat.add s.nid 500, tm := setVals x.hs x.fin s.tm }
noncomputable def roundOf (x : LSpec) (s : St) : St := { s with tm := setHoles x.hs s.tm }
noncomputable def iniOk (x : LSpec) (s : St) : Bool := Nat.beq x.hs.length x.ini.length && (Nat.beq x.hs.length x.fin.length && (x.hs.zip x.ini).all fun p => (agt s.tm p.1.1).isNone || agtIs s.tm p.1.1 p.2)
noncomputable def cleanB (x : LSpec) (s : St) : Bool := (s.tm.all fun y => (x.hs.any fun h => Nat.beq h.1 y.1) || noH2 (x.hs.map fun h => h.2) 40 y.2) && T.allO (noHO2 (x.hs.map fun h => h.2)) s.hp
noncomputable def wayOk (P : Pd) (x : LSpec) (code : Pd → CodeF) (b : Code) (s : St) (w : Wy) : Bool := goesOn s { s with nid := Nat.add s.nid 500 } x.hs w.posts (code (P.more w) b (roundOf x s))
def withLp {β : Type} (c : Code) (k : Code → Option β) : Option β :=
  match c with
  | .loop b => k b
  | _ => none
noncomputable def autoLoop (P : Pd) (x : LSpec) (code : Pd → CodeF) (c : Code) (s : St) : Option (AX × St) :=
  withLp c fun b => ck (Nat.beq s.df.length 0 && (iniOk x s && (cleanB x s && x.ways.all (wayOk P x code b s)))) (ob (code P b (finOf x s)) fun q => ck (!isNm q.1) (some q))
noncomputable def findL (tb : List LSpec) (f : Nat) (c : Code) : Option LSpec := List.rec none (fun x _ ih => bi (Nat.beq x.f f && isLoop x.key c) (some x) ih) tb

/-- what must hold of a loop that is told -/
def LoopSem (P : Pg) (x : LSpec) (good : Pg → Prop) : Prop := good P ∧ (x.hs.map fun h => h.2).Nodup ∧ ∃ (Inv : List Int → Prop) (meas : List Int → Nat) (x0 x1 : List Int), Inv x0 ∧ (∀ (j : Nat) (u : Value), x.ini[j]? = some u → ∃ y, x0[j]? = some y ∧ Dv P.den u y) ∧ (∀ (j : Nat) (u : Value), x.fin[j]? = some u → ∃ y, x1[j]? = some y ∧ Dv P.den u y) ∧
  ∀ xs, Inv xs → xs = x1 ∨ ∃ w ∈ x.ways, ∃ P' : Pg, P'.toPd = P.toPd.more w ∧ P'.den = updD P.den (x.hs.map fun h => h.2) xs ∧ good P' ∧
    ∃ ys, Inv ys ∧ meas ys < meas xs ∧ ∀ (j t h : Nat), x.hs[j]? = some (t, h) → ∃ u y, (t, u) ∈ w.posts ∧ ys[j]? = some y ∧ Dv P'.den u y
theorem ok_autoLoop {x : LSpec} {code : Pd → CodeF} {good : Pg → Prop} (hL : LoopSem P x good) (hg : ∀ (P' : Pg) (b : Code), P'.prog = P.prog → good P' → CodeOkAt P' (code P'.toPd) b) (b : Code) : CodeOkAt P (autoLoop P x code) (.loop b) := by
  intro s y s' h
  have h : ck (Nat.beq s.df.length 0 && (iniOk x s && (cleanB x s && x.ways.all (wayOk P x code b s)))) (ob (code P b (finOf x s)) fun q => ck (!isNm q.1) (some q)) = some (y, s') := h
  obtain ⟨hck, h⟩ := ck_some h
  obtain ⟨q, hF, h⟩ := ob_some h
  obtain ⟨hnm, h⟩ := ck_some h
  cases h
  simp only [Bool.and_eq_true] at hck
  obtain ⟨hdf, hini, hcl, hways⟩ := hck
  have hdf : s.df = [] := List.length_eq_zero_iff.1 (Nat.eq_of_beq_eq_true hdf)
  obtain ⟨hgP, hnd, Inv, meas, x0, x1, h0, hx0, hx1, hstep⟩ := hL
  have hcl := Bool.and_eq_true_iff.1 hcl
  unfold iniOk at hini
  simp only [Bool.and_eq_true] at hini
  obtain ⟨hl1, hl2, hini⟩ := hini
  have hlen := Nat.eq_of_beq_eq_true hl1
  have hlen2 := Nat.eq_of_beq_eq_true hl2
  have hny : y ≠ .normal := by
    intro e
    subst e
    cases hnm
  have hrecF := hg P b rfl hgP
  obtain ⟨f1, f2, f3, _⟩ := hrecF _ _ _ hF
  have f1 : s.nid + 500 ≤ s'.nid := f1
  refine ⟨by omega, f2, f3, loop_adv (P := P) (b := b) (S0 := s) (top := Nat.add s.nid 500) (HS := x.hs) (fin := x.fin) hdf (Nat.le_add_right _ _) ⟨hcl.1, hcl.2, hnd⟩ hlen2 Inv meas x0 h0 (fun t u j h' e ej => ?_) x1 hx1 (fun xs hI => ?_) hrecF hF hny⟩
  · have hj : j < x.hs.length := (List.getElem?_eq_some_iff.1 ej).1
    have e1 : x.ini[j]? = some (x.ini[j]'(by omega)) := List.getElem?_eq_getElem _
    obtain ⟨z, k1, k2⟩ := hx0 j _ e1
    have hz : (x.hs.zip x.ini)[j]? = some ((t, h'), x.ini[j]'(by omega)) := by
      rw [List.getElem?_zip_eq_some]
      exact ⟨ej, e1⟩
    have := List.all_eq_true.1 hini _ (List.mem_of_getElem? hz)
    simp only [Bool.or_eq_true] at this
    rcases this with h1 | h1
    · rw [e] at h1; cases h1
    · have := agtIs_eq h1
      rw [e] at this
      cases this
      exact ⟨z, k1, k2⟩
  · rcases hstep xs hI with h1 | ⟨w, hw, P', hp', hd', hgd, ys, h1, h2, h3⟩
    · exact .inl h1
    · have hrun := List.all_eq_true.1 hways w hw
      have hpp : P'.prog = P.prog := by
        have : P'.toPd.prog = (P.toPd.more w).prog := by rw [hp']
        exact this
      refine .inr ⟨P', code P'.toPd, hpp, hd', hg P' b hpp hgd, ?_⟩
      rw [hp']
      exact ⟨w.posts, ys, hrun, h1, h2, h3⟩
theorem findL_some {f : Nat} {c : Code} {x : LSpec} : ∀ (tb : List LSpec), findL tb f c = some x → x ∈ tb ∧ isLoop x.key c = true
  | [], h => by cases h
  | y :: tb, h => by
    have h1 : bi (Nat.beq y.f f && isLoop y.key c) (some y) (findL tb f c) = some x := h
    rcases bi_some h1 with ⟨e, h2⟩ | ⟨_, h2⟩
    · cases h2
      exact ⟨List.mem_cons_self, (Bool.and_eq_true_iff.1 e).2⟩
    · obtain ⟨k1, k2⟩ := findL_some tb h2
      exact ⟨List.mem_cons_of_mem _ k1, k2⟩

noncomputable def callE (P : Pd) (cd : Nat → CodeF) (cr : CodeF) (t : Tgt) : List Value → T AObj → Nat → Option (Value × T AObj × Nat) :=
  match t with
  | .fn f => callAny P (cd f) (.fn f)
  | .yield l => callAny P cr (.yield l)
/-- calls, and the code of a function, with the loops that are told -/
noncomputable def evE (sp : CallF) (k n : Nat) : Pd → List LSpec → CallF × (Nat → CodeF) :=
  Nat.rec (fun _ _ => (fun _ _ _ _ => none, fun _ _ _ => none)) (fun _ ih P tb =>
    (fun t args hp nid => orE (sp t args hp nid) (callE P (ih P tb).2 (evC P (ih P tb).1 k) t args hp nid),
    fun f => evCL (fun c => Option.isSome (findL tb f c)) (fun c s => ob (findL tb f c) fun x => autoLoop P x (fun Q => (ih Q x.inner).2 f) c s) P (ih P tb).1 k)) n
def GoodE (sp : CallF) : Nat → Pg → List LSpec → Prop
  | 0, P, tb => CallOk P sp ∧ tb = []
  | m + 1, P, tb => CallOk P sp ∧ ∀ x ∈ tb, LoopSem P x (fun P' => GoodE sp m P' x.inner)
theorem GoodE.sp {sp : CallF} {m : Nat} {tb : List LSpec} (h : GoodE sp m P tb) : CallOk P sp := by
  cases m with
  | zero => exact h.1
  | succ m => exact h.1
theorem ok_callOfL {rec : CodeF} {f : Nat} (hc : ∀ c, CodeOkAt P rec c) {args : List Value} {hp : T AObj} {nid : Nat} {v : Value} {hp' : T AObj} {nid' : Nat} (h : callAny P rec (.fn f) args hp nid = some (v, hp', nid')) : nid ≤ nid' ∧ ∀ B M (args' : Array Value) w, LRel P M args args'.toList → HRel P B M hp.get w → B ≤ w.heap.size → (∀ id, nid ≤ id → id < nid' → M id = none) →
    CallsT P M (.fn f) args' w fun e w' => ∃ M' v', e = .returned v' ∧ VRel P M' v v' ∧ HRel P B M' hp'.get w' ∧ Evol M hp.get nid w M' hp'.get nid' w' := by
  obtain ⟨x, hx, h⟩ := ob_some h
  rcases bi_some h with ⟨hf, h2⟩ | ⟨_, h2⟩ <;> clear h
  · rw [forceVs_eq] at h2
    rw [Bool.and_eq_true] at hf
    obtain ⟨⟨v1, hp1, nid1⟩, hr, h3⟩ := ob_some h2
    obtain ⟨hfl, h4⟩ := ck_some h3
    cases h4
    obtain ⟨_, hrun⟩ := ok_bodyL (hc x.2) hx hr
    refine ⟨Nat.le_refl _, fun B M args' w hargs hh hB hfree => ?_⟩
    have hargs' : args'.toList = args := LRel.eq hargs (fun u hu u' hr' => flat_eq (List.all_eq_true.1 hf.2 u hu) hr')
    refine (hrun w.heap.size (fun _ => none) args' w (by rw [hargs']; exact LRel.same fun u hu => flat_same _ (List.all_eq_true.1 hf.2 u hu)) ⟨fun id o e => (by cases e), fun i j b r r' hi => (by cases hi), fun b c hb => ⟨(hh.old b c hb).1, fun id r hi => (by cases hi)⟩⟩ (Nat.le_refl _) (fun _ _ _ => rfl)).mono ?_
    rintro e w' ⟨M', v', rfl, hvr, hh', hev⟩
    have hv' : v' = v1 := flat_eq hfl hvr
    subst hv'
    have hall : ∀ b, b < w.heap.size → w'.heap[b]? = w.heap[b]? := fun b hb => hev.frame b hb fun id r hi => by cases hi
    refine ⟨M, v', rfl, flat_same M hfl, ⟨fun id o e => ?_, hh.inj, fun b c hb => ⟨(by
      obtain ⟨⟨el, fr, h1⟩, _⟩ := hh.old b c hb
      exact ⟨el, fr, by rw [hall b (Array.getElem?_eq_some_iff.1 h1).1]; exact h1⟩), (hh.old b c hb).2⟩⟩, ⟨hev.os, hev.tape, hev.output, hev.size, fun b hb _ => hall b hb, fun id b r hi e => .inl ⟨id, r, hi, e⟩, fun id b r hi e => .inl ⟨id, r, hi, e⟩, Ext.refl _, fun id a1 a2 => absurd a1 a2, Nat.le_refl _⟩⟩
    obtain ⟨b, r, ob, e1, e2, e3, e4⟩ := hh.has id o e
    exact ⟨b, r, ob, e1, e2, by rw [hall b (Array.getElem?_eq_some_iff.1 e3).1]; exact e3, e4⟩
  · exact ok_bodyL (hc x.2) hx h2
theorem ok_evE {sp : CallF} {k : Nat} {prog : Program} (hm : prog.follows .mixedOrders = true) : ∀ (n m : Nat) (P : Pg) (tb : List LSpec), P.prog = prog → GoodE sp m P tb → CallOk P (evE sp k n P.toPd tb).1 ∧ ∀ f c, CodeOkAt P ((evE sp k n P.toPd tb).2 f) c
  | 0, m, P, tb, hp, hg => ⟨fun f args hp nid v hp' nid' h => (by cases h), fun f c s x s' h => (by cases h)⟩
  | n + 1, m, P, tb, hp, hg => by
    obtain ⟨ih1, ih2⟩ := ok_evE hm n m P tb hp hg
    refine ⟨fun t args hp0 nid v hp' nid' h => ?_, fun f c => ?_⟩
    · have h1 : orE (sp t args hp0 nid) (callE P (evE sp k n P.toPd tb).2 (evC P (evE sp k n P.toPd tb).1 k) t args hp0 nid) = some (v, hp', nid') := h
      cases hs : sp t args hp0 nid with
      | some x => rw [hs] at h1; have h2 : some x = some (v, hp', nid') := h1; rw [h2] at hs; exact hg.sp _ _ _ _ _ _ _ hs
      | none =>
        rw [hs] at h1
        cases t with
        | fn f => exact ok_callOfL (ih2 f) h1
        | yield l => exact ok_callOf (code_ok ih1 (by rw [hp]; exact hm) k) _ _ _ _ _ _ _ h1
    · show CodeOkAt P (evCL (fun c => Option.isSome (findL tb f c)) (fun c s => ob (findL tb f c) fun x => autoLoop P x (fun Q => (evE sp k n Q x.inner).2 f) c s) P (evE sp k n P.toPd tb).1 k) c
      refine code_okL ih1 (by rw [hp]; exact hm) (Ls := loopsOf c) (fun c' hc' hk => ?_) (fun c' hk => ?_) k c (fun l hl => hl)
      · obtain ⟨x, hx⟩ := Option.isSome_iff_exists.1 hk
        obtain ⟨hmem, hlp⟩ := findL_some tb hx
        obtain ⟨b, rfl⟩ := isLoop_loop hlp
        cases m with
        | zero => rw [hg.2] at hmem; cases hmem
        | succ m =>
          intro s y s' h
          have h : (ob (findL tb f (.loop b)) fun x => autoLoop P x (fun Q => (evE sp k n Q x.inner).2 f) (.loop b) s) = some (y, s') := h
          rw [hx] at h
          exact ok_autoLoop (code := fun Q => (evE sp k n Q x.inner).2 f) (hg.2 x hmem) (fun P' b' hp' hg' => (ok_evE hm n m P' x.inner (hp'.trans hp) hg').2 f b') b s y s' h
      · obtain ⟨x, hx⟩ := Option.isSome_iff_exists.1 hk
        exact isLoop_loop (findL_some tb hx).2

/-! Contracts out of such runs. -/
theorem run_layC {f nid0 : Nat} {pats : List Pt} {callF : CallF} (hc : CallOk P callF) (hl : (ptObjs pats).length ≤ 3) (hnum : (ptObjs pats).all numO = true) {v : Value} {hp1 : T AObj} {nid : Nat} (hn : (ptObjs pats).length ≤ nid0)
    (hrun : callF (.fn f) (ptVals 0 pats) (memT (ptObjs pats)) nid0 = some (v, hp1, nid)) {args' : Array Value} {w : World} (h : PtsR P w pats args'.toList) :
    Calls P.prog f args' w fun e w' => ∃ M M' v', e = .returned v' ∧ VRel P M' v v' ∧ HRel P 0 M' hp1.get w' ∧ Evol M (memT (ptObjs pats)).get nid0 w M' hp1.get nid w' ∧ Below w.heap.size w w' ∧ (∀ id b r, ((memT (ptObjs pats)).get id).isSome = true → M id = some (b, r) → b ∈ blksP pats args'.toList) := by
  obtain ⟨L, h1, h2, h3, h4⟩ := pts_lay pats args'.toList h
  have hg := memT_get hl
  have nw : ∀ id, wrt ((memT (ptObjs pats)).get id) = false := fun id => by
    rw [hg]
    cases e : (ptObjs pats)[id]? with
    | none => rfl
    | some o => exact numO_wrt (List.all_eq_true.1 hnum o (List.mem_of_getElem? e))
  have hh : HRel P 0 (fun id => L[id]?) (memT (ptObjs pats)).get w := ⟨fun id o e => by
    rw [hg] at e
    obtain ⟨b, r, ob, k1, k2, k3⟩ := h3 id o e
    exact ⟨b, r, ob, k1, Nat.zero_le _, k2, k3 _⟩, fun i j b r r' hi => (by rw [nw i] at hi; cases hi), fun b c hb => ⟨pts_ro _ _ h b c hb, fun id r hi => (by rw [nw id] at hi; cases hi)⟩⟩
  have hr := (hc _ _ _ _ _ _ _ hrun).2 0 (fun id => L[id]?) args' w (h2 _ 0 fun i x hx => (by rw [Nat.zero_add]; exact hx)) hh (Nat.zero_le _) (fun id k1 _ => List.getElem?_eq_none (by omega))
  refine Calls.mono hr ?_
  rintro e w' ⟨M', v', rfl, hv, hh', hev⟩
  exact ⟨_, M', v', rfl, hv, hh', hev, ⟨hev.os, hev.tape, hev.output, hev.size, fun b hb => hev.frame b hb fun id r hi => by rw [nw id] at hi; cases hi⟩, fun id b r hi e => h4 (b, r) (List.mem_of_getElem? e)⟩
/-- a run that answers a value without blocks -/
theorem run_entE {k n m f : Nat} {pats : List Pt} {tb : List LSpec} {sp : CallF} (hm : P.prog.follows .mixedOrders = true) (hg : GoodE sp m P tb) {v : Value} (hrun : fstO ((evE sp k n P.toPd tb).1 (.fn f) (ptVals 0 pats) (memT (ptObjs pats)) 3) = some v) (hv : noId 9 v = true)
    (hl : (ptObjs pats).length ≤ 3) (hnum : (ptObjs pats).all numO = true) : EntOk P ⟨f, pats, .v v⟩ := fun args' w h => by
  cases hr : (evE sp k n P.toPd tb).1 (.fn f) (ptVals 0 pats) (memT (ptObjs pats)) 3 with
  | none => rw [hr] at hrun; cases hrun
  | some q =>
    obtain ⟨v1, hp1, nid⟩ := q
    rw [hr] at hrun
    have e1 : v1 = v := Option.some.inj hrun
    subst e1
    refine Calls.mono (run_layC (ok_evE hm n m P tb rfl hg).1 hl hnum hl hr h) ?_
    rintro e w' ⟨M, M', v', rfl, hvr, _, _, hb, _⟩
    exact ⟨hb, v', rfl, fun M2 => hvr.noId 9 _ _ hv⟩
end Sy
end Go.Proofs.Ytlmnhlmgbcpclaa
