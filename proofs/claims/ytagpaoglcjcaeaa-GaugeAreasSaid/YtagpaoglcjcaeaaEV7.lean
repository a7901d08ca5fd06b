import Derived.Test.YtagpaoglcjcaeaaEV6
set_option linter.unusedSimpArgs false
set_option linter.unusedVariables false
namespace Go.Proofs.Ytagpaoglcjcaeaa
namespace Ev

section
variable {P : Program} {B : Nat} {M : Mp} {e : Operand → Option Value} {ρ : Operand → Value} {o : Oper} {hp : T AObj} {nid : Nat} {w : World} {r : OR}

theorem run_cmp {op : BinOp} {t : TypeId} {x y : Operand} {a b : Int} {c : Bool} (h : cmpI op a b = some c) :
    ((do eqGuard op t x y (.int .i64 a) (.int .i64 b); binOp op t (.int .i64 a) (.int .i64 b)) : Sem Value).run P w = .ok (.bool c) w := by
  cases op <;> simp only [cmpI] at h <;> cases h
  case eql => simp [eqGuard, binOp, Op.intCmp, eqI_eq]; by_cases hab : a = b <;> simp [hab]
  case neq => simp [eqGuard, binOp, Op.intCmp, eqI_eq, bne]; by_cases hab : a = b <;> simp [hab]
  case lss => simp [eqGuard, binOp, Op.intCmp, ltI_eq]
  case leq => simp [eqGuard, binOp, Op.intCmp, ltI_eq, ← Int.not_lt]
  case gtr => simp [eqGuard, binOp, Op.intCmp, ltI_eq]
  case geq => simp [eqGuard, binOp, Op.intCmp, ltI_eq, ← Int.not_lt]
theorem posI_ne {b : Int} (h : posI b = true) : b ≠ 0 := by
  intro e; subst e; cases h
theorem run_arith {op : BinOp} {t : TypeId} {x y : Operand} {a b c : Int} (h : arith op a b = some c) (hf : fitI c = true) :
    ((do eqGuard op t x y (.int .i64 a) (.int .i64 b); binOp op t (.int .i64 a) (.int .i64 b)) : Sem Value).run P w = .ok (.int .i64 c) w := by
  have hw := fitI_wrap hf
  cases op <;> simp only [arith] at h
  case add =>
    cases h
    have hw : IntKind.i64.wrap (a + b) = a + b := hw
    simp [eqGuard, binOp, Op.intArith, hw]
    try rfl
  case sub =>
    cases h
    have hw : IntKind.i64.wrap (a - b) = a - b := hw
    simp [eqGuard, binOp, Op.intArith, hw]
    try rfl
  case mul =>
    cases h
    have hw : IntKind.i64.wrap (a * b) = a * b := hw
    simp [eqGuard, binOp, Op.intArith, hw]
    try rfl
  case quo =>
    obtain ⟨hp, h⟩ := ck_some h
    cases h
    simp [eqGuard, binOp, Op.intDiv, posI_ne hp, hw]
  case rem =>
    obtain ⟨hp, h⟩ := ck_some h
    cases h
    simp [eqGuard, binOp, Op.intDiv, posI_ne hp]
  all_goals cases h

theorem isNil_rel {t : TypeId} {v v' : Value} {b : Bool} (h : isNil P t v = some b) (hr : VRel M v v') : isNil P t v' = some b := by
  unfold isNil at h ⊢
  split at h <;> cases h
  · cases hr <;> simp_all
  · cases hr <;> simp_all
  · cases hr <;> simp_all
  · cases hr <;> simp_all
theorem run_equal_nil {t : TypeId} {a b : Value} {i j : Bool} (ha : isNil P t a = some i) (hb : isNil P t b = some j) (hij : (i || j) = true) :
    (Op.equal t a b).run P w = .ok (i && j) w := by
  simp only [Op.equal, Op.maxDepth]
  rw [show (10000 : Nat) = 9999 + 1 from rfl, Op.equalIn]
  unfold isNil at ha hb
  split at ha
  · rename_i el ba n c hu
    rw [hu] at hb
    cases ha
    cases b <;> simp at hb
    rename_i bb m k
    subst hb
    rw [Sem.run_bind, run_underlying hu w]
    cases ba <;> cases bb <;> simp_all
  · rename_i el ba hu
    rw [hu] at hb
    cases ha
    cases b <;> simp at hb
    rename_i bb
    subst hb
    rw [Sem.run_bind, run_underlying hu w]
    cases ba <;> cases bb <;> simp_all
  · rename_i x1 x2 x3 hu
    rw [hu] at hb
    cases ha
    rw [Sem.run_bind, run_underlying hu w]
    cases b <;> simp at hb <;> subst hb <;> simp
  · rename_i x1 x2 x3 x4 x5 x6 hu
    rw [hu] at hb
    cases ha
    rw [Sem.run_bind, run_underlying hu w]
    cases b <;> simp at hb <;> subst hb <;> simp_all
  · cases ha
theorem run_nil {op : BinOp} {t : TypeId} {x y : Operand} {a b : Value} {i j : Bool} (ha : isNil P t a = some i) (hb : isNil P t b = some j) (hij : (i || j) = true) {c : Bool}
    (hc : (op = .eql ∧ c = (i && j)) ∨ (op = .neq ∧ c = !(i && j))) :
    ((do eqGuard op t x y a b; binOp op t a b) : Sem Value).run P w = .ok (.bool c) w := by
  have he := run_equal_nil (w := w) ha hb hij
  have hg : (eqGuard op t x y a b).run P w = .ok () w := by
    unfold isNil at ha
    split at ha <;> cases ha <;> rcases hc with ⟨rfl, rfl⟩ | ⟨rfl, rfl⟩ <;> simp [eqGuard]
  rw [Sem.run_bind, hg, Result.andThen_ok]
  have hne : ∀ k n, a ≠ .int k n := by
    intro k n hx; subst hx; unfold isNil at ha; split at ha <;> simp_all
  have hnf : ∀ k n, a ≠ .float k n := by
    intro k n hx; subst hx; unfold isNil at ha; split at ha <;> simp_all
  have hnc : ∀ k n m, a ≠ .complex k n m := by
    intro k n m hx; subst hx; unfold isNil at ha; split at ha <;> simp_all
  have hns : ∀ n, a ≠ .string n := by
    intro n hx; subst hx; unfold isNil at ha; split at ha <;> simp_all
  rcases hc with ⟨rfl, rfl⟩ | ⟨rfl, rfl⟩
  · cases a <;> simp_all [binOp]
  · cases a <;> simp_all [binOp]

theorem with2_cases {β : Type} {a b : Value} {k : Int → Int → Option β} {z : Option β} {y : β} (h : with2 a b k z = some y) :
    (∃ x1 x2, a = .int .i64 x1 ∧ b = .int .i64 x2 ∧ k x1 x2 = some y) ∨ z = some y := by
  unfold with2 at h
  split at h
  · exact .inl ⟨_, _, rfl, rfl, h⟩
  · exact .inr h
theorem ok_bin {op : BinOp} {t yt : TypeId} {x y : Operand} (ho : o.op = .binOp op t x y yt) (h : oBin op t x y P e o hp nid = some r) (he : ERel M e ρ) :
    NOk P B M hp nid w ((execOp ρ o).run P w) r := by
  have hsel : ∀ cs b, o.op ≠ .select cs b := fun cs b hx => by rw [ho] at hx; cases hx
  obtain ⟨a, ha, h⟩ := ob_some h
  obtain ⟨b, hb, h⟩ := ob_some h
  have h1 := he x _ ha
  have h2 := he y _ hb
  have hex : ∀ (v : Value), ((do eqGuard op t x y (ρ x) (ρ y); binOp op t (ρ x) (ρ y)) : Sem Value).run P w = .ok v w → (execOp ρ o).run P w = .ok (.value v) w := by
    intro v hv
    unfold execOp
    rw [ho]
    simp only
    rw [Sem.run_bind, hv]
    rfl
  rcases with2_cases h with ⟨m, n, ea, eb, h3⟩ | h3 <;> clear h
  · subst ea
    subst eb
    have h : (Option.rec (Option.rec (evFlat P e o) (fun r => bi (fitI r) (some (.val (.int .i64 r))) (evFlat P e o)) (arith op m n)) (fun r => some (.val (.bool r))) (cmpI op m n) : Option OR) = some r := h3
    clear h3
    generalize hy1 : ρ x = y1 at h1
    generalize hy2 : ρ y = y2 at h2
    cases h1
    cases h2
    rw [hy1, hy2] at hex
    cases hc : cmpI op m n with
    | some c =>
      rw [hc] at h
      cases h
      exact ⟨_, hex _ (run_cmp hc), .bool c⟩
    | none =>
      rw [hc] at h
      cases hr : arith op m n with
      | none => rw [hr] at h; exact ok_flat hsel h he
      | some c =>
        rw [hr] at h
        rcases bi_some h with ⟨hf, h⟩ | ⟨_, h⟩
        · cases h
          exact ⟨_, hex _ (run_arith hr hf), .int .i64 c⟩
        · exact ok_flat hsel h he
  · rcases bi_some h3 with ⟨_, h⟩ | ⟨_, h⟩
    · exact ok_flat hsel h he
    · obtain ⟨i, hi, h⟩ := ob_some h
      obtain ⟨j, hj, h⟩ := ob_some h
      obtain ⟨hij, h⟩ := ck_some h
      have hi' := isNil_rel hi h1
      have hj' := isNil_rel hj h2
      split at h
      · cases h
        exact ⟨_, hex _ (run_nil hi' hj' hij (.inl ⟨rfl, rfl⟩)), .bool _⟩
      · cases h
        exact ⟨_, hex _ (run_nil hi' hj' hij (.inr ⟨rfl, rfl⟩)), .bool _⟩
      · cases h

/-- a row that has moved to a new number, in the block where it lay, or in none -/
theorem HRel.del {g g' : Mem} (h : HRel P B M g w) {id : Nat} (hg : ∀ i, g' i = if i = id then none else g i) : HRel P B M g' w :=
  h.sub fun i x e => by rw [hg] at e; split at e <;> simp_all
theorem HRel.move {g g' : Mem} (h : HRel P B M g w) {id nid b r : Nat} {o o' : AObj} {c0 c1 : Array Value} {el : TypeId} (hg : g id = some o) (e : M id = some (b, r)) (hn : M nid = none)
    (hw : w.heap[b]? = some (.cells c0 el (0, 0))) (ho : ORel P (M.upd nid b r) r o' (.cells c1 el (0, 0)))
    (hg' : ∀ i, g' i = if i = nid then some o' else if i = id then none else g i) : HRel P B (M.upd nid b r) g' (w.setRow b c1) where
  has := fun i x ex => by
    rw [hg'] at ex
    split at ex
    · rename_i hi
      cases ex
      subst hi
      obtain ⟨b', r', ob, e1, e2, _, _⟩ := h.has id o hg
      rw [e] at e1
      cases e1
      exact ⟨b, r, _, Mp.upd_self _ _ _ _, e2, setRow_heap w b c0 c1 el (0, 0) hw, ho⟩
    · split at ex
      · cases ex
      · rename_i hi hi2
        obtain ⟨b', r', ob, e1, e2, e3, e4⟩ := h.has i x ex
        refine ⟨b', r', ob, Mp.upd_ext hn i _ e1, e2, ?_, e4.ext (Mp.upd_ext hn)⟩
        rw [setRow_other w b b' c1 (fun eb => ?_)]
        · exact e3
        · subst eb
          exact hi2 (h.inj i id b' r' r (by rw [ex]; rfl) (by rw [hg]; rfl) e1 e)
  inj := fun i j b1 r1 r2 hi hj e1 e2 => by
    rw [hg'] at hi hj
    unfold Mp.upd at e1 e2
    by_cases h1 : i = nid
    · by_cases h2 : j = nid
      · rw [h1, h2]
      · simp only [h1, h2, if_true, if_false] at e1 e2 hj
        cases e1
        split at hj
        · cases hj
        · rename_i h3
          exact absurd (h.inj j id _ _ _ hj (by rw [hg]; rfl) e2 e) h3
    · by_cases h2 : j = nid
      · simp only [h1, h2, if_true, if_false] at e1 e2 hi
        cases e2
        split at hi
        · cases hi
        · rename_i h3
          exact absurd (h.inj i id _ _ _ hi (by rw [hg]; rfl) e1 e) h3
      · simp only [h1, h2, if_false] at e1 e2 hi hj
        split at hi
        · cases hi
        · split at hj
          · cases hj
          · exact h.inj i j b1 r1 r2 hi hj e1 e2
theorem Evol.move {g g' : Mem} {id nid b r : Nat} {o o' : AObj} {c1 : Array Value} (hg : g id = some o) (e : M id = some (b, r)) (hn : M nid = none)
    (hg' : ∀ i, g' i = if i = nid then some o' else if i = id then none else g i) : Evol M g nid w (M.upd nid b r) g' (nid + 1) (w.setRow b c1) where
  os := rfl
  tape := rfl
  output := rfl
  size := by rw [setRow_size]; exact Nat.le_refl _
  frame := fun k hk hx => setRow_other w b k c1 (fun ek => hx id r (by rw [hg]; rfl) (by rw [ek]; exact e))
  fresh := fun i b1 r1 hi ei => by
    rw [hg'] at hi
    unfold Mp.upd at ei
    by_cases h1 : i = nid
    · simp only [h1, if_true] at ei; cases ei; exact .inl ⟨id, r, by rw [hg]; rfl, e⟩
    · simp only [h1, if_false] at ei hi
      split at hi
      · cases hi
      · exact .inl ⟨i, r1, hi, ei⟩
  ext := Mp.upd_ext hn
  dom := fun i hi hm => by
    unfold Mp.upd at hm
    by_cases h1 : i = nid
    · omega
    · simp only [h1, if_false] at hm; exact absurd hi hm
  le := by omega

/-- what grows: into the block where it lay, or into a new one -/
theorem zeroCells_size {z : Array Value} (n : Nat) : (Builtin.zeroCells z n).size = n * z.size := size_zeroCells z n
theorem ok_append {at_ : Array TypeId} {s x s' x' : Value} {ty : TypeId} (h : evAppend P at_ s x hp nid = some r) (hs : VRel M s s') (hx : VRel M x x') (hh : HRel P B M hp.get w)
    (hB : B ≤ w.heap.size) (hn : nid < topOf nid r → M nid = none) : NOk P B M hp nid w (((do pure (.value (← Builtin.append_ at_ ty #[s', x']))) : Sem Next).run P w) r := by
  obtain ⟨t, ht, h⟩ := ob_some h
  obtain ⟨t', ht', h⟩ := ob_some h
  obtain ⟨el, hel, h⟩ := ob_some h
  obtain ⟨i, hi, h⟩ := ob_some h
  obtain ⟨z, hz, h⟩ := ob_some h
  obtain ⟨hck, h⟩ := ck_some h
  simp only [Bool.and_eq_true] at hck
  obtain ⟨k1, k2, k3, k4, k5⟩ := hck
  have k1 := Nat.eq_of_beq_eq_true k1
  have k2 := Nat.eq_of_beq_eq_true k2
  have k3 : z.cells.size = i.1 := by simpa using Nat.eq_of_beq_eq_true k3
  have k4 := Nat.le_of_ble_eq_true k4
  have k5 := Nat.le_of_ble_eq_true k5
  have hfin := h
  clear h
  subst k1
  have hat : at_ = #[t, t] := by
    apply Array.ext'
    apply List.ext_getElem?
    intro k
    match k with
    | 0 => simpa using ht
    | 1 => simpa using ht'
    | k + 2 => rw [List.getElem?_eq_none (by omega)]; simp
  subst hat
  obtain ⟨ti, h1, h2, h3⟩ := infoT_some hi
  obtain ⟨ti', h1', hzero, _⟩ := zeroV_some hz
  rw [h1] at h1'
  cases h1'
  have hu := elemT_some hel
  have hsz : sizeT P el = some i.1 := by unfold sizeT; rw [h1]; show some ti.size = some i.1; rw [h2]
  rcases withSlc_some hfin with ⟨_, _, _, h0⟩ | ⟨bx, ox, m, cx, ex, h0⟩
  · cases h0
  subst ex
  obtain ⟨rx, hrx, h01⟩ := ob_some h0
  obtain ⟨c, ec, pc, erx, h02⟩ := withRow_some h01
  subst erx
  obtain ⟨news, hnews, h03⟩ := ob_some h02
  obtain ⟨hone, h04⟩ := ck_some h03
  have hone := ones_all hone
  obtain ⟨b', r', obx, ebx, _, hwx, hox⟩ := hh.has bx _ hrx
  obtain ⟨news', hrel, hcells, hlen⟩ := cells_of hox hwx hnews
  have hlen' : news'.length = m * ti.size := by rw [hlen, h2]; rfl
  have hlenA : news.length = m * i.1 := by rw [hrel.1, hlen]; rfl
  have hone' := hrel.ones hone
  obtain ⟨cx', ex'⟩ : ∃ cx', x' = .slice (some ⟨b', ox, none⟩) m cx' := by
    cases hx with
    | slc hb _ => rw [ebx] at hb; cases hb; exact ⟨_, rfl⟩
    | slo hb _ => rw [ebx] at hb; cases hb; exact ⟨_, rfl⟩
  subst ex'
  have h0' : evAppendTo hp nid el i.1 m s news = some r := h04
  clear h04 h03
  -- what is made anew
  have grown : ∀ (olds olds' : List Value) (len cap : Nat) (g : T AObj), evGrow g nid (olds ++ news) el (len + m) = some r → LRel M olds olds' → (∀ v ∈ olds, one v = true) → olds.length = len * i.1 → len + m ≤ 100000 →
      HRel P B M g.get w → (∀ id o, g.get id = some o → hp.get id = some o) →
      (Builtin.append_ #[t, t] ty #[s', .slice (some ⟨b', ox, none⟩) m cx']).run P w = .ok (.slice (some ⟨w.heap.size, 0, none⟩) (len + m) (grownCap w (len + m) cap el))
        (w.drew.alloc (.cells (olds'.toArray ++ news'.toArray ++ Builtin.zeroCells z.cells (grownCap w (len + m) cap el - (len + m))) el)) →
      NOk P B M hp nid w (((do pure (.value (← Builtin.append_ #[t, t] ty #[s', .slice (some ⟨b', ox, none⟩) m cx']))) : Sem Next).run P w) r := by
    intro olds olds' len cap g hg hol hoo hol2 hsmall hgg hsub hrun
    obtain ⟨g2, hg2, hg⟩ := ob_some hg
    cases hg
    have hM : M nid = none := hn (by simp [topOf])
    have hge := grownCap_ge w (len + m) cap el
    have hcm : grownCap w (len + m) cap el ≤ maxLen := grownCap_le_maxLen w (len + m) cap el (by simp only [maxLen]; omega)
    have hget := T.get_set _ _ _ _ hg2
    have hO : ORel P (M.upd nid w.heap.size (grownCap w (len + m) cap el)) (grownCap w (len + m) cap el) (.row (olds ++ news) el true)
        (.cells (olds'.toArray ++ news'.toArray ++ Builtin.zeroCells z.cells (grownCap w (len + m) cap el - (len + m))) el (0, 0)) := by
      refine ⟨_, rfl, fun v hv => (List.mem_append.1 hv).elim (hoo v) (hone v), fun hx => (by cases hx), fun _ => ⟨?_, hcm, i.1, hsz, ?_⟩⟩
      · have e1 : (olds'.toArray ++ news'.toArray ++ Builtin.zeroCells z.cells (grownCap w (len + m) cap el - (len + m))).toList = (olds' ++ news') ++ (Builtin.zeroCells z.cells (grownCap w (len + m) cap el - (len + m))).toList := by simp
        rw [e1, (hol.append hrel).1, List.take_left]
        exact (hol.append hrel).ext (Mp.upd_ext hM)
      · have : (olds'.toArray ++ news'.toArray ++ Builtin.zeroCells z.cells (grownCap w (len + m) cap el - (len + m))).size = olds'.length + news'.length + (grownCap w (len + m) cap el - (len + m)) * z.cells.size := by
          simp [size_zeroCells]
        rw [this, ← hol.1, hol2, hlen', h2, k3, ← Nat.add_mul, ← Nat.add_mul]
        congr 1
        omega
    refine ⟨.value _, _, _, M.upd nid w.heap.size (grownCap w (len + m) cap el), by rw [Sem.run_bind, hrun]; rfl, .inl rfl, .slo (Mp.upd_self _ _ _ _) hge, ?_, ?_⟩
    · exact hgg.push hB hM hget rfl hO
    · have hev : Evol M g.get nid w (M.upd nid w.heap.size (grownCap w (len + m) cap el)) g2.get (nid + 1) (w.drew.alloc (.cells (olds'.toArray ++ news'.toArray ++ Builtin.zeroCells z.cells (grownCap w (len + m) cap el - (len + m))) el)) :=
        Evol.push hgg hM hget rfl rfl rfl rfl
      exact { hev with
        frame := fun b hb hx => hev.frame b hb (fun id r hi => hx id r (by obtain ⟨o, ho⟩ := Option.isSome_iff_exists.1 hi; rw [hsub id o ho]; rfl))
        fresh := fun id b r hi ei => (hev.fresh id b r hi ei).imp (fun ⟨i0, r0, hi0, e0⟩ => ⟨i0, r0, by obtain ⟨o, ho⟩ := Option.isSome_iff_exists.1 hi0; rw [hsub i0 o ho]; rfl, e0⟩) (fun x => x) }
  have hbytes : ∀ k, k ≤ 100000 → k * ti.bytes ≤ 140737488355328 := fun k hk => by
    have : k * ti.bytes ≤ 100000 * 100000 := Nat.mul_le_mul hk (by omega)
    omega
  rcases withSlc_some h0' with ⟨l0, c0, es, h7⟩ | ⟨b, off, len, cap, es, h7⟩ <;> clear h0'
  · subst es
    obtain ⟨hck, h8⟩ := ck_some h7
    clear h7
    simp only [Bool.and_eq_true] at hck
    obtain ⟨q1, q2, q3, q4⟩ := hck
    have q1 := Nat.eq_of_beq_eq_true q1
    have q2 := Nat.eq_of_beq_eq_true q2
    have q3 := Nat.le_of_ble_eq_true q3
    have q4 := Nat.le_of_ble_eq_true q4
    subst q1
    subst q2
    cases hs
    have hrun := run_append_nil (P := P) w t ty el ti z hu h1 hzero ⟨b', ox, none⟩ m cx' news' hlen' hcells (by omega) (by omega) (by have := hbytes m q4; omega)
    exact grown [] [] 0 0 hp (by simpa using h8) (LRel.nil M) (by simp) (by simp) (by omega) hh (fun _ _ e => e) (by simpa using hrun)
  · subst es
    obtain ⟨ro, hro, ha⟩ := ob_some h7
    obtain ⟨cs, el', opn, ero, hb'⟩ := withRow_some ha
    subst ero
    obtain ⟨hck, hc'⟩ := ck_some hb'
    clear ha h7
    simp only [Bool.and_eq_true] at hck
    obtain ⟨q1, q2, q3, q4⟩ := hck
    have q1 := Nat.eq_of_beq_eq_true q1
    have q2 := Nat.eq_of_beq_eq_true q2
    have q3 : len * i.1 ≤ cs.length := Nat.le_of_ble_eq_true q3
    have q4 : len + m ≤ 100000 := Nat.le_of_ble_eq_true q4
    subst q1
    subst q2
    obtain ⟨bb, rr, obs, ebs, hBb, hws, hos⟩ := hh.has b _ hro
    have hos' := hos
    obtain ⟨cur, rfl, hones, hcl, hop⟩ := hos'
    have htake : LRel M (cs.take (len * i.1)) (cur.toList.take (len * i.1)) := by
      cases opn with
      | false => exact (hcl rfl).take _
      | true =>
        have := (hop rfl).1.take (len * i.1)
        rw [List.take_take, Nat.min_eq_left q3] at this
        exact this
    have hcur : len * i.1 ≤ cur.size := by
      have := htake.1
      simp at this
      omega
    have holds : ∀ j v, (cur.toList.take (len * i.1))[j]? = some v → w.cell? ((⟨bb, 0, none⟩ : Addr).add j) = some v := by
      intro j v e
      rw [List.getElem?_take] at e
      split at e
      · rw [Addr.add_lit, Nat.zero_add, cell_of_row w bb j cur el' (0, 0) hws]; simpa using e
      · cases e
    have hlo : (cur.toList.take (len * i.1)).length = len * ti.size := by rw [List.length_take, h2]; simp; omega
    have htl : (cs.take (len * i.1)).length = len * i.1 := by simp; omega
    rcases bi_some hc' with ⟨hO, h9⟩ | ⟨hO, h9⟩ <;> clear hc'
    · have hO := Nat.eq_of_beq_eq_true hO
      subst hO
      obtain ⟨hopn, h10⟩ := ck_some h9
      clear h9
      subst hopn
      obtain ⟨g, hg, h11⟩ := ob_some h10
      clear h10
      have hgd := T.get_set _ _ _ _ hg
      obtain ⟨_, hrm, sz, hsz', hcs⟩ := hop rfl
      rw [hsz] at hsz'
      cases hsz'
      cases hs with
      | slc _ hne => exact absurd rfl hne
      | slo hb hnr =>
        rw [ebs] at hb
        cases hb
        by_cases hroom : len + m ≤ rr
        · have hfit : len * ti.size + news'.length ≤ cur.size := by rw [hlen', hcs, h2, ← Nat.add_mul]; exact Nat.mul_le_mul_right _ hroom
          have hrun := run_append_room (P := P) w t ty el' ti hu h1 bb len rr cur hws ⟨b', ox, none⟩ m cx' news' hlen' hcells hone' hroom hfit
          obtain ⟨g2, hg2, h12⟩ := ob_some h11
          cases h12
          have hM : M nid = none := hn (by simp [topOf])
          have hget : ∀ k, g2.get k = if k = nid then some (.row (cs.take (len * i.1) ++ news) el' true) else if k = b then none else hp.get k := fun k => by
            rw [T.get_set _ _ _ _ hg2 k, hgd]
            rfl
          rw [h2] at hrun
          refine ⟨.value _, _, _, M.upd nid bb rr, by rw [Sem.run_bind, hrun]; rfl, .inl rfl, .slo (Mp.upd_self _ _ _ _) hroom, ?_, ?_⟩
          · refine hh.move (o' := .row (cs.take (len * i.1) ++ news) el' true) hro ebs hM hws ⟨_, rfl, ?_, fun hx => (by cases hx), fun _ => ⟨?_, hrm, i.1, hsz, ?_⟩⟩ hget
            · intro v hv
              rcases List.mem_append.1 hv with hv | hv
              · exact hones v (List.mem_of_mem_take hv)
              · exact hone v hv
            · simp only [List.toList_toArray]
              have hap := htake.append hrel
              rw [hap.1, List.take_left]
              exact hap.ext (Mp.upd_ext hM)
            · rw [h2] at hfit
              simp
              rw [← hcs]
              omega
          · exact Evol.move hro ebs hM hget
        · have hrun := run_append_grow (P := P) w t ty el' ti z hu h1 hzero ⟨bb, 0, none⟩ len rr _ hlo holds ⟨b', ox, none⟩ m cx' news' hlen' hcells (by omega) (by omega) (growslice_fits (by omega) (hbytes _ q4))
          exact grown _ _ len rr g h11 htake (fun v hv => hones v (List.mem_of_mem_take hv)) htl q4 (hh.del hgd) (fun k o e => by rw [hgd] at e; split at e <;> simp_all) hrun
    · have hO := Nat.ne_of_beq_eq_false hO
      cases hs with
      | slo hb hnr => exact absurd rfl hO
      | slc hb hne =>
        rw [ebs] at hb
        cases hb
        rcases bi_some h9 with ⟨hroom, h10⟩ | ⟨hroom, h10⟩ <;> clear h9
        · have hroom : len + m ≤ cap := Nat.le_of_ble_eq_true hroom
          obtain ⟨hopn, ha⟩ := ck_some h10
          clear h10
          have hopn : opn = false := by simpa using hopn
          subst hopn
          obtain ⟨c1, hc1, hb2⟩ := ob_some ha
          clear ha
          obtain ⟨g, hg, h11⟩ := ob_some hb2
          clear hb2
          cases h11
          have hgd := T.get_set _ _ _ _ hg
          have hfitA : len * i.1 + news.length ≤ cs.length ∧ c1 = lay cs (len * i.1) news := by
            rcases setsFrom_eq _ _ _ _ hc1 with ⟨e1, e2⟩ | ⟨e1, e2⟩
            · exact ⟨e2, e1⟩
            · subst e1; subst e2; exact ⟨by simpa using q3, by simp [lay]⟩
          obtain ⟨hfA, rfl⟩ := hfitA
          have hcc : cs.length = cur.size := by have := (hcl rfl).1; simpa using this
          have hfit : len * ti.size + news'.length ≤ cur.size := by rw [h2, ← hrel.1]; omega
          have hrun := run_append_room (P := P) w t ty el' ti hu h1 bb len cap cur hws ⟨b', ox, none⟩ m cx' news' hlen' hcells hone' hroom hfit
          rw [h2] at hrun
          refine ⟨.value _, _, _, M, by rw [Sem.run_bind, hrun]; rfl, .inl rfl, .slc ebs hne, ?_, ?_⟩
          · exact hh.setRow hro ebs hws (hos.lay hrel hone hfA) hgd
          · exact Evol.setRow nid hro ebs hgd
        · have hroom : ¬ len + m ≤ cap := fun hx => by
            have := Nat.ble_eq_true_of_le hx
            have h5 : Nat.ble (len + m) cap = false := hroom
            rw [this] at h5; cases h5
          have hrun := run_append_grow (P := P) w t ty el' ti z hu h1 hzero ⟨bb, 0, none⟩ len cap _ hlo holds ⟨b', ox, none⟩ m cx' news' hlen' hcells (by omega) (by omega) (growslice_fits (by omega) (hbytes _ q4))
          exact grown _ _ len cap hp h10 htake (fun v hv => hones v (List.mem_of_mem_take hv)) htl q4 hh (fun _ _ e => e) hrun
end
end Ev
end Go.Proofs.Ytagpaoglcjcaeaa
