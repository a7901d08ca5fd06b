import Derived.Test.YtagpaoglcjcaeaaEV4
set_option linter.unusedSimpArgs false
set_option linter.unusedVariables false
namespace Go.Proofs.Ytagpaoglcjcaeaa
namespace Ev

theorem setNth_rel {M : Mp} : ∀ (c c' : List Value) (i : Nat) (v v' : Value) (l : List Value), setNth c i v = some l → LRel M c c' → VRel M v v' → setNth c' i v' = some (c'.set i v') ∧ LRel M l (c'.set i v')
  | [], _, i, v, v', l, h, _, _ => by cases h
  | x :: c, [], i, v, v', l, h, hc, _ => by simp [LRel] at hc
  | x :: c, x' :: c', i, v, v', l, h, hc, hv => by
    have h0 : bi (Nat.beq i 0) (some (v :: c)) (ob (setNth c (Nat.sub i 1) v) fun l => some (x :: l)) = some l := h
    have h1 : setNth (x' :: c') i v' = bi (Nat.beq i 0) (some (v' :: c')) (ob (setNth c' (Nat.sub i 1) v') fun l => some (x' :: l)) := rfl
    rw [h1]
    rw [bi_if, beq_eq] at h0 ⊢
    cases i with
    | zero => simp at h0; subst h0; exact ⟨by simp, LRel.cons hv hc.tail⟩
    | succ i =>
      simp at h0
      obtain ⟨l', hl, h0⟩ := ob_some h0
      cases h0
      obtain ⟨k1, k2⟩ := setNth_rel c c' i v v' l' hl hc.tail hv
      simp [k1]
      exact ⟨rfl, LRel.cons hc.head k2⟩
theorem sets_rel {M : Mp} : ∀ (vs vs' : List Value) (i : Nat) (c c' l : List Value), setsFrom vs i c = some l → LRel M vs vs' → LRel M c c' → ∃ l', setsFrom vs' i c' = some l' ∧ LRel M l l'
  | [], [], i, c, c', l, h, _, hc => by cases h; exact ⟨c', rfl, hc⟩
  | [], _ :: _, i, c, c', l, h, hv, _ => by simp [LRel] at hv
  | _ :: _, [], i, c, c', l, h, hv, _ => by simp [LRel] at hv
  | v :: vs, v' :: vs', i, c, c', l, h, hv, hc => by
    have h' : (ob (setNth c i v) fun c => setsFrom vs (Nat.succ i) c) = some l := h
    obtain ⟨c1, hc1, h'⟩ := ob_some h'
    obtain ⟨k1, k2⟩ := setNth_rel c c' i v v' c1 hc1 hc hv.head
    obtain ⟨l', k3, k4⟩ := sets_rel vs vs' (i + 1) c1 _ l h' hv.tail k2
    exact ⟨l', by show (ob (setNth c' i v') fun c => setsFrom vs' (Nat.succ i) c) = some l'; rw [k1]; exact k3, k4⟩
theorem fold_sets : ∀ (vs : List Value) (k off : Nat) (c : Array Value) (l : List Value), setsFrom vs (off + k) c.toList = some l →
    ((vs.zipIdx k).foldl (fun (cs : Array Value) (p : Value × Nat) => cs.setIfInBounds (off + p.2) p.1) c).toList = l
  | [], k, off, c, l, h => by cases h; rfl
  | v :: vs, k, off, c, l, h => by
    have h' : (ob (setNth c.toList (off + k) v) fun c => setsFrom vs (Nat.succ (off + k)) c) = some l := h
    obtain ⟨c1, hc1, h'⟩ := ob_some h'
    obtain ⟨rfl, hi⟩ := setNth_eq _ _ _ _ hc1
    rw [List.zipIdx_cons, List.foldl_cons]
    refine fold_sets vs (k + 1) off _ l ?_
    rw [Array.toList_setIfInBounds]
    exact h'

/-- parts that go together -/
def PRel (M : Mp) : List (Nat × Value) → List (Nat × Value) → Prop
  | [], [] => True
  | x :: xs, y :: ys => x.1 = y.1 ∧ VRel M x.2 y.2 ∧ PRel M xs ys
  | _, _ => False
theorem fill_rel {M : Mp} {pa pc : Nat → Option (Nat × Nat)} : ∀ (l l' : List (Nat × Value)) (c : List Value) (c' : Array Value) (c1 : List Value), fillV pa l c = some c1 → PRel M l l' → LRel M c c'.toList →
    (∀ i x, pa i = some x → pc i = some x) → ∃ cs, Instr.fill pc c' l' = some cs ∧ LRel M c1 cs.toList
  | [], [], c, c', c1, h, _, hc, _ => by cases h; exact ⟨c', rfl, hc⟩
  | [], _ :: _, c, c', c1, h, hp, _, _ => by simp [PRel] at hp
  | _ :: _, [], c, c', c1, h, hp, _, _ => by simp [PRel] at hp
  | x :: xs, y :: ys, c, c', c1, h, hp, hc, hpl => by
    obtain ⟨i, v⟩ := x
    obtain ⟨j, v'⟩ := y
    obtain ⟨e, hv, hp⟩ := hp
    simp only at e hv
    subst e
    have h' : (ob (pa i) fun p => ck (Nat.beq v.cells.toList.length p.2 && Nat.ble 1 p.2) (ob (setsFrom v.cells.toList p.1 c) fun c => fillV pa xs c)) = some c1 := h
    obtain ⟨⟨off, n⟩, hpi, h'⟩ := ob_some h'
    obtain ⟨hck, h'⟩ := ck_some h'
    obtain ⟨c2, hc2, h'⟩ := ob_some h'
    simp only [Bool.and_eq_true] at hck
    have hlen := Nat.eq_of_beq_eq_true hck.1
    have hpos := Nat.le_of_ble_eq_true hck.2
    have hcl := hv.cells
    obtain ⟨l', k1, k2⟩ := sets_rel _ _ off c c'.toList c2 hc2 hcl hc
    have hfit : off + v'.cells.size ≤ c'.size := by
      rcases setsFrom_eq _ _ _ _ k1 with ⟨_, hf⟩ | ⟨hn, _⟩
      · simpa using hf
      · have h0 := hcl.1
        rw [hn, List.length_nil] at h0
        omega
    have hsz : v'.cells.size = n := by rw [← hlen]; simpa using hcl.1.symm
    have hfold := fold_sets v'.cells.toList 0 off c' l' (by simpa using k1)
    have e1 : v'.cells.zipIdx.foldl (fun (cs : Array Value) (p : Value × Nat) => cs.setIfInBounds (off + p.2) p.1) c' = l'.toArray := by
      rw [← Array.foldl_toList, Array.toList_zipIdx]
      exact Array.toList_inj.1 (by rw [hfold])
    obtain ⟨cs, k3, k4⟩ := fill_rel xs ys c2 l'.toArray c1 h' hp (by simpa using k2) hpl
    refine ⟨cs, ?_, k4⟩
    rw [Instr.fill, hpl i _ hpi]
    simp only [hsz, ne_eq, not_true_eq_false, decide_false, Bool.false_or, decide_eq_true_eq]
    rw [if_neg (by simp; omega)]
    rw [← k3, ← e1]

theorem evParts_rel {M : Mp} {e : Operand → Option Value} {ρ : Operand → Value} (he : ERel M e ρ) : ∀ (l : List (Nat × Operand)) (l' : List (Nat × Value)), evParts e l = some l' → PRel M l' (l.map fun (i, x) => (i, ρ x))
  | [], l', h => by cases h; trivial
  | x :: xs, l', h => by
    have h' : (ob (e x.2) fun v => ob (evParts e xs) fun l => some ((x.1, v) :: l)) = some l' := h
    obtain ⟨v, hv, h'⟩ := ob_some h'
    obtain ⟨l1, hl, h'⟩ := ob_some h'
    cases h'
    exact ⟨rfl, he _ _ hv, evParts_rel he xs l1 hl⟩
theorem evs_rel {M : Mp} {e : Operand → Option Value} {ρ : Operand → Value} (he : ERel M e ρ) : ∀ (l : List Operand) (l' : List Value), evs e l = some l' → LRel M l' (l.map ρ)
  | [], l', h => by cases h; exact LRel.nil M
  | x :: xs, l', h => by
    have h' : (ob (e x) fun v => ob (evs e xs) fun l => some (v :: l)) = some l' := h
    obtain ⟨v, hv, h'⟩ := ob_some h'
    obtain ⟨l1, hl, h'⟩ := ob_some h'
    cases h'
    exact LRel.cons (he _ _ hv) (evs_rel he xs l1 hl)

section
variable {P : Program} {B : Nat} {M : Mp} {e : Operand → Option Value} {ρ : Operand → Value} {o : Oper} {hp : T AObj} {nid : Nat} {w : World} {r : OR}

theorem mapM_places : ∀ (l : List Field), (l.all fun f => (sizeT P f.type).isSome) = true → ∃ l' : List (Nat × Nat), (l.mapM fun (f : Field) => (do pure (f.offset, ← sizeOf f.type) : Sem (Nat × Nat))).run P w = .ok l' w ∧
    ∀ (i : Nat) (f : Field) (n : Nat), l[i]? = some f → sizeT P f.type = some n → l'[i]? = some (f.offset, n)
  | [], _ => ⟨[], by simp [List.mapM_nil], fun i f n h => by simp at h⟩
  | x :: xs, h => by
    simp only [List.all_cons, Bool.and_eq_true] at h
    obtain ⟨l', k1, k2⟩ := mapM_places xs h.2
    obtain ⟨n, hn⟩ := Option.isSome_iff_exists.1 h.1
    refine ⟨(x.offset, n) :: l', by simp only [List.mapM_cons, Sem.run_bind, run_sizeT hn, Result.andThen_ok, k1, Sem.run_pure], fun i f m hi hm => ?_⟩
    cases i with
    | zero => simp at hi; subst hi; rw [hn] at hm; cases hm; rfl
    | succ i => simpa using k2 i f m (by simpa using hi) hm

theorem ok_build {t : TypeId} {parts : Array (Nat × Operand)} (h : oBuild t parts P e o hp nid = some r) (he : ERel M e ρ) :
    NOk P B M hp nid w (((do pure (.value (← Instr.build t (parts.map fun (i, x) => (i, ρ x))))) : Sem Next).run P w) r := by
  obtain ⟨l, hl, h⟩ := ob_some h
  obtain ⟨z, hz, h⟩ := ob_some h
  have hp := evParts_rel he _ _ hl
  obtain ⟨iz, _, _, hf, _⟩ := zeroV_some hz
  have hzz : LRel M z.cells.toList z.cells.toList := (flat2_same M hf).cells
  have hlist : (parts.map fun (i, x) => (i, ρ x)).toList = parts.toList.map fun (i, x) => (i, ρ x) := by simp
  rcases bi_some h with ⟨hall, h⟩ | ⟨_, h⟩
  · obtain ⟨c, hc, h⟩ := ob_some h
    cases h
    unfold allFields at hall
    split at hall
    · rename_i fields hu
      obtain ⟨l', k1, k2⟩ := mapM_places (P := P) (w := w) fields.toList hall
      have k1' : (fields.mapM fun (f : Field) => (do pure (f.offset, ← sizeOf f.type) : Sem (Nat × Nat))).run P w = .ok l'.toArray w := by
        rw [Array.mapM_eq_mapM_toList, Sem.run_map, k1]
        rfl
      obtain ⟨cs, k3, k4⟩ := fill_rel (pc := fun i => l'.toArray[i]?) _ _ _ z.cells _ hc hp hzz (fun i x hx => by
        obtain ⟨f, h1, hx⟩ := ob_some hx
        obtain ⟨n, h2, hx⟩ := ob_some hx
        cases hx
        obtain ⟨fs, h3, h4⟩ := fieldOf_some h1
        rw [hu] at h3
        cases h3
        have := k2 i f n (by simpa using h4) h2
        simpa using this)
      refine ⟨.agg cs, ?_, LRel.agg (by simpa using k4)⟩
      simp only [Instr.build, Sem.run_bind, run_zeroV hz, Result.andThen_ok, run_underlying hu w, k1', hlist, k3, Sem.run_pure]
    · cases hall
  · obtain ⟨a, ha, h⟩ := ob_some h
    obtain ⟨n, hn, h⟩ := ob_some h
    obtain ⟨c, hc, h⟩ := ob_some h
    cases h
    have hu := arrT_some ha
    obtain ⟨cs, k3, k4⟩ := fill_rel (pc := fun i => some (i * n, n)) _ _ _ z.cells _ hc hp hzz (fun i x hx => hx)
    refine ⟨.agg cs, ?_, LRel.agg (by simpa using k4)⟩
    simp only [Instr.build, Sem.run_bind, run_zeroV hz, Result.andThen_ok, run_underlying hu w, run_sizeT hn, hlist, k3, Sem.run_pure]

theorem zerosOf_length (z : List Value) : ∀ n, (zerosOf z n).length = n * z.length
  | 0 => by simp [zerosOf]
  | n + 1 => by rw [zerosOf, List.length_append, zerosOf_length z n, Nat.succ_mul]; omega
theorem zerosOf_get (z : List Value) (hz : 0 < z.length) : ∀ n k, k < n * z.length → (zerosOf z n)[k]? = z[k % z.length]?
  | 0, k, h => by omega
  | n + 1, k, h => by
    rw [zerosOf]
    by_cases hk : k < z.length
    · rw [List.getElem?_append_left hk, Nat.mod_eq_of_lt hk]
    · have e1 : (n + 1) * z.length = n * z.length + z.length := Nat.succ_mul _ _
      rw [List.getElem?_append_right (by omega), zerosOf_get z hz n _ (by omega), ← Nat.mod_eq_sub_mod (by omega)]
theorem zerosOf_eq (z : Array Value) (hz : 0 < z.size) (n m : Nat) (hm : m = n * z.size) : (Array.range m).map (fun i => z[i % z.size]!) = (zerosOf z.toList n).toArray := by
  subst hm
  apply Array.ext'
  simp only [Array.toList_map, Array.toList_range]
  apply List.ext_getElem?
  intro k
  by_cases hk : k < n * z.size
  · rw [zerosOf_get z.toList (by simpa using hz) n k (by simpa using hk)]
    have hlt : k % z.size < z.size := Nat.mod_lt _ hz
    simp [hk, hlt]
  · rw [List.getElem?_eq_none (by simp; omega), List.getElem?_eq_none (by rw [zerosOf_length]; simp; omega)]
theorem zerosOf_mem (z : List Value) : ∀ n v, v ∈ zerosOf z n → v ∈ z
  | 0, v, h => by simp [zerosOf] at h
  | n + 1, v, h => by
    rw [zerosOf] at h
    rcases List.mem_append.1 h with h | h
    · exact h
    · exact zerosOf_mem z n v h

theorem zeroV_atoms {t : TypeId} {z : Value} (hz : zeroV P t = some z) : ∀ v ∈ z.cells.toList, atom v = true := by
  obtain ⟨iz, _, _, hf, h1⟩ := zeroV_some hz
  intro v hv
  cases z with
  | agg cs => simp only [flat2, List.all_eq_true] at hf; exact hf v hv
  | tuple cs => simp [Value.cells, one, Value.oneCell'] at h1
  | _ => simp [Value.cells] at hv; subst hv; exact hf
theorem ok_buildSlice {t : TypeId} {len : Nat} {parts : Array (Nat × Operand)} (h : oBuildSlice t len parts P e o hp nid = some r) (he : ERel M e ρ) (hnid : M nid = none) :
    NOk P B M hp nid w (((do pure (.value (← Instr.buildSlice t len (parts.map fun (i, x) => (i, ρ x))))) : Sem Next).run P w) r := by
  obtain ⟨el, hel, h⟩ := ob_some h
  obtain ⟨n, hn, h⟩ := ob_some h
  obtain ⟨l, hl, h⟩ := ob_some h
  obtain ⟨z, hz, h⟩ := ob_some h
  obtain ⟨hck, h⟩ := ck_some h
  obtain ⟨c, hc, h⟩ := ob_some h
  obtain ⟨hone, h⟩ := ck_some h
  cases h
  simp only [Bool.and_eq_true] at hck
  have h1 := Nat.le_of_ble_eq_true hck.1
  have h2 := Nat.le_of_ble_eq_true hck.2.1
  have h3 : z.cells.size = n := by simpa using Nat.eq_of_beq_eq_true hck.2.2
  have h1 : len * n ≤ 100000 := h1
  have hu := elemT_some hel
  have hp := evParts_rel he _ _ hl
  obtain ⟨iz, _, _, hf, _⟩ := zeroV_some hz
  have hlist : (parts.map fun (i, x) => (i, ρ x)).toList = parts.toList.map fun (i, x) => (i, ρ x) := by simp
  have hzz : LRel M (zerosOf z.cells.toList len) (zerosOf z.cells.toList len).toArray.toList := by
    simp only [List.toList_toArray]
    refine LRel.same fun v hv => atom_same M ?_
    exact zeroV_atoms hz v (zerosOf_mem _ _ _ hv)
  obtain ⟨cs, k3, k4⟩ := fill_rel (pc := fun i => some (i * n, n)) _ _ _ (zerosOf z.cells.toList len).toArray _ hc hp hzz (fun i x hx => hx)
  refine ⟨.slice (some ⟨w.heap.size, 0, none⟩) len len, .cells cs el, ?_, .slc (Mp.upd_self _ _ _ _) ?_, ⟨cs, rfl, ones_all hone, fun _ => k4, fun hx => by cases hx⟩⟩
  · have hbig : ¬ len * n > 2 ^ 24 := by omega
    by_cases h0 : len * n = 0
    · have hlen : len = 0 := by
        rcases Nat.mul_eq_zero.1 h0 with h | h
        · exact h
        · omega
      subst hlen
      have k3' : Instr.fill (fun i => some (i * n, n)) #[] (parts.toList.map fun (i, x) => (i, ρ x)) = some cs := k3
      simp only [Instr.buildSlice, Sem.run_bind, run_underlying hu w, Result.andThen_ok, run_sizeT hn, Nat.zero_mul, if_true, Sem.run_pure, hlist, newRow, run_newObj]
      rw [if_neg (by omega)]
      have e0 : ∀ f : Nat → Value, (Array.range 0).map f = #[] := fun f => by simp
      simp only [Sem.run_bind, Sem.run_pure, Result.andThen_ok, e0, k3', newRow, run_newObj]
    · have hz0 := zerosOf_eq z.cells (by omega) len (len * n) (by rw [h3])
      rw [h3] at hz0
      simp only [Instr.buildSlice, Sem.run_bind, run_underlying hu w, Result.andThen_ok, run_sizeT hn, if_neg hbig, if_neg h0, run_zeroV hz, Sem.run_pure, h3, hz0, hlist, k3, newRow, run_newObj]
  · have : len ≤ 100000 := Nat.le_trans (Nat.le_mul_of_pos_right len (by omega)) h1
    simp only [OPEN]; omega
end

end Ev
end Go.Proofs.Ytagpaoglcjcaeaa
