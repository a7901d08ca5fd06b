import Derived.Test.YtagpaoglcjcaeaaEV11
set_option linter.unusedSimpArgs false
set_option linter.unusedVariables false
namespace Go.Proofs.Ytagpaoglcjcaeaa
namespace Ev

/-! Counting what is listed. -/
def cnt (l : List Bool) : Nat := (l.filter fun b => b).length
theorem cnt_le (l : List Bool) : cnt l ≤ l.length := List.length_filter_le _ _
theorem cnt_all {l : List Bool} (h : l.length ≤ cnt l) : ∀ i, i < l.length → l.getD i false = true := by
  have e : cnt l = l.length := Nat.le_antisymm (cnt_le l) h
  have := (List.length_filter_eq_length_iff).1 e
  intro i hi
  rw [List.getD_eq_getElem?_getD, List.getElem?_eq_getElem hi]
  exact this _ (List.getElem_mem hi)
theorem cnt_set : ∀ (l : List Bool) (i : Nat), l[i]? = some false → cnt (l.set i true) = cnt l + 1
  | [], i, h => by simp at h
  | b :: l, 0, h => by simp at h; subst h; simp [cnt]
  | b :: l, i + 1, h => by
    have ih := cnt_set l i (by simpa using h)
    cases b <;> simp [cnt] at ih ⊢ <;> omega

section
variable {P : Program} {ops : Array Oper} {Q : Exit → Act → World → Prop} {F : Fence} {n : Nat}

/-- any order, by what holds along the way -/
theorem any_inv (I : Array Bool → Act → World → Prop) (hsz : ∀ l a w, I l a w → l.size = ops.size)
    (hed : ∀ k o, ops[k]? = some o → ∀ e ∈ o.after, Region.binds .any e = true → e.on < k)
    (hstep : ∀ l a w i, I l a w → i ∈ Region.ready .any ops l → wpOpIn F n P ops Q i (fun a' w' => I (l.setIfInBounds i true) a' w') a w)
    (hend : ∀ l a w, I l a w → (∀ i, i < ops.size → l.getD i false = true) → Q .normal a w) :
    ∀ (fuel : Nat) (l : Array Bool) (a : Act) (w : World), I l a w → ops.size ≤ fuel + cnt l.toList → wpAnyIn F n P .any ops Q fuel l a w := by
  have hready : ∀ (l : Array Bool) a w, I l a w → Region.ready .any ops l = [] → ∀ i, i < ops.size → l.getD i false = true := by
    intro l a w hI hr i
    induction i using Nat.strongRecOn with
    | _ i ih =>
      intro hi
      cases hl : l.getD i false with
      | true => rfl
      | false =>
        exfalso
        have hs := hsz l a w hI
        have hm : i ∈ Region.ready .any ops l := by
          rw [mem_ready]
          refine ⟨?_, ops[i], Array.getElem?_eq_getElem hi, fun e he hb => ih e.on (hed i _ (Array.getElem?_eq_getElem hi) e he hb) ?_⟩
          · have : i < l.size := by omega
            simp [this] at hl ⊢
            exact hl
          · have := hed i _ (Array.getElem?_eq_getElem hi) e he hb
            omega
        rw [hr] at hm
        cases hm
  intro fuel
  induction fuel with
  | zero =>
    intro l a w hI hc
    have hs := hsz l a w hI
    have hall : ∀ i, i < ops.size → l.getD i false = true := fun i hi => by
      have := cnt_all (l := l.toList) (by simp at hc ⊢; omega) i (by simp; omega)
      simpa using this
    refine ⟨?_, hend l a w hI hall⟩
    apply List.eq_nil_iff_forall_not_mem.2
    intro i hi
    obtain ⟨h1, o, ho, _⟩ := mem_ready.1 hi
    have hlt := (Array.getElem?_eq_some_iff.1 ho).1
    have h2 := hall i hlt
    have : i < l.size := by omega
    simp [this] at h1 h2
    rw [h1] at h2; cases h2
  | succ fuel ih =>
    intro l a w hI hc
    refine ⟨fun hr => hend l a w hI (hready l a w hI hr), fun i hi => ?_⟩
    refine wpOpIn_mono (fun a' w' h => ih _ a' w' h ?_) (hstep l a w i hI hi)
    obtain ⟨h1, o, ho, _⟩ := mem_ready.1 hi
    have hlt := (Array.getElem?_eq_some_iff.1 ho).1
    have hs := hsz l a w hI
    have hl : i < l.size := by omega
    have hget : l.toList[i]? = some false := by
      simp [hl] at h1
      simp [hl, h1]
    rw [Array.toList_setIfInBounds, cnt_set _ _ hget]
    omega
end

/-- the frame of a call that has been reckoned on a part of the memory -/
theorem frame_rel {P : Program} {B : Nat} {M M' : Mp} {g c1 c2 g' : Mem} {nid nid' : Nat} {w w' : World} (h : HRel P B M g w) (hsub : ∀ id o, c1 id = some o → g id = some o) (h2 : HRel P B M' c2 w')
    (hev : Evol M c1 nid w M' c2 nid' w') (hg : ∀ id o, g' id = some o → c2 id = some o ∨ (c2 id = none ∧ g id = some o ∧ c1 id = none)) : HRel P B M' g' w' ∧ Evol M g nid w M' g' nid' w' := by
  have hold : ∀ id o b r, g id = some o → c1 id = none → M id = some (b, r) → w'.heap[b]? = w.heap[b]? := by
    intro id o b r ho hc e
    refine hev.frame b (h.lt (by rw [ho]; rfl) e) fun id1 r1 hi e1 => ?_
    obtain ⟨o1, ho1⟩ := Option.isSome_iff_exists.1 hi
    have := h.inj id1 id b r1 r (by rw [hsub id1 o1 ho1]; rfl) (by rw [ho]; rfl) e1 e
    subst this
    rw [hc] at ho1; cases ho1
  have hMap : ∀ id o, g id = some o → ∃ b r, M id = some (b, r) ∧ M' id = some (b, r) := fun id o ho => by
    obtain ⟨b, r, ob, e, _⟩ := h.has id o ho
    exact ⟨b, r, e, hev.ext _ _ e⟩
  have hmix : ∀ i j b r r', (c2 i).isSome = true → c2 j = none → (∃ o, g j = some o ∧ c1 j = none) → M' i = some (b, r) → M' j = some (b, r') → False := by
    rintro i j b r r' hi _ ⟨o, ho, hc⟩ ei ej
    obtain ⟨b', r'', e1, e2⟩ := hMap j o ho
    rw [ej] at e2
    cases e2
    rcases hev.fresh i b r hi ei with ⟨id0, r0, h0, e0⟩ | hge
    · obtain ⟨o0, ho0⟩ := Option.isSome_iff_exists.1 h0
      have := h.inj id0 j b r0 r' (by rw [hsub id0 o0 ho0]; rfl) (by rw [ho]; rfl) e0 e1
      subst this
      rw [hc] at ho0; cases ho0
    · have := h.lt (id := j) (by rw [ho]; rfl) e1
      omega
  refine ⟨⟨fun id o e => ?_, fun i j b r r' hi hj ei ej => ?_⟩, ?_⟩
  · rcases hg id o e with e | ⟨e1, e2, e3⟩
    · exact h2.has id o e
    · obtain ⟨b, r, ob, k1, k2, k3, k4⟩ := h.has id o e2
      exact ⟨b, r, ob, hev.ext _ _ k1, k2, by rw [hold id o b r e2 e3 k1]; exact k3, k4.ext hev.ext⟩
  · obtain ⟨oi, hoi⟩ := Option.isSome_iff_exists.1 hi
    obtain ⟨oj, hoj⟩ := Option.isSome_iff_exists.1 hj
    rcases hg i oi hoi with e | ⟨e1, e2, e3⟩
    · rcases hg j oj hoj with f | ⟨f1, f2, f3⟩
      · exact h2.inj i j b r r' (by rw [e]; rfl) (by rw [f]; rfl) ei ej
      · exact (hmix i j b r r' (by rw [e]; rfl) f1 ⟨oj, f2, f3⟩ ei ej).elim
    · rcases hg j oj hoj with f | ⟨f1, f2, f3⟩
      · exact (hmix j i b r' r (by rw [f]; rfl) e1 ⟨oi, e2, e3⟩ ej ei).elim
      · obtain ⟨b1, r1, k1, k2⟩ := hMap i oi e2
        obtain ⟨b2, r2, l1, l2⟩ := hMap j oj f2
        rw [ei] at k2
        rw [ej] at l2
        cases k2
        cases l2
        exact h.inj i j b r r' (by rw [e2]; rfl) (by rw [f2]; rfl) k1 l1
  · exact {
      os := hev.os, tape := hev.tape, output := hev.output, size := hev.size, ext := hev.ext, dom := hev.dom, le := hev.le
      frame := fun b hb hx => hev.frame b hb fun id r hi => hx id r (by obtain ⟨o, ho⟩ := Option.isSome_iff_exists.1 hi; rw [hsub id o ho]; rfl)
      fresh := fun id b r hi ei => by
        obtain ⟨o, ho⟩ := Option.isSome_iff_exists.1 hi
        rcases hg id o ho with e | ⟨e1, e2, e3⟩
        · rcases hev.fresh id b r (by rw [e]; rfl) ei with ⟨i0, r0, h0, e0⟩ | hge
          · obtain ⟨o0, ho0⟩ := Option.isSome_iff_exists.1 h0
            exact .inl ⟨i0, r0, by rw [hsub i0 o0 ho0]; rfl, e0⟩
          · exact .inr hge
        · obtain ⟨b1, r1, k1, k2⟩ := hMap id o e2
          rw [ei] at k2
          cases k2
          exact .inl ⟨id, r, by rw [e2]; rfl, k1⟩ }

/-- both ways within the same numbers -/
theorem Evol.trans2 {M M1 M2 : Mp} {g g1 g2 : Mem} {n n1 : Nat} {w w1 w2 : World} (h : Evol M g n w M1 g1 n1 w1) (k : Evol M1 g1 n w1 M2 g2 n1 w2) : Evol M g n w M2 g2 n1 w2 where
  os := k.os.trans h.os
  tape := k.tape.trans h.tape
  output := k.output.trans h.output
  size := Nat.le_trans h.size k.size
  frame := fun b hb hn => by
    rw [k.frame b (Nat.lt_of_lt_of_le hb h.size) ?_, h.frame b hb hn]
    intro id r hg he
    rcases h.fresh id b r hg he with ⟨id0, r0, h0, e0⟩ | hlt
    · exact hn id0 r0 h0 e0
    · omega
  fresh := fun id b r hg he => by
    rcases k.fresh id b r hg he with ⟨id1, r1, h1, e1⟩ | hlt
    · exact h.fresh id1 b r1 h1 e1
    · exact .inr (Nat.le_trans h.size hlt)
  ext := h.ext.trans k.ext
  dom := fun id hn hm => by
    cases e : M1 id with
    | none => exact k.dom id e hm
    | some x => exact h.dom id hn (by simp [e])
  le := h.le
theorem Evol.wide {M M' : Mp} {g g' : Mem} {n n' a b : Nat} {w w' : World} (h : Evol M g n w M' g' n' w') (ha : a ≤ n) (hb : n' ≤ b) : Evol M g a w M' g' b w' :=
  { h with dom := fun id hn hm => by have := h.dom id hn hm; omega
           le := by have := h.le; omega }

theorem absorb_spec {m : Nat} : ∀ (fls : List (Nat × Nat × AObj)) (abs : List Nat) (core : T AObj) (c : T AObj × List Nat), absorb m fls abs core = some c →
    (∀ id o, c.1.get id = some o → core.get id = some o ∨ ∃ j, (j, id, o) ∈ fls ∧ bit m j = true ∧ id ∉ abs) ∧
    (∀ id, c.1.get id = none → core.get id = none) ∧ (∀ id, id ∈ abs → id ∈ c.2) ∧
    (∀ id, id ∈ c.2 → id ∈ abs ∨ ∃ j o, (j, id, o) ∈ fls ∧ bit m j = true) ∧ (∀ id, id ∉ c.2 → ∀ j o, (j, id, o) ∈ fls → bit m j = false) ∧
    (∀ id, id ∉ c.2 → c.1.get id = core.get id) ∧ (∀ id, id ∈ abs → c.1.get id = core.get id)
  | [], abs, core, c, h => by
    cases h
    exact ⟨fun id o e => .inl e, fun id e => e, fun id e => e, fun id e => .inl e, fun id _ j o hm => by simp at hm, fun id _ => rfl, fun id _ => rfl⟩
  | x :: fls, abs, core, c, h => by
    have h' : (ob (absorb m fls abs core) fun r => bi (bit m x.1 && abs.all (fun a => !(Nat.beq a x.2.1))) (ob (r.1.set x.2.1 (some x.2.2)) fun c => some (c, x.2.1 :: r.2)) (some r)) = some c := h
    obtain ⟨r, hr, h'⟩ := ob_some h'
    obtain ⟨k1, k2, k3, k4, k5, k6, k7⟩ := absorb_spec fls abs core r hr
    rcases bi_some h' with ⟨hc, h2⟩ | ⟨hc, h2⟩
    · rw [Bool.and_eq_true] at hc
      have hna : x.2.1 ∉ abs := fun hm => by
        have := List.all_eq_true.1 hc.2 _ hm
        simp at this
      obtain ⟨c1, hset, h2⟩ := ob_some h2
      cases h2
      have hget := T.get_set _ _ _ _ hset
      refine ⟨fun id o e => ?_, fun id e => ?_, fun id e => by simp [k3 id e], fun id e => ?_, fun id hn j o hm => ?_, fun id hn => ?_, fun id hm => ?_⟩
      · rw [hget] at e
        split at e
        · rename_i hi
          cases e
          subst hi
          exact .inr ⟨x.1, by simp, hc.1, hna⟩
        · exact (k1 id o e).imp (fun z => z) fun ⟨j, a1, a2⟩ => ⟨j, by simp [a1], a2⟩
      · rw [hget] at e
        split at e
        · cases e
        · exact k2 id e
      · rcases List.mem_cons.1 e with rfl | e
        · exact .inr ⟨x.1, x.2.2, by simp, hc.1⟩
        · exact (k4 id e).imp (fun z => z) fun ⟨j, o, a1, a2⟩ => ⟨j, o, by simp [a1], a2⟩
      · simp only [List.mem_cons, not_or] at hn
        rcases List.mem_cons.1 hm with e | hm
        · rw [← e] at hn; exact absurd rfl hn.1
        · exact k5 id hn.2 j o hm
      · simp only [List.mem_cons, not_or] at hn
        rw [hget, if_neg hn.1]
        exact k6 id hn.2
      · rw [hget, if_neg (fun e2 => by rw [e2] at hm; exact hna hm)]
        exact k7 id hm
    · cases h2
      refine ⟨fun id o e => (k1 id o e).imp (fun z => z) fun ⟨j, a1, a2⟩ => ⟨j, by simp [a1], a2⟩, k2, k3, fun id e => (k4 id e).imp (fun z => z) fun ⟨j, o, a1, a2⟩ => ⟨j, o, by simp [a1], a2⟩, fun id hn j o hm => ?_, k6, k7⟩
      rcases List.mem_cons.1 hm with e | hm
      · have hb := hc
        rw [← e] at hb
        simp only at hb
        have ha : (abs.all fun a => !(Nat.beq a id)) = true := by
          apply List.all_eq_true.2
          intro a ham
          cases hbe : Nat.beq a id with
          | false => rfl
          | true => exact absurd (k3 a ham) (by rw [Nat.eq_of_beq_eq_true hbe]; exact hn)
        rw [ha, Bool.and_true] at hb
        exact hb
      · exact k5 id hn j o hm
end Ev
end Go.Proofs.Ytagpaoglcjcaeaa
