/- A region that draws its order: its operations that yield one value whatever blocks others make (loads, sums, calls that make memory and change nothing that is) are taken in the text's order; then its allocs; then what waits for all of them. My own law. -/
import Derived.Deep.Quiet
import Derived.Below
namespace Go.Proofs.Ytcpkoapkmjcigaa
open Go.RowKit

section
variable {P : Program} {ops : Array Oper} {md : Region.Mode} {Q : Exit → Act → World → Prop}

/-- what is asked of the result of an operation in w: the value v, and nothing that is has turned -/
def onlyMakes (P : Program) (w : World) (v : Value) : Result Next → Prop
  | .ok (.value u) w' => w' = w ∧ u = v
  | .ok (.enter f args) w' => w' = w ∧ Calls P f args w (fun e w'' => e = .returned v ∧ Below w.heap.size w w'')
  | _ => False
/-- in every world that has grown out of W the operation yields v -/
def Steady (P : Program) (ops : Array Oper) (W : World) (o : Oper) (v : Value) (a : Act) : Prop :=
  (Region.wanted o (yielded ops a.tmps) = true ∧ ∀ w, Below W.heap.size W w → onlyMakes P w v ((execOp a.eval o).run P w)) ∨
  (Region.wanted o (yielded ops a.tmps) = false ∧ v = undef)
/-- an alloc in every world that has grown out of W -/
def Makes (P : Program) (ops : Array Oper) (W : World) (o : Oper) (obj : Obj) (a : Act) : Prop :=
  Region.wanted o (yielded ops a.tmps) = true ∧ ∀ w, Below W.heap.size W w → (execOp a.eval o).run P w = .ok (.value (.pointer (some ⟨w.heap.size, 0, none⟩))) (w.alloc obj)

theorem belowSq {A B C : World} (h : Below A.heap.size A B) (k : Below B.heap.size B C) : Below A.heap.size A C := h.trans (k.mono h.size)

theorem Steady.grow {W W' : World} {o : Oper} {v : Value} {a : Act} (h : Steady P ops W o v a) (g : Below W.heap.size W W') : Steady P ops W' o v a :=
  h.imp (fun ⟨x, y⟩ => ⟨x, fun w hw => y w (belowSq g hw)⟩) id

/-- kind 0: steady; 1: an alloc; else: what waits for all of them -/
def AnyZ (P : Program) (md : Region.Mode) (ops : Array Oper) (Q : Exit → Act → World → Prop) (kind : Nat → Nat) : Nat → Array Bool → Act → World → Prop
  | 0, listed, a, W => ∀ w, Below W.heap.size W w → wpAny P md ops Q 0 listed a w
  | fuel + 1, listed, a, W =>
    (Region.ready md ops listed = [] → ∀ w, Below W.heap.size W w → Q .normal a w) ∧
    ∀ i ∈ Region.ready md ops listed, ∀ o, ops[i]? = some o →
      (kind i = 0 → ∃ v, Steady P ops W o v a ∧ AnyZ P md ops Q kind fuel (listed.setIfInBounds i true) (a.put o.dst v) W) ∧
      (kind i = 1 → ∃ obj, Makes P ops W o obj a ∧ ∀ w1, Below W.heap.size W w1 → AnyZ P md ops Q kind fuel (listed.setIfInBounds i true) (a.put o.dst (.pointer (some ⟨w1.heap.size, 0, none⟩))) (w1.alloc obj)) ∧
      (1 < kind i → ∀ w, Below W.heap.size W w → wpAny P md ops Q (fuel + 1) listed a w)

theorem wpOp_steady {i : Nat} {o : Oper} {v : Value} {a : Act} {W w : World} {K : Act → World → Prop} (hi : ops[i]? = some o) (hy : Steady P ops W o v a) (hw : Below W.heap.size W w)
    (h : ∀ w', Below W.heap.size W w' → K (a.put o.dst v) w') : wpOp P ops Q i K a w := by
  unfold wpOp
  simp only [hi]
  rcases hy with ⟨h1, h2⟩ | ⟨h1, rfl⟩
  · simp only [h1, if_true]
    refine .inl ?_
    have h3 := h2 w hw
    unfold Oper.wp
    generalize (execOp a.eval o).run P w = r at *
    cases r with
    | ok n w' =>
      cases n <;> simp only [onlyMakes] at h3 <;> simp only [Oper.upon]
      case value u => obtain ⟨e1, e2⟩ := h3; rw [e1, e2]; exact h _ hw
      case enter f args =>
        obtain ⟨e1, hc⟩ := h3
        rw [e1]
        exact hc.mono fun e w'' ⟨he, hb⟩ => by subst he; exact h _ (belowSq hw hb)
    | halt x w' => simp only [onlyMakes] at h3
  · simp only [h1, Bool.false_eq_true, if_false]; exact h _ hw
theorem wpOp_makes {i : Nat} {o : Oper} {obj : Obj} {a : Act} {W w : World} {K : Act → World → Prop} (hi : ops[i]? = some o) (hy : Makes P ops W o obj a) (hw : Below W.heap.size W w)
    (h : K (a.put o.dst (.pointer (some ⟨w.heap.size, 0, none⟩))) (w.alloc obj)) : wpOp P ops Q i K a w := by
  unfold wpOp
  simp only [hi, hy.1, if_true]
  refine .inl ?_
  unfold Oper.wp
  rw [hy.2 w hw]
  exact h

theorem AnyZ.sound {kind : Nat → Nat} : ∀ (fuel : Nat) (listed : Array Bool) (a : Act) (W w : World), AnyZ P md ops Q kind fuel listed a W → Below W.heap.size W w → wpAny P md ops Q fuel listed a w
  | 0, _, _, _, _, h, hw => h _ hw
  | fuel + 1, listed, a, W, w, h, hw => by
    by_cases ht : ∃ i ∈ Region.ready md ops listed, 1 < kind i
    · obtain ⟨i, hi, hk⟩ := ht
      obtain ⟨_, o, ho, _⟩ := mem_ready.1 hi
      exact (h.2 i hi o ho).2.2 hk w hw
    · refine ⟨fun he => h.1 he w hw, fun i hi => ?_⟩
      obtain ⟨_, o, ho, _⟩ := mem_ready.1 hi
      obtain ⟨h0, h1, _⟩ := h.2 i hi o ho
      have hk : kind i ≤ 1 := Nat.not_lt.1 fun hk => ht ⟨i, hi, hk⟩
      rcases Nat.lt_or_ge (kind i) 1 with hk0 | hk1
      · obtain ⟨v, hv, hz⟩ := h0 (by omega)
        exact wpOp_steady ho hv hw fun w' hw' => AnyZ.sound fuel _ _ W w' hz hw'
      · obtain ⟨obj, hm, hz⟩ := h1 (by omega)
        exact wpOp_makes ho hm hw (AnyZ.sound fuel _ _ _ _ (hz w hw) (Below.refl _ _))

theorem Steady.put {oi oj : Oper} {v u : Value} {a : Act} {W : World} (hap : oi.apart ops oj = true) (hs : ∀ cs b, oi.op ≠ .select cs b) (h : Steady P ops W oi v a) : Steady P ops W oi v (a.put oj.dst u) := by
  obtain ⟨_, _, h3⟩ := Oper.apart_spec hap
  unfold Steady at *
  rw [execOp_put oi hs a oj.dst u h3, wanted_put oi a oj.dst u h3]
  exact h
theorem Steady.unput {oi oj : Oper} {v u : Value} {a : Act} {W : World} (hap : oi.apart ops oj = true) (hs : ∀ cs b, oj.op ≠ .select cs b) (h : Steady P ops W oj u (a.put oi.dst v)) : Steady P ops W oj u a := by
  obtain ⟨h1, _, _⟩ := Oper.apart_spec hap
  unfold Steady at *
  rw [execOp_put oj hs a oi.dst v h1, wanted_put oj a oi.dst v h1] at h
  exact h
theorem Makes.unput {oi oj : Oper} {v : Value} {a : Act} {W : World} {obj : Obj} (hap : oi.apart ops oj = true) (hs : ∀ cs b, oj.op ≠ .select cs b) (h : Makes P ops W oj obj (a.put oi.dst v)) : Makes P ops W oj obj a := by
  obtain ⟨h1, _, _⟩ := Oper.apart_spec hap
  unfold Makes at *
  rw [execOp_put oj hs a oi.dst v h1, wanted_put oj a oi.dst v h1] at h
  exact h

/-- a steady operation may be taken first -/
theorem AnyZ.first {kind : Nat → Nat} {i : Nat} {oi : Oper} {v : Value} (hi : ops[i]? = some oi) (hk : kind i = 0) (hsel : Region.noSelect ops = true)
    (hlast : ∀ (j : Nat) (oj : Oper), ops[j]? = some oj → 1 < kind j → ∃ e ∈ oj.after, Region.binds md e = true ∧ e.on = i) :
    ∀ (fuel : Nat) (listed : Array Bool) (a : Act) (W : World),
      (∀ j oj, ops[j]? = some oj → j ≠ i → listed.getD j true = false → (∀ e ∈ oj.after, Region.binds md e = true → e.on ≠ i) → oi.apart ops oj = true) →
      i ∈ Region.ready md ops listed → Steady P ops W oi v a →
      AnyZ P md ops Q kind fuel (listed.setIfInBounds i true) (a.put oi.dst v) W → AnyZ P md ops Q kind (fuel + 1) listed a W := by
  have sel := Region.noSelect_spec hsel
  intro fuel
  induction fuel with
  | zero =>
    intro listed a W hfree hr hy H
    refine ⟨fun h => (by rw [h] at hr; cases hr), fun j hj o ho => ?_⟩
    by_cases hji : j = i
    · subst hji
      obtain rfl : o = oi := Option.some.inj (ho.symm.trans hi)
      exact ⟨fun _ => ⟨v, hy, H⟩, fun h => by omega, fun h => by omega⟩
    · exfalso
      have h1 := (H W (Below.refl _ _)).1
      have := ready_mono (i := i) hj hji
      rw [h1] at this
      cases this
  | succ fuel ih =>
    intro listed a W hfree hr hy H
    refine ⟨fun h => (by rw [h] at hr; cases hr), fun j hj oj hoj => ?_⟩
    by_cases hji : j = i
    · subst hji
      obtain rfl : oj = oi := Option.some.inj (hoj.symm.trans hi)
      exact ⟨fun _ => ⟨v, hy, H⟩, fun h => by omega, fun h => by omega⟩
    obtain ⟨hjun, oj', hoj', hall⟩ := mem_ready.1 hj
    obtain rfl : oj = oj' := Option.some.inj (hoj.symm.trans hoj')
    have hnot : ∀ e ∈ oj.after, Region.binds md e = true → e.on ≠ i := fun e he hb heq => by
      have h1 := hall e he hb
      have h0 := (mem_ready.1 hr).1
      rw [heq] at h1
      rcases Nat.lt_or_ge i listed.size with h' | h'
      · simp [h'] at h0 h1; rw [h0] at h1; cases h1
      · simp [Array.getElem?_eq_none h'] at h1
    have hap := hfree j oj hoj hji hjun hnot
    obtain ⟨_, h2, _⟩ := Oper.apart_spec hap
    have hfree' : ∀ k ok, ops[k]? = some ok → k ≠ i → (listed.setIfInBounds j true).getD k true = false →
        (∀ e ∈ ok.after, Region.binds md e = true → e.on ≠ i) → oi.apart ops ok = true := fun k ok hk' hki hun hno => by
      refine hfree k ok hk' hki ?_ hno
      by_cases hjk : j = k
      · subst hjk; exact hjun
      · rw [getD_set_ne true hjk] at hun; exact hun
    obtain ⟨g0, g1, g2⟩ := H.2 j (ready_mono hj hji) oj hoj
    refine ⟨fun h => ?_, fun h => ?_, fun h => ?_⟩
    · obtain ⟨u, hu, hz⟩ := g0 h
      refine ⟨u, hu.unput hap (sel j oj · · hoj), ih _ _ W hfree' (ready_mono hr (Ne.symm hji)) (hy.put hap (sel i oi · · hi)) ?_⟩
      rw [Array.setIfInBounds_comm _ _ hji, ← Act.put_comm a v u h2]
      exact hz
    · obtain ⟨obj, hm, hz⟩ := g1 h
      refine ⟨obj, hm.unput hap (sel j oj · · hoj), fun w1 hw1 => ?_⟩
      have hg : Below W.heap.size W (w1.alloc obj) := hw1.alloc hw1.size obj
      refine ih _ _ _ hfree' (ready_mono hr (Ne.symm hji)) ((hy.put hap (sel i oi · · hi)).grow hg) ?_
      rw [Array.setIfInBounds_comm _ _ hji, ← Act.put_comm a v _ h2]
      exact hz w1 hw1
    · obtain ⟨e, he, hb, hon⟩ := hlast j oj hoj h
      exact absurd hon (hnot e he hb)
end
end Go.Proofs.Ytcpkoapkmjcigaa
