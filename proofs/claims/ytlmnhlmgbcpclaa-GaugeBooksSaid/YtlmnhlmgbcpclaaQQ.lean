import Derived.Deep.Quiet
import Derived.Below
import Derived.Lib.Hide
/- A region that draws its order: its operations that yield one value whatever blocks others make (loads, sums, calls that make memory and change nothing that is) are taken in the text's order; then its allocs; then what waits for all of them. My own law. -/
namespace Go.Proofs.Ytlmnhlmgbcpclaa
open Go.RowKit

section
variable {P : Program} {ops : Array Oper} {md : Region.Mode} {Q : Exit → Act → World → Prop}

/-- what is asked of the result of an operation in w: the value v, and nothing that is has turned -/
def onlyMakes (P : Program) (w : World) (v : Value) : Result Next → Prop
  | .ok (.value u) w' => w' = w ∧ u = v
  | .ok (.enter f args) w' => w' = w ∧ Calls P f args w (fun e w'' => e = .returned v ∧ Below w.heap.size w w'')
  | _ => False
/-- in every world that has grown out of W the operation yields v -/
def Steady (P : Program) (ops : Array Oper) (W : World) (o : Oper) (v : Value) (a : Act) : Prop :=
  (Region.wanted o (yielded ops a.tmps) = true ∧ ∀ w, Below W.heap.size W w → onlyMakes P w v ((execOp a.eval o).run P w)) ∨
  (Region.wanted o (yielded ops a.tmps) = false ∧ v = undef)
/-- an alloc in every world that has grown out of W -/
def Makes (P : Program) (ops : Array Oper) (W : World) (o : Oper) (obj : Obj) (a : Act) : Prop :=
  Region.wanted o (yielded ops a.tmps) = true ∧ ∀ w, Below W.heap.size W w → (execOp a.eval o).run P w = .ok (.value (.pointer (some ⟨w.heap.size, 0, none⟩))) (w.alloc obj)

theorem belowSq {A B C : World} (h : Below A.heap.size A B) (k : Below B.heap.size B C) : Below A.heap.size A C := h.trans (k.mono h.size)

theorem Steady.grow {W W' : World} {o : Oper} {v : Value} {a : Act} (h : Steady P ops W o v a) (g : Below W.heap.size W W') : Steady P ops W' o v a :=
  h.imp (fun ⟨x, y⟩ => ⟨x, fun w hw => y w (belowSq g hw)⟩) id

/-- kind 0: steady; 1: an alloc; else: what waits for all of them -/
def AnyZ (P : Program) (md : Region.Mode) (ops : Array Oper) (Q : Exit → Act → World → Prop) (kind : Nat → Nat) : Nat → Array Bool → Act → World → Prop
  | 0, listed, a, W => ∀ w, Below W.heap.size W w → wpAny P md ops Q 0 listed a w
  | fuel + 1, listed, a, W =>
    (Region.ready md ops listed = [] → ∀ w, Below W.heap.size W w → Q .normal a w) ∧
    ∀ i ∈ Region.ready md ops listed, ∀ o, ops[i]? = some o →
      (kind i = 0 → ∃ v, Steady P ops W o v a ∧ AnyZ P md ops Q kind fuel (listed.setIfInBounds i true) (a.put o.dst v) W) ∧
      (kind i = 1 → ∃ obj, Makes P ops W o obj a ∧ ∀ w1, Below W.heap.size W w1 → AnyZ P md ops Q kind fuel (listed.setIfInBounds i true) (a.put o.dst (.pointer (some ⟨w1.heap.size, 0, none⟩))) (w1.alloc obj)) ∧
      (1 < kind i → ∀ w, Below W.heap.size W w → wpAny P md ops Q (fuel + 1) listed a w)

theorem wpOp_steady {i : Nat} {o : Oper} {v : Value} {a : Act} {W w : World} {K : Act → World → Prop} (hi : ops[i]? = some o) (hy : Steady P ops W o v a) (hw : Below W.heap.size W w)
    (h : ∀ w', Below W.heap.size W w' → K (a.put o.dst v) w') : wpOp P ops Q i K a w := by
  unfold wpOp
  simp only [hi]
  rcases hy with ⟨h1, h2⟩ | ⟨h1, rfl⟩
  · simp only [h1, if_true]
    refine .inl ?_
    have h3 := h2 w hw
    unfold Oper.wp
    generalize (execOp a.eval o).run P w = r at *
    cases r with
    | ok n w' =>
      cases n <;> simp only [onlyMakes] at h3 <;> simp only [Oper.upon]
      case value u => obtain ⟨e1, e2⟩ := h3; rw [e1, e2]; exact h _ hw
      case enter f args =>
        obtain ⟨e1, hc⟩ := h3
        rw [e1]
        exact hc.mono fun e w'' ⟨he, hb⟩ => by subst he; exact h _ (belowSq hw hb)
    | halt x w' => simp only [onlyMakes] at h3
  · simp only [h1, Bool.false_eq_true, if_false]; exact h _ hw
theorem wpOp_makes {i : Nat} {o : Oper} {obj : Obj} {a : Act} {W w : World} {K : Act → World → Prop} (hi : ops[i]? = some o) (hy : Makes P ops W o obj a) (hw : Below W.heap.size W w)
    (h : K (a.put o.dst (.pointer (some ⟨w.heap.size, 0, none⟩))) (w.alloc obj)) : wpOp P ops Q i K a w := by
  unfold wpOp
  simp only [hi, hy.1, if_true]
  refine .inl ?_
  unfold Oper.wp
  rw [hy.2 w hw]
  exact h

theorem AnyZ.sound {kind : Nat → Nat} : ∀ (fuel : Nat) (listed : Array Bool) (a : Act) (W w : World), AnyZ P md ops Q kind fuel listed a W → Below W.heap.size W w → wpAny P md ops Q fuel listed a w
  | 0, _, _, _, _, h, hw => h _ hw
  | fuel + 1, listed, a, W, w, h, hw => by
    by_cases ht : ∃ i ∈ Region.ready md ops listed, 1 < kind i
    · obtain ⟨i, hi, hk⟩ := ht
      obtain ⟨_, o, ho, _⟩ := mem_ready.1 hi
      exact (h.2 i hi o ho).2.2 hk w hw
    · refine ⟨fun he => h.1 he w hw, fun i hi => ?_⟩
      obtain ⟨_, o, ho, _⟩ := mem_ready.1 hi
      obtain ⟨h0, h1, _⟩ := h.2 i hi o ho
      have hk : kind i ≤ 1 := Nat.not_lt.1 fun hk => ht ⟨i, hi, hk⟩
      rcases Nat.lt_or_ge (kind i) 1 with hk0 | hk1
      · obtain ⟨v, hv, hz⟩ := h0 (by omega)
        exact wpOp_steady ho hv hw fun w' hw' => AnyZ.sound fuel _ _ W w' hz hw'
      · obtain ⟨obj, hm, hz⟩ := h1 (by omega)
        exact wpOp_makes ho hm hw (AnyZ.sound fuel _ _ _ _ (hz w hw) (Below.refl _ _))

theorem Steady.put {oi oj : Oper} {v u : Value} {a : Act} {W : World} (hap : oi.apart ops oj = true) (hs : ∀ cs b, oi.op ≠ .select cs b) (h : Steady P ops W oi v a) : Steady P ops W oi v (a.put oj.dst u) := by
  obtain ⟨_, _, h3⟩ := Oper.apart_spec hap
  unfold Steady at *
  rw [execOp_put oi hs a oj.dst u h3, wanted_put oi a oj.dst u h3]
  exact h
theorem Steady.unput {oi oj : Oper} {v u : Value} {a : Act} {W : World} (hap : oi.apart ops oj = true) (hs : ∀ cs b, oj.op ≠ .select cs b) (h : Steady P ops W oj u (a.put oi.dst v)) : Steady P ops W oj u a := by
  obtain ⟨h1, _, _⟩ := Oper.apart_spec hap
  unfold Steady at *
  rw [execOp_put oj hs a oi.dst v h1, wanted_put oj a oi.dst v h1] at h
  exact h
theorem Makes.unput {oi oj : Oper} {v : Value} {a : Act} {W : World} {obj : Obj} (hap : oi.apart ops oj = true) (hs : ∀ cs b, oj.op ≠ .select cs b) (h : Makes P ops W oj obj (a.put oi.dst v)) : Makes P ops W oj obj a := by
  obtain ⟨h1, _, _⟩ := Oper.apart_spec hap
  unfold Makes at *
  rw [execOp_put oj hs a oi.dst v h1, wanted_put oj a oi.dst v h1] at h
  exact h

/-- a steady operation may be taken first -/
theorem AnyZ.first {kind : Nat → Nat} {i : Nat} {oi : Oper} {v : Value} (hi : ops[i]? = some oi) (hk : kind i = 0) (hsel : Region.noSelect ops = true)
    (hlast : ∀ (j : Nat) (oj : Oper), ops[j]? = some oj → 1 < kind j → ∃ e ∈ oj.after, Region.binds md e = true ∧ e.on = i) :
    ∀ (fuel : Nat) (listed : Array Bool) (a : Act) (W : World),
      (∀ j oj, ops[j]? = some oj → j ≠ i → listed.getD j true = false → (∀ e ∈ oj.after, Region.binds md e = true → e.on ≠ i) → oi.apart ops oj = true) →
      i ∈ Region.ready md ops listed → Steady P ops W oi v a →
      AnyZ P md ops Q kind fuel (listed.setIfInBounds i true) (a.put oi.dst v) W → AnyZ P md ops Q kind (fuel + 1) listed a W := by
  have sel := Region.noSelect_spec hsel
  intro fuel
  induction fuel with
  | zero =>
    intro listed a W hfree hr hy H
    refine ⟨fun h => (by rw [h] at hr; cases hr), fun j hj o ho => ?_⟩
    by_cases hji : j = i
    · subst hji
      obtain rfl : o = oi := Option.some.inj (ho.symm.trans hi)
      exact ⟨fun _ => ⟨v, hy, H⟩, fun h => by omega, fun h => by omega⟩
    · exfalso
      have h1 := (H W (Below.refl _ _)).1
      have := ready_mono (i := i) hj hji
      rw [h1] at this
      cases this
  | succ fuel ih =>
    intro listed a W hfree hr hy H
    refine ⟨fun h => (by rw [h] at hr; cases hr), fun j hj oj hoj => ?_⟩
    by_cases hji : j = i
    · subst hji
      obtain rfl : oj = oi := Option.some.inj (hoj.symm.trans hi)
      exact ⟨fun _ => ⟨v, hy, H⟩, fun h => by omega, fun h => by omega⟩
    obtain ⟨hjun, oj', hoj', hall⟩ := mem_ready.1 hj
    obtain rfl : oj = oj' := Option.some.inj (hoj.symm.trans hoj')
    have hnot : ∀ e ∈ oj.after, Region.binds md e = true → e.on ≠ i := fun e he hb heq => by
      have h1 := hall e he hb
      have h0 := (mem_ready.1 hr).1
      rw [heq] at h1
      rcases Nat.lt_or_ge i listed.size with h' | h'
      · simp [h'] at h0 h1; rw [h0] at h1; cases h1
      · simp [Array.getElem?_eq_none h'] at h1
    have hap := hfree j oj hoj hji hjun hnot
    obtain ⟨_, h2, _⟩ := Oper.apart_spec hap
    have hfree' : ∀ k ok, ops[k]? = some ok → k ≠ i → (listed.setIfInBounds j true).getD k true = false →
        (∀ e ∈ ok.after, Region.binds md e = true → e.on ≠ i) → oi.apart ops ok = true := fun k ok hk' hki hun hno => by
      refine hfree k ok hk' hki ?_ hno
      by_cases hjk : j = k
      · subst hjk; exact hjun
      · rw [getD_set_ne true hjk] at hun; exact hun
    obtain ⟨g0, g1, g2⟩ := H.2 j (ready_mono hj hji) oj hoj
    refine ⟨fun h => ?_, fun h => ?_, fun h => ?_⟩
    · obtain ⟨u, hu, hz⟩ := g0 h
      refine ⟨u, hu.unput hap (sel j oj · · hoj), ih _ _ W hfree' (ready_mono hr (Ne.symm hji)) (hy.put hap (sel i oi · · hi)) ?_⟩
      rw [Array.setIfInBounds_comm _ _ hji, ← Act.put_comm a v u h2]
      exact hz
    · obtain ⟨obj, hm, hz⟩ := g1 h
      refine ⟨obj, hm.unput hap (sel j oj · · hoj), fun w1 hw1 => ?_⟩
      have hg : Below W.heap.size W (w1.alloc obj) := hw1.alloc hw1.size obj
      refine ih _ _ _ hfree' (ready_mono hr (Ne.symm hji)) ((hy.put hap (sel i oi · · hi)).grow hg) ?_
      rw [Array.setIfInBounds_comm _ _ hji, ← Act.put_comm a v _ h2]
      exact hz w1 hw1
    · obtain ⟨e, he, hb, hon⟩ := hlast j oj hoj h
      exact absurd hon (hnot e he hb)
end
end Go.Proofs.Ytlmnhlmgbcpclaa

/- The law of Q0 at a region whose operations are written out: the head in the text's order, one allocation or none, then what waits for all. -/
namespace Go.Proofs.Ytlmnhlmgbcpclaa
open Go.RowKit

section
variable {P : Program} {ops : Array Oper} {md : Region.Mode} {Q : Exit → Act → World → Prop}

def kindOf (n p : Nat) (i : Nat) : Nat := if i < n then 0 else if i < n + p then 1 else 2
/-- the head, in the text's order -/
def HeadZ (P : Program) (ops : Array Oper) (W : World) (R : Act → Prop) : List Oper → Act → Prop
  | [], a => R a
  | o :: l, a => if Region.wanted o (yielded ops a.tmps) = true then ∃ v, (∀ w, Below W.heap.size W w → onlyMakes P w v ((execOp a.eval o).run P w)) ∧ HeadZ P ops W R l (a.put o.dst v) else HeadZ P ops W R l (a.put o.dst undef)
def headB (md : Region.Mode) (ops : Array Oper) : Nat → Nat → Array Bool → Bool
  | 0, _, _ => true
  | n + 1, k, listed => (Region.ready md ops listed).contains k && Region.free md ops listed k && headB md ops n (k + 1) (listed.setIfInBounds k true)
def setFrom : Nat → Nat → Array Bool → Array Bool
  | 0, _, l => l
  | n + 1, k, l => setFrom n (k + 1) (l.setIfInBounds k true)
def lastB (md : Region.Mode) (ops : Array Oper) (n p : Nat) : Bool :=
  (List.range ops.size).all fun j => decide (j < n + p) || (List.range n).all fun i => match ops[j]? with
    | some oj => oj.after.any fun e => Region.binds md e && e.on == i
    | none => true

theorem lastB_spec {n p i j : Nat} {oj : Oper} (h : lastB md ops n p = true) (hi : i < n) (hj : ops[j]? = some oj) (hk : 1 < kindOf n p j) : ∃ e ∈ oj.after, Region.binds md e = true ∧ e.on = i := by
  simp only [lastB, List.all_eq_true, List.mem_range] at h
  have h1 := h j (Array.getElem?_eq_some_iff.1 hj).1
  have hn : ¬ j < n + p := by unfold kindOf at hk; intro hlt; split at hk <;> first | omega | (split at hk <;> omega)
  simp only [hn, decide_false, Bool.false_or, List.all_eq_true, List.mem_range] at h1
  have h2 := h1 i hi
  rw [hj] at h2
  obtain ⟨e, he, hb⟩ := Array.any_eq_true'.1 h2
  simp only [Bool.and_eq_true, beq_iff_eq] at hb
  exact ⟨e, he, hb.1, hb.2⟩

theorem AnyZ.head {n p : Nat} (hsel : Region.noSelect ops = true) (hl : lastB md ops n p = true) (fuel : Nat) (W : World) : ∀ (l : List Oper) (k : Nat) (listed : Array Bool) (a : Act), k + l.length ≤ n →
    (∀ j, j < l.length → l[j]? = ops[k + j]?) → headB md ops l.length k listed = true →
    HeadZ P ops W (fun a' => AnyZ P md ops Q (kindOf n p) fuel (setFrom l.length k listed) a' W) l a → AnyZ P md ops Q (kindOf n p) (l.length + fuel) listed a W
  | [], _, _, _, _, _, _, h => by simpa [HeadZ, setFrom] using h
  | o :: l, k, listed, a, hk, hj, hB, h => by
    have h0 : ops[k]? = some o := by simpa using (hj 0 (by simp)).symm
    simp only [List.length_cons, headB, Bool.and_eq_true] at hB hk
    obtain ⟨⟨hr, hf⟩, hB'⟩ := hB
    have hy : ∃ v, Steady P ops W o v a ∧ HeadZ P ops W (fun a' => AnyZ P md ops Q (kindOf n p) fuel (setFrom l.length (k + 1) (listed.setIfInBounds k true)) a' W) l (a.put o.dst v) := by
      simp only [HeadZ, List.length_cons, setFrom] at h
      by_cases hw : Region.wanted o (yielded ops a.tmps) = true
      · rw [if_pos hw] at h
        obtain ⟨v, h1, h2⟩ := h
        exact ⟨v, .inl ⟨hw, h1⟩, h2⟩
      · rw [if_neg hw] at h
        exact ⟨undef, .inr ⟨by simpa using hw, rfl⟩, h⟩
    obtain ⟨v, hv, hz⟩ := hy
    have := AnyZ.head hsel hl fuel W l (k + 1) (listed.setIfInBounds k true) (a.put o.dst v) (by omega) (fun j hjl => by have := hj (j + 1) (by simp; omega); simpa [Nat.add_assoc, Nat.add_comm 1 j] using this) hB' hz
    have e : (o :: l).length + fuel = (l.length + fuel) + 1 := by simp; omega
    rw [e]
    exact AnyZ.first h0 (by unfold kindOf; rw [if_pos (by omega)]) hsel (fun j oj hj' hkj => lastB_spec hl (by omega) hj' hkj) _ _ _ _ (Region.free_spec h0 hf) (by simpa using hr) hv this

theorem wp_region_head {id : Nat} {a : Act} {w : World} {l : List Oper} (n p : Nat) (hm : P.follows .mixedOrders = true) (hsel : Region.noSelect l.toArray = true) (hl : lastB .any l.toArray n p = true)
    (hB : headB .any l.toArray n 0 (Array.replicate l.length false) = true) (hn : (l.take n).length = n ∧ n ≤ l.length)
    (h : HeadZ P l.toArray w.drew (fun a' => AnyZ P .any l.toArray Q (kindOf n p) (l.length - n) (setFrom n 0 (Array.replicate l.length false)) a' w.drew) (l.take n) a) : (Code.region id l.toArray true).wp P Q a w := by
  refine wp_region_any hm ?_
  have e : l.toArray.size = n + (l.length - n) := by simp; omega
  have := AnyZ.head (P := P) (Q := Q) (md := .any) (ops := l.toArray) hsel hl (l.length - n) w.drew (l.take n) 0 (Array.replicate l.length false) a (by rw [hn.1]; omega)
    (fun j hj => by
      rw [hn.1] at hj
      simp [hj]) (by rw [hn.1]; exact hB) (by rw [hn.1]; exact h)
  rw [hn.1] at this
  have h2 := AnyZ.sound _ _ _ _ w.drew this (Below.refl _ _)
  rw [← e] at h2
  simpa using h2

theorem headZ_step {W : World} {R : Act → Prop} {o : Oper} {l : List Oper} {a : Act}
    (h : ∀ K : Act → Prop, (∀ a', HeadZ P ops W R l a' → K a') → if Region.wanted o (yielded ops a.tmps) = true then ∃ v, (∀ w, Below W.heap.size W w → onlyMakes P w v ((execOp a.eval o).run P w)) ∧ K (a.put o.dst v) else K (a.put o.dst undef)) : HeadZ P ops W R (o :: l) a :=
  h _ (fun _ h => h)
/-- the head without guards -/
def Head0 (P : Program) (W : World) (R : Act → Prop) : List Oper → Act → Prop
  | [], a => R a
  | o :: l, a => ∃ v, (∀ w, Below W.heap.size W w → onlyMakes P w v ((execOp a.eval o).run P w)) ∧ Head0 P W R l (a.put o.dst v)
theorem Head0.headZ {W : World} {R : Act → Prop} : ∀ (l : List Oper) (a : Act), (l.all fun o => o.guard.isNone) = true → Head0 P W R l a → HeadZ P ops W R l a
  | [], _, _, h => h
  | o :: l, a, hg, h => by
    simp only [List.all_cons, Bool.and_eq_true, Option.isNone_iff_eq_none] at hg
    obtain ⟨v, h1, h2⟩ := h
    have hw : Region.wanted o (yielded ops a.tmps) = true := by unfold Region.wanted; rw [hg.1]
    unfold HeadZ
    rw [if_pos hw]
    exact ⟨v, h1, Head0.headZ l _ hg.2 h2⟩
theorem region0 {id : Nat} {a : Act} {w : World} {l : List Oper} (n p : Nat) (hm : P.follows .mixedOrders = true) (hsel : Region.noSelect l.toArray = true) (hl : lastB .any l.toArray n p = true)
    (hB : headB .any l.toArray n 0 (Array.replicate l.length false) = true) (hg : ((l.take n).all fun o => o.guard.isNone) = true) (hn : (l.take n).length = n ∧ n ≤ l.length)
    (h : ∀ R : Act → Prop, Hid (∀ a', AnyZ P .any l.toArray Q (kindOf n p) (l.length - n) (setFrom n 0 (Array.replicate l.length false)) a' w → R a') → Head0 P w R (l.take n) a) : (Code.region id l.toArray true).wp P Q a w := by
  refine wp_region_any hm ?_
  have e : l.toArray.size = n + (l.length - n) := by simp; omega
  have := AnyZ.head (P := P) (Q := Q) (md := .any) (ops := l.toArray) hsel hl (l.length - n) w (l.take n) 0 (Array.replicate l.length false) a (by rw [hn.1]; omega)
    (fun j hj => by
      rw [hn.1] at hj
      simp [hj]) (by rw [hn.1]; exact hB) (Head0.headZ _ _ hg (h _ (Lib.hid (fun _ h => by rw [hn.1]; exact h))))
  rw [hn.1] at this
  have h2 := AnyZ.sound _ _ _ _ w.drew this ((Below.refl _ _).drew)
  rw [← e] at h2
  simpa using h2
theorem head0_val {W : World} {R : Act → Prop} {o : Oper} {l : List Oper} {a : Act} (v : Value) (hv : ∀ w, Below W.heap.size W w → onlyMakes P w v ((execOp a.eval o).run P w)) (h : Head0 P W R l (a.put o.dst v)) : Head0 P W R (o :: l) a := ⟨v, hv, h⟩
theorem onlyMakes_val {w : World} {v : Value} {r : Result Next} (h : r = .ok (.value v) w) : onlyMakes P w v r := by subst h; exact ⟨rfl, rfl⟩
theorem onlyMakes_call {w : World} {v : Value} {r : Result Next} {f : FuncId} {args : Array Value} (h : r = .ok (.enter f args) w) (hc : Calls P f args w (fun e w'' => e = .returned v ∧ Below w.heap.size w w'')) : onlyMakes P w v r := by subst h; exact ⟨rfl, hc⟩
/-- a contract of a callee that leaves the world alone -/
theorem still_call {f : FuncId} {args : Array Value} {w : World} {v : Value} (h : Calls P f args w (fun e w' => e = .returned v ∧ w = w')) : Calls P f args w (fun e w' => e = .returned v ∧ Below w.heap.size w w') :=
  h.mono fun _ _ ⟨e, hw⟩ => ⟨e, hw ▸ Below.refl _ _⟩
theorem head0_nil {W : World} {R : Act → Prop} {a : Act} (h : R a) : Head0 P W R [] a := h
theorem AnyZ.one_alloc {kind : Nat → Nat} {fuel : Nat} {listed : Array Bool} {a : Act} {W : World} (i : Nat) {o : Oper} {obj : Obj} (hr : Region.ready md ops listed = [i]) (ho : ops[i]? = some o) (hk : kind i = 1) (hm : Makes P ops W o obj a)
    (h : ∀ w1, Below W.heap.size W w1 → AnyZ P md ops Q kind fuel (listed.setIfInBounds i true) (a.put o.dst (.pointer (some ⟨w1.heap.size, 0, none⟩))) (w1.alloc obj)) : AnyZ P md ops Q kind (fuel + 1) listed a W := by
  refine ⟨fun h => (by rw [hr] at h; cases h), fun j hj o' ho' => ?_⟩
  rw [hr] at hj
  obtain rfl : j = i := by simpa using hj
  obtain rfl : o' = o := Option.some.inj (ho'.symm.trans ho)
  exact ⟨fun h => by omega, fun _ => ⟨obj, hm, h⟩, fun h => by omega⟩
theorem AnyZ.last {kind : Nat → Nat} {fuel : Nat} {listed : Array Bool} {a : Act} {W : World} (i : Nat) (hr : Region.ready md ops listed = [i]) (hk : 1 < kind i)
    (h : ∀ w, Below W.heap.size W w → wpAny P md ops Q (fuel + 1) listed a w) : AnyZ P md ops Q kind (fuel + 1) listed a W := by
  refine ⟨fun h => (by rw [hr] at h; cases h), fun j hj o' ho' => ?_⟩
  rw [hr] at hj
  obtain rfl : j = i := by simpa using hj
  exact ⟨fun h => by omega, fun h => by omega, fun _ => h⟩
theorem wpAny_one {fuel : Nat} {listed : Array Bool} {a : Act} {w : World} (i : Nat) {o : Oper} (hr : Region.ready md ops listed = [i]) (ho : ops[i]? = some o) (hg : o.guard = none)
    (h : Oper.wp P o a w (fun a' w' => wpAny P md ops Q fuel (listed.setIfInBounds i true) a' w') Q) : wpAny P md ops Q (fuel + 1) listed a w := by
  refine ⟨fun h => (by rw [hr] at h; cases h), fun j hj => ?_⟩
  rw [hr] at hj
  obtain rfl : j = i := by simpa using hj
  unfold wpOp
  simp only [ho, Region.wanted, hg, if_true]
  exact .inl h
theorem wpAny_done {fuel : Nat} {listed : Array Bool} {a : Act} {w : World} (hr : Region.ready md ops listed = []) (h : Q .normal a w) : wpAny P md ops Q fuel listed a w := by
  cases fuel with
  | zero => exact ⟨hr, h⟩
  | succ n => exact ⟨fun _ => h, fun i hi => by rw [hr] at hi; cases hi⟩
end
end Go.Proofs.Ytlmnhlmgbcpclaa

/- My own law for regions, with guards: an operation of the head whose guard does not want it yields nothing. -/
namespace Go.Proofs.Ytlmnhlmgbcpclaa
open Go.RowKit

section
variable {P : Program} {ops : Array Oper} {Q : Exit → Act → World → Prop}
theorem regionZ {id : Nat} {a : Act} {w : World} {l : List Oper} (n p : Nat) (hm : P.follows .mixedOrders = true) (hsel : Region.noSelect l.toArray = true) (hl : lastB .any l.toArray n p = true)
    (hB : headB .any l.toArray n 0 (Array.replicate l.length false) = true) (hn : (l.take n).length = n ∧ n ≤ l.length)
    (h : ∀ R : Act → Prop, Hid (∀ a', AnyZ P .any l.toArray Q (kindOf n p) (l.length - n) (setFrom n 0 (Array.replicate l.length false)) a' w → R a') → HeadZ P l.toArray w R (l.take n) a) : (Code.region id l.toArray true).wp P Q a w := by
  refine wp_region_any hm ?_
  have e : l.toArray.size = n + (l.length - n) := by simp; omega
  have := AnyZ.head (P := P) (Q := Q) (md := .any) (ops := l.toArray) hsel hl (l.length - n) w (l.take n) 0 (Array.replicate l.length false) a (by rw [hn.1]; omega)
    (fun j hj => by
      rw [hn.1] at hj
      simp [hj]) (by rw [hn.1]; exact hB) (h _ (Lib.hid (fun _ h => by rw [hn.1]; exact h)))
  rw [hn.1] at this
  have h2 := AnyZ.sound _ _ _ _ w.drew this ((Below.refl _ _).drew)
  rw [← e] at h2
  simpa using h2
theorem headZ_val {W : World} {R : Act → Prop} {o : Oper} {l : List Oper} {a : Act} (v : Value) (hw : Region.wanted o (yielded ops a.tmps) = true) (hv : ∀ w, Below W.heap.size W w → onlyMakes P w v ((execOp a.eval o).run P w)) (h : HeadZ P ops W R l (a.put o.dst v)) : HeadZ P ops W R (o :: l) a := by
  unfold HeadZ
  rw [if_pos hw]
  exact ⟨v, hv, h⟩
theorem headZ_skip {W : World} {R : Act → Prop} {o : Oper} {l : List Oper} {a : Act} (hw : Region.wanted o (yielded ops a.tmps) = false) (h : HeadZ P ops W R l (a.put o.dst undef)) : HeadZ P ops W R (o :: l) a := by
  unfold HeadZ
  rw [if_neg (by rw [hw]; decide)]
  exact h
theorem headZ_nil {W : World} {R : Act → Prop} {a : Act} (h : R a) : HeadZ P ops W R [] a := h
end
end Go.Proofs.Ytlmnhlmgbcpclaa

/- My own law for regions, the third: what waits for the head may wait for it through others; the tail is walked in every order. -/
namespace Go.Proofs.Ytlmnhlmgbcpclaa
open Go.RowKit

section
variable {P : Program} {ops : Array Oper} {md : Region.Mode} {Q : Exit → Act → World → Prop}
/-- with an operation all are listed that it waits for -/
def Closed (md : Region.Mode) (ops : Array Oper) (listed : Array Bool) : Prop :=
  ∀ k, listed.getD k false = true → ∀ ok, ops[k]? = some ok → ∀ e ∈ ok.after, Region.binds md e = true → listed.getD e.on false = true
inductive Waits (md : Region.Mode) (ops : Array Oper) : Nat → Nat → Prop
  | edge {j : Nat} {oj : Oper} {e : Edge} : ops[j]? = some oj → e ∈ oj.after → Region.binds md e = true → Waits md ops j e.on
  | more {j i : Nat} {oj : Oper} {e : Edge} : ops[j]? = some oj → e ∈ oj.after → Region.binds md e = true → Waits md ops e.on i → Waits md ops j i
theorem Waits.listed {j i : Nat} {listed : Array Bool} (hc : Closed md ops listed) (h : Waits md ops j i) : listed.getD j false = true → listed.getD i false = true := by
  induction h with
  | edge ho he hb => exact fun hj => hc _ hj _ ho _ he hb
  | more ho he hb _ ih => exact fun hj => ih (hc _ hj _ ho _ he hb)
theorem Waits.ready {j i : Nat} {listed : Array Bool} (h : Waits md ops j i) (hc : Closed md ops listed) (hr : j ∈ Region.ready md ops listed) : listed.getD i false = true := by
  obtain ⟨_, o, ho, hall⟩ := mem_ready.1 hr
  cases h with
  | edge ho' he hb => rw [ho] at ho'; cases ho'; exact hall _ he hb
  | more ho' he hb h' => rw [ho] at ho'; cases ho'; exact h'.listed hc (hall _ he hb)
theorem Closed.set {j : Nat} {listed : Array Bool} (hc : Closed md ops listed) (hr : j ∈ Region.ready md ops listed) : Closed md ops (listed.setIfInBounds j true) := by
  intro k hk ok hok e he hb
  obtain ⟨_, o, ho, hall⟩ := mem_ready.1 hr
  refine getD_set_true ?_
  by_cases hjk : j = k
  · subst hjk; rw [ho] at hok; cases hok; exact hall e he hb
  · rw [getD_set_ne false hjk] at hk; exact hc k hk ok hok e he hb
theorem Closed.none (n : Nat) : Closed md ops (Array.replicate n false) := by
  intro k hk
  exfalso
  rcases Nat.lt_or_ge k n with h | h
  · simp [h] at hk
  · simp [h] at hk
def waitsB (md : Region.Mode) (ops : Array Oper) : Nat → Nat → Nat → Bool
  | 0, _, _ => false
  | f + 1, j, i => match ops[j]? with
    | some oj => oj.after.any fun e => Region.binds md e && (e.on == i || (decide (i < e.on) && waitsB md ops f e.on i))
    | none => false
theorem waitsB_spec : ∀ (f j i : Nat), waitsB md ops f j i = true → Waits md ops j i
  | 0, _, _, h => by simp [waitsB] at h
  | f + 1, j, i, h => by
    unfold waitsB at h
    split at h
    · rename_i oj ho
      obtain ⟨e, he, hb⟩ := Array.any_eq_true'.1 h
      simp only [Bool.and_eq_true, Bool.or_eq_true, beq_iff_eq] at hb
      obtain ⟨hb, h1 | ⟨_, h2⟩⟩ := hb
      · subst h1; exact .edge ho he hb
      · exact .more ho he hb (waitsB_spec f _ _ h2)
    · cases h
def lastT (md : Region.Mode) (ops : Array Oper) (n p : Nat) : Bool :=
  (List.range ops.size).all fun j => decide (j < n + p) || (List.range n).all fun i => waitsB md ops 8 j i
theorem lastT_spec {n p i j : Nat} {oj : Oper} (h : lastT md ops n p = true) (hi : i < n) (hj : ops[j]? = some oj) (hk : 1 < kindOf n p j) : Waits md ops j i := by
  simp only [lastT, List.all_eq_true, List.mem_range] at h
  have h1 := h j (Array.getElem?_eq_some_iff.1 hj).1
  have hn : ¬ j < n + p := by unfold kindOf at hk; intro hlt; split at hk <;> first | omega | (split at hk <;> omega)
  simp only [hn, decide_false, Bool.false_or, List.all_eq_true, List.mem_range] at h1
  exact waitsB_spec _ _ _ (h1 i hi)
/-- a steady operation may be taken first -/
theorem AnyZ.firstW {kind : Nat → Nat} {i : Nat} {oi : Oper} {v : Value} (hi : ops[i]? = some oi) (hk : kind i = 0) (hsel : Region.noSelect ops = true)
    (hlast : ∀ (j : Nat) (oj : Oper), ops[j]? = some oj → 1 < kind j → Waits md ops j i) :
    ∀ (fuel : Nat) (listed : Array Bool) (a : Act) (W : World),
      (∀ j oj, ops[j]? = some oj → j ≠ i → listed.getD j true = false → (∀ e ∈ oj.after, Region.binds md e = true → e.on ≠ i) → oi.apart ops oj = true) →
      Closed md ops listed → i ∈ Region.ready md ops listed → Steady P ops W oi v a →
      AnyZ P md ops Q kind fuel (listed.setIfInBounds i true) (a.put oi.dst v) W → AnyZ P md ops Q kind (fuel + 1) listed a W := by
  have sel := Region.noSelect_spec hsel
  intro fuel
  induction fuel with
  | zero =>
    intro listed a W hfree hcl hr hy H
    refine ⟨fun h => (by rw [h] at hr; cases hr), fun j hj o ho => ?_⟩
    by_cases hji : j = i
    · subst hji
      obtain rfl : o = oi := Option.some.inj (ho.symm.trans hi)
      exact ⟨fun _ => ⟨v, hy, H⟩, fun h => by omega, fun h => by omega⟩
    · exfalso
      have h1 := (H W (Below.refl _ _)).1
      have := ready_mono (i := i) hj hji
      rw [h1] at this
      cases this
  | succ fuel ih =>
    intro listed a W hfree hcl hr hy H
    refine ⟨fun h => (by rw [h] at hr; cases hr), fun j hj oj hoj => ?_⟩
    by_cases hji : j = i
    · subst hji
      obtain rfl : oj = oi := Option.some.inj (hoj.symm.trans hi)
      exact ⟨fun _ => ⟨v, hy, H⟩, fun h => by omega, fun h => by omega⟩
    obtain ⟨hjun, oj', hoj', hall⟩ := mem_ready.1 hj
    obtain rfl : oj = oj' := Option.some.inj (hoj.symm.trans hoj')
    have hnot : ∀ e ∈ oj.after, Region.binds md e = true → e.on ≠ i := fun e he hb heq => by
      have h1 := hall e he hb
      have h0 := (mem_ready.1 hr).1
      rw [heq] at h1
      rcases Nat.lt_or_ge i listed.size with h' | h'
      · simp [h'] at h0 h1; rw [h0] at h1; cases h1
      · simp [Array.getElem?_eq_none h'] at h1
    have hap := hfree j oj hoj hji hjun hnot
    obtain ⟨_, h2, _⟩ := Oper.apart_spec hap
    have hfree' : ∀ k ok, ops[k]? = some ok → k ≠ i → (listed.setIfInBounds j true).getD k true = false →
        (∀ e ∈ ok.after, Region.binds md e = true → e.on ≠ i) → oi.apart ops ok = true := fun k ok hk' hki hun hno => by
      refine hfree k ok hk' hki ?_ hno
      by_cases hjk : j = k
      · subst hjk; exact hjun
      · rw [getD_set_ne true hjk] at hun; exact hun
    obtain ⟨g0, g1, g2⟩ := H.2 j (ready_mono hj hji) oj hoj
    refine ⟨fun h => ?_, fun h => ?_, fun h => ?_⟩
    · obtain ⟨u, hu, hz⟩ := g0 h
      refine ⟨u, hu.unput hap (sel j oj · · hoj), ih _ _ W hfree' (hcl.set hj) (ready_mono hr (Ne.symm hji)) (hy.put hap (sel i oi · · hi)) ?_⟩
      rw [Array.setIfInBounds_comm _ _ hji, ← Act.put_comm a v u h2]
      exact hz
    · obtain ⟨obj, hm, hz⟩ := g1 h
      refine ⟨obj, hm.unput hap (sel j oj · · hoj), fun w1 hw1 => ?_⟩
      have hg : Below W.heap.size W (w1.alloc obj) := hw1.alloc hw1.size obj
      refine ih _ _ _ hfree' (hcl.set hj) (ready_mono hr (Ne.symm hji)) ((hy.put hap (sel i oi · · hi)).grow hg) ?_
      rw [Array.setIfInBounds_comm _ _ hji, ← Act.put_comm a v _ h2]
      exact hz w1 hw1
    · have h1 := (hlast j oj hoj h).ready hcl hj
      have h0 := (mem_ready.1 hr).1
      rcases Nat.lt_or_ge i listed.size with h' | h'
      · simp [h'] at h0 h1; rw [h0] at h1; cases h1
      · simp [Array.getElem?_eq_none h'] at h1
theorem AnyZ.headW {n p : Nat} (hsel : Region.noSelect ops = true) (hl : lastT md ops n p = true) (fuel : Nat) (W : World) : ∀ (l : List Oper) (k : Nat) (listed : Array Bool) (a : Act), k + l.length ≤ n →
    (∀ j, j < l.length → l[j]? = ops[k + j]?) → headB md ops l.length k listed = true → Closed md ops listed →
    HeadZ P ops W (fun a' => AnyZ P md ops Q (kindOf n p) fuel (setFrom l.length k listed) a' W) l a → AnyZ P md ops Q (kindOf n p) (l.length + fuel) listed a W
  | [], _, _, _, _, _, _, _, h => by simpa [HeadZ, setFrom] using h
  | o :: l, k, listed, a, hk, hj, hB, hcl, h => by
    have h0 : ops[k]? = some o := by simpa using (hj 0 (by simp)).symm
    simp only [List.length_cons, headB, Bool.and_eq_true] at hB hk
    obtain ⟨⟨hr, hf⟩, hB'⟩ := hB
    have hy : ∃ v, Steady P ops W o v a ∧ HeadZ P ops W (fun a' => AnyZ P md ops Q (kindOf n p) fuel (setFrom l.length (k + 1) (listed.setIfInBounds k true)) a' W) l (a.put o.dst v) := by
      simp only [HeadZ, List.length_cons, setFrom] at h
      by_cases hw : Region.wanted o (yielded ops a.tmps) = true
      · rw [if_pos hw] at h
        obtain ⟨v, h1, h2⟩ := h
        exact ⟨v, .inl ⟨hw, h1⟩, h2⟩
      · rw [if_neg hw] at h
        exact ⟨undef, .inr ⟨by simpa using hw, rfl⟩, h⟩
    obtain ⟨v, hv, hz⟩ := hy
    have := AnyZ.headW hsel hl fuel W l (k + 1) (listed.setIfInBounds k true) (a.put o.dst v) (by omega) (fun j hjl => by have := hj (j + 1) (by simp; omega); simpa [Nat.add_assoc, Nat.add_comm 1 j] using this) hB' (hcl.set (by simpa using hr)) hz
    have e : (o :: l).length + fuel = (l.length + fuel) + 1 := by simp; omega
    rw [e]
    exact AnyZ.firstW h0 (by unfold kindOf; rw [if_pos (by omega)]) hsel (fun j oj hj' hkj => lastT_spec hl (by omega) hj' hkj) _ _ _ _ (Region.free_spec h0 hf) hcl (by simpa using hr) hv this

theorem regionW {id : Nat} {a : Act} {w : World} {l : List Oper} (n p : Nat) (hm : P.follows .mixedOrders = true) (hsel : Region.noSelect l.toArray = true) (hl : lastT .any l.toArray n p = true)
    (hB : headB .any l.toArray n 0 (Array.replicate l.length false) = true) (hn : (l.take n).length = n ∧ n ≤ l.length)
    (h : ∀ R : Act → Prop, Hid (∀ a', AnyZ P .any l.toArray Q (kindOf n p) (l.length - n) (setFrom n 0 (Array.replicate l.length false)) a' w → R a') → HeadZ P l.toArray w R (l.take n) a) : (Code.region id l.toArray true).wp P Q a w := by
  refine wp_region_any hm ?_
  have e : l.toArray.size = n + (l.length - n) := by simp; omega
  have := AnyZ.headW (P := P) (Q := Q) (md := .any) (ops := l.toArray) hsel hl (l.length - n) w (l.take n) 0 (Array.replicate l.length false) a (by rw [hn.1]; omega)
    (fun j hj => by
      rw [hn.1] at hj
      simp [hj]) (by rw [hn.1]; exact hB) (Closed.none _) (h _ (Lib.hid (fun _ h => by rw [hn.1]; exact h)))
  rw [hn.1] at this
  have h2 := AnyZ.sound _ _ _ _ w.drew this ((Below.refl _ _).drew)
  rw [← e] at h2
  simpa using h2
/-- the tail: every order -/
theorem AnyZ.tail {kind : Nat → Nat} {fuel : Nat} {listed : Array Bool} {a : Act} {W : World} (hk : (Region.ready md ops listed).all (fun i => decide (1 < kind i)) = true) (hne : (Region.ready md ops listed).isEmpty = false)
    (h : ∀ w, Below W.heap.size W w → wpAny P md ops Q fuel listed a w) : AnyZ P md ops Q kind fuel listed a W := by
  cases fuel with
  | zero => exact h
  | succ fuel =>
    refine ⟨fun he => (by rw [he] at hne; cases hne), fun j hj o' ho' => ?_⟩
    have hkj : 1 < kind j := by simpa using List.all_eq_true.1 hk j hj
    exact ⟨fun h => by omega, fun h => by omega, fun _ => h⟩
theorem wpAny_each1 {fuel : Nat} {listed : Array Bool} {a : Act} {w : World} (i : Nat) (hr : Region.ready md ops listed = [i])
    (h : wpOp P ops Q i (fun a' w' => wpAny P md ops Q fuel (listed.setIfInBounds i true) a' w') a w) : wpAny P md ops Q (fuel + 1) listed a w := by
  refine ⟨fun h => (by rw [hr] at h; cases h), fun j hj => ?_⟩
  rw [hr] at hj
  obtain rfl : j = i := by simpa using hj
  exact h
theorem wpAny_each2 {fuel : Nat} {listed : Array Bool} {a : Act} {w : World} (i k : Nat) (hr : Region.ready md ops listed = [i, k])
    (h : wpOp P ops Q i (fun a' w' => wpAny P md ops Q fuel (listed.setIfInBounds i true) a' w') a w)
    (h' : wpOp P ops Q k (fun a' w' => wpAny P md ops Q fuel (listed.setIfInBounds k true) a' w') a w) : wpAny P md ops Q (fuel + 1) listed a w := by
  refine ⟨fun h => (by rw [hr] at h; cases h), fun j hj => ?_⟩
  rw [hr] at hj
  simp only [List.mem_cons, List.not_mem_nil, or_false] at hj
  rcases hj with rfl | rfl
  · exact h
  · exact h'
theorem wpOp_go {i : Nat} {o : Oper} {K : Act → World → Prop} {a : Act} {w : World} (ho : ops[i]? = some o) (hw : Region.wanted o (yielded ops a.tmps) = true) (h : Oper.wp P o a w K Q) : wpOp P ops Q i K a w := by
  unfold wpOp
  simp only [ho, hw, if_true]
  exact .inl h
theorem wpOp_skip {i : Nat} {o : Oper} {K : Act → World → Prop} {a : Act} {w : World} (ho : ops[i]? = some o) (hw : Region.wanted o (yielded ops a.tmps) = false) (h : K (a.put o.dst undef) w) : wpOp P ops Q i K a w := by
  unfold wpOp
  simp only [ho, hw]
  exact h
end
end Go.Proofs.Ytlmnhlmgbcpclaa

/- My own law for regions, the fourth: operations that yield one value in whatever world (copies, addresses, arithmetic) belong to the head even where the tail doesn't wait for them. -/
namespace Go.Proofs.Ytlmnhlmgbcpclaa
open Go.RowKit

section
variable {P : Program} {ops : Array Oper} {md : Region.Mode} {Q : Exit → Act → World → Prop}
theorem _root_.Go.Yields.steady {W : World} {o : Oper} {v : Value} {a : Act} (h : Yields P ops o v a) : Steady P ops W o v a :=
  h.imp (fun ⟨x, y⟩ => ⟨x, fun w _ => by rw [y w]; exact ⟨rfl, rfl⟩⟩) id
theorem _root_.Go.Yields.put' {oi oj : Oper} {v u : Value} {a : Act} (hap : oi.apart ops oj = true) (hs : ∀ cs b, oi.op ≠ .select cs b) (h : Yields P ops oi v a) : Yields P ops oi v (a.put oj.dst u) := by
  obtain ⟨_, _, h3⟩ := Oper.apart_spec hap
  unfold Yields at *
  rw [execOp_put oi hs a oj.dst u h3, wanted_put oi a oj.dst u h3]
  exact h
/-- an operation that yields one value in whatever world may be taken first, whatever waits for it -/
theorem AnyZ.firstP {kind : Nat → Nat} {i : Nat} {oi : Oper} {v : Value} (hi : ops[i]? = some oi) (hk : kind i = 0) (hsel : Region.noSelect ops = true)
    (hQ : ∀ c (a : Act) d v w, Q (.panic c) (a.put d v) w → Q (.panic c) a w) :
    ∀ (fuel : Nat) (listed : Array Bool) (a : Act) (W : World),
      (∀ j oj, ops[j]? = some oj → j ≠ i → listed.getD j true = false → (∀ e ∈ oj.after, Region.binds md e = true → e.on ≠ i) → oi.apart ops oj = true) →
      i ∈ Region.ready md ops listed → Yields P ops oi v a →
      AnyZ P md ops Q kind fuel (listed.setIfInBounds i true) (a.put oi.dst v) W → AnyZ P md ops Q kind (fuel + 1) listed a W := by
  have sel := Region.noSelect_spec hsel
  intro fuel
  induction fuel with
  | zero =>
    intro listed a W hfree hr hy H
    refine ⟨fun h => (by rw [h] at hr; cases hr), fun j hj o ho => ?_⟩
    by_cases hji : j = i
    · subst hji
      obtain rfl : o = oi := Option.some.inj (ho.symm.trans hi)
      exact ⟨fun _ => ⟨v, hy.steady, H⟩, fun h => by omega, fun h => by omega⟩
    · exfalso
      have h1 := (H W (Below.refl _ _)).1
      have := ready_mono (i := i) hj hji
      rw [h1] at this
      cases this
  | succ fuel ih =>
    intro listed a W hfree hr hy H
    refine ⟨fun h => (by rw [h] at hr; cases hr), fun j hj oj hoj => ?_⟩
    by_cases hji : j = i
    · subst hji
      obtain rfl : oj = oi := Option.some.inj (hoj.symm.trans hi)
      exact ⟨fun _ => ⟨v, hy.steady, H⟩, fun h => by omega, fun h => by omega⟩
    obtain ⟨hjun, oj', hoj', hall⟩ := mem_ready.1 hj
    obtain rfl : oj = oj' := Option.some.inj (hoj.symm.trans hoj')
    have hnot : ∀ e ∈ oj.after, Region.binds md e = true → e.on ≠ i := fun e he hb heq => by
      have h1 := hall e he hb
      have h0 := (mem_ready.1 hr).1
      rw [heq] at h1
      rcases Nat.lt_or_ge i listed.size with h' | h'
      · simp [h'] at h0 h1; rw [h0] at h1; cases h1
      · simp [Array.getElem?_eq_none h'] at h1
    have hap := hfree j oj hoj hji hjun hnot
    obtain ⟨_, h2, _⟩ := Oper.apart_spec hap
    have hfree' : ∀ k ok, ops[k]? = some ok → k ≠ i → (listed.setIfInBounds j true).getD k true = false →
        (∀ e ∈ ok.after, Region.binds md e = true → e.on ≠ i) → oi.apart ops ok = true := fun k ok hk' hki hun hno => by
      refine hfree k ok hk' hki ?_ hno
      by_cases hjk : j = k
      · subst hjk; exact hjun
      · rw [getD_set_ne true hjk] at hun; exact hun
    obtain ⟨g0, g1, g2⟩ := H.2 j (ready_mono hj hji) oj hoj
    refine ⟨fun h => ?_, fun h => ?_, fun h => ?_⟩
    · obtain ⟨u, hu, hz⟩ := g0 h
      refine ⟨u, hu.unput hap (sel j oj · · hoj), ih _ _ W hfree' (ready_mono hr (Ne.symm hji)) (hy.put' hap (sel i oi · · hi)) ?_⟩
      rw [Array.setIfInBounds_comm _ _ hji, ← Act.put_comm a v u h2]
      exact hz
    · obtain ⟨obj, hm, hz⟩ := g1 h
      refine ⟨obj, hm.unput hap (sel j oj · · hoj), fun w1 hw1 => ?_⟩
      have hg : Below W.heap.size W (w1.alloc obj) := hw1.alloc hw1.size obj
      refine ih _ _ _ hfree' (ready_mono hr (Ne.symm hji)) (hy.put' hap (sel i oi · · hi)) ?_
      rw [Array.setIfInBounds_comm _ _ hji, ← Act.put_comm a v _ h2]
      exact hz w1 hw1
    · exact fun w hw => wpAny_first hi sel (fun c a w => hQ c a _ _ w) (fuel + 1) listed a w hfree hr hy (g2 h w hw)
def HeadP (P : Program) (ops : Array Oper) (W : World) (R : Act → Prop) (pure : List Nat) : Nat → List Oper → Act → Prop
  | _, [], a => R a
  | k, o :: l, a => if Region.wanted o (yielded ops a.tmps) = true then ∃ v, (if pure.contains k = true then (∀ w, (execOp a.eval o).run P w = .ok (.value v) w) else ∀ w, Below W.heap.size W w → onlyMakes P w v ((execOp a.eval o).run P w)) ∧ HeadP P ops W R pure (k + 1) l (a.put o.dst v) else HeadP P ops W R pure (k + 1) l (a.put o.dst undef)
def lastP (md : Region.Mode) (ops : Array Oper) (n p : Nat) (pure : List Nat) : Bool :=
  (List.range ops.size).all fun j => decide (j < n + p) || (List.range n).all fun i => pure.contains i || waitsB md ops 8 j i
theorem lastP_spec {n p i j : Nat} {pure : List Nat} {oj : Oper} (h : lastP md ops n p pure = true) (hi : i < n) (hp : pure.contains i = false) (hj : ops[j]? = some oj) (hk : 1 < kindOf n p j) : Waits md ops j i := by
  simp only [lastP, List.all_eq_true, List.mem_range] at h
  have h1 := h j (Array.getElem?_eq_some_iff.1 hj).1
  have hn : ¬ j < n + p := by unfold kindOf at hk; intro hlt; split at hk <;> first | omega | (split at hk <;> omega)
  simp only [hn, decide_false, Bool.false_or, List.all_eq_true, List.mem_range] at h1
  have h2 := h1 i hi
  rw [hp, Bool.false_or] at h2
  exact waitsB_spec _ _ _ h2
theorem AnyZ.headP {n p : Nat} {pure : List Nat} (hsel : Region.noSelect ops = true) (hQ : ∀ c (a : Act) d v w, Q (.panic c) (a.put d v) w → Q (.panic c) a w) (hl : lastP md ops n p pure = true) (fuel : Nat) (W : World) : ∀ (l : List Oper) (k : Nat) (listed : Array Bool) (a : Act), k + l.length ≤ n →
    (∀ j, j < l.length → l[j]? = ops[k + j]?) → headB md ops l.length k listed = true → Closed md ops listed →
    HeadP P ops W (fun a' => AnyZ P md ops Q (kindOf n p) fuel (setFrom l.length k listed) a' W) pure k l a → AnyZ P md ops Q (kindOf n p) (l.length + fuel) listed a W
  | [], _, _, _, _, _, _, _, h => by simpa [HeadP, setFrom] using h
  | o :: l, k, listed, a, hk, hj, hB, hcl, h => by
    have h0 : ops[k]? = some o := by simpa using (hj 0 (by simp)).symm
    simp only [List.length_cons, headB, Bool.and_eq_true] at hB hk
    obtain ⟨⟨hr, hf⟩, hB'⟩ := hB
    have hr' : k ∈ Region.ready md ops listed := by simpa using hr
    have e : (o :: l).length + fuel = (l.length + fuel) + 1 := by simp; omega
    have next := fun v hz => AnyZ.headP (pure := pure) hsel hQ hl fuel W l (k + 1) (listed.setIfInBounds k true) (a.put o.dst v) (by omega) (fun j hjl => by have := hj (j + 1) (by simp; omega); simpa [Nat.add_assoc, Nat.add_comm 1 j] using this) hB' (hcl.set hr') hz
    have hk0 : kindOf n p k = 0 := by unfold kindOf; rw [if_pos (by omega)]
    rw [e]
    cases hp : pure.contains k with
    | true =>
      have hy : ∃ v, Yields P ops o v a ∧ HeadP P ops W (fun a' => AnyZ P md ops Q (kindOf n p) fuel (setFrom l.length (k + 1) (listed.setIfInBounds k true)) a' W) pure (k + 1) l (a.put o.dst v) := by
        simp only [HeadP, List.length_cons, setFrom, hp, if_true] at h
        by_cases hw : Region.wanted o (yielded ops a.tmps) = true
        · rw [if_pos hw] at h
          obtain ⟨v, h1, h2⟩ := h
          exact ⟨v, .inl ⟨hw, h1⟩, h2⟩
        · rw [if_neg hw] at h
          exact ⟨undef, .inr ⟨by simpa using hw, rfl⟩, h⟩
      obtain ⟨v, hv, hz⟩ := hy
      exact AnyZ.firstP h0 hk0 hsel hQ _ _ _ _ (Region.free_spec h0 hf) hr' hv (next v hz)
    | false =>
      have hy : ∃ v, Steady P ops W o v a ∧ HeadP P ops W (fun a' => AnyZ P md ops Q (kindOf n p) fuel (setFrom l.length (k + 1) (listed.setIfInBounds k true)) a' W) pure (k + 1) l (a.put o.dst v) := by
        simp only [HeadP, List.length_cons, setFrom, hp, Bool.false_eq_true, if_false] at h
        by_cases hw : Region.wanted o (yielded ops a.tmps) = true
        · rw [if_pos hw] at h
          obtain ⟨v, h1, h2⟩ := h
          exact ⟨v, .inl ⟨hw, h1⟩, h2⟩
        · rw [if_neg hw] at h
          exact ⟨undef, .inr ⟨by simpa using hw, rfl⟩, h⟩
      obtain ⟨v, hv, hz⟩ := hy
      exact AnyZ.firstW h0 hk0 hsel (fun j oj hj' hkj => lastP_spec hl (by omega) hp hj' hkj) _ _ _ _ (Region.free_spec h0 hf) hcl hr' hv (next v hz)
theorem regionP {id : Nat} {a : Act} {w : World} {l : List Oper} (n p : Nat) (pure : List Nat) (hm : P.follows .mixedOrders = true) (hsel : Region.noSelect l.toArray = true) (hl : lastP .any l.toArray n p pure = true)
    (hB : headB .any l.toArray n 0 (Array.replicate l.length false) = true) (hn : (l.take n).length = n ∧ n ≤ l.length) (hQ : ∀ c (a : Act) d v w, Q (.panic c) (a.put d v) w → Q (.panic c) a w)
    (h : ∀ R : Act → Prop, Hid (∀ a', AnyZ P .any l.toArray Q (kindOf n p) (l.length - n) (setFrom n 0 (Array.replicate l.length false)) a' w → R a') → HeadP P l.toArray w R pure 0 (l.take n) a) : (Code.region id l.toArray true).wp P Q a w := by
  refine wp_region_any hm ?_
  have e : l.toArray.size = n + (l.length - n) := by simp; omega
  have := AnyZ.headP (P := P) (Q := Q) (md := .any) (ops := l.toArray) (pure := pure) hsel hQ hl (l.length - n) w (l.take n) 0 (Array.replicate l.length false) a (by rw [hn.1]; omega)
    (fun j hj => by
      rw [hn.1] at hj
      simp [hj]) (by rw [hn.1]; exact hB) (Closed.none _) (h _ (Lib.hid (fun _ h => by rw [hn.1]; exact h)))
  rw [hn.1] at this
  have h2 := AnyZ.sound _ _ _ _ w.drew this ((Below.refl _ _).drew)
  rw [← e] at h2
  simpa using h2
theorem headP_val {W : World} {R : Act → Prop} {pure : List Nat} {k : Nat} {o : Oper} {l : List Oper} {a : Act} (v : Value) (hw : Region.wanted o (yielded ops a.tmps) = true) (hp : pure.contains k = false) (hv : ∀ w, Below W.heap.size W w → onlyMakes P w v ((execOp a.eval o).run P w)) (h : HeadP P ops W R pure (k + 1) l (a.put o.dst v)) : HeadP P ops W R pure k (o :: l) a := by
  unfold HeadP
  rw [if_pos hw]
  exact ⟨v, by rw [if_neg (by rw [hp]; decide)]; exact hv, h⟩
theorem headP_pure {W : World} {R : Act → Prop} {pure : List Nat} {k : Nat} {o : Oper} {l : List Oper} {a : Act} (v : Value) (hw : Region.wanted o (yielded ops a.tmps) = true) (hp : pure.contains k = true) (hv : ∀ w, (execOp a.eval o).run P w = .ok (.value v) w) (h : HeadP P ops W R pure (k + 1) l (a.put o.dst v)) : HeadP P ops W R pure k (o :: l) a := by
  unfold HeadP
  rw [if_pos hw]
  exact ⟨v, by rw [if_pos hp]; exact hv, h⟩
theorem headP_skip {W : World} {R : Act → Prop} {pure : List Nat} {k : Nat} {o : Oper} {l : List Oper} {a : Act} (hw : Region.wanted o (yielded ops a.tmps) = false) (h : HeadP P ops W R pure (k + 1) l (a.put o.dst undef)) : HeadP P ops W R pure k (o :: l) a := by
  unfold HeadP
  rw [if_neg (by rw [hw]; decide)]
  exact h
theorem headP_nil {W : World} {R : Act → Prop} {pure : List Nat} {k : Nat} {a : Act} (h : R a) : HeadP P ops W R pure k [] a := h
end
end Go.Proofs.Ytlmnhlmgbcpclaa

/- My own law for regions, the fifth: pure operations that stand behind an allocation or a store (assignments to temporaries) are taken by themselves, as soon as they are ready. -/
namespace Go.Proofs.Ytlmnhlmgbcpclaa
open Go.RowKit

section
variable {P : Program} {ops : Array Oper} {md : Region.Mode} {Q : Exit → Act → World → Prop}
def kindX (n p : Nat) (xs : List Nat) (i : Nat) : Nat := if xs.contains i = true then 0 else kindOf n p i
theorem kindX_head {n p : Nat} {xs : List Nat} {k : Nat} (h : k < n) : kindX n p xs k = 0 := by
  unfold kindX
  split
  · rfl
  · unfold kindOf; rw [if_pos h]
def lastX (md : Region.Mode) (ops : Array Oper) (n p : Nat) (pure xs : List Nat) : Bool :=
  (List.range ops.size).all fun j => (decide (j < n + p) || xs.contains j) || (List.range n).all fun i => pure.contains i || waitsB md ops 8 j i
theorem lastX_spec {n p i j : Nat} {pure xs : List Nat} {oj : Oper} (h : lastX md ops n p pure xs = true) (hi : i < n) (hp : pure.contains i = false) (hj : ops[j]? = some oj) (hk : 1 < kindX n p xs j) : Waits md ops j i := by
  simp only [lastX, List.all_eq_true, List.mem_range] at h
  have h1 := h j (Array.getElem?_eq_some_iff.1 hj).1
  have hx : xs.contains j = false := by
    cases hc : xs.contains j
    · rfl
    · unfold kindX at hk; rw [if_pos hc] at hk; omega
  have hk' : 1 < kindOf n p j := by unfold kindX at hk; rw [if_neg (by rw [hx]; decide)] at hk; exact hk
  have hn : ¬ j < n + p := by unfold kindOf at hk'; intro hlt; split at hk' <;> first | omega | (split at hk' <;> omega)
  simp only [hn, hx, decide_false, Bool.false_or, List.all_eq_true, List.mem_range] at h1
  have h2 := h1 i hi
  rw [hp, Bool.false_or] at h2
  exact waitsB_spec _ _ _ h2
theorem AnyZ.headX {n p : Nat} {pure xs : List Nat} (hsel : Region.noSelect ops = true) (hQ : ∀ c (a : Act) d v w, Q (.panic c) (a.put d v) w → Q (.panic c) a w) (hl : lastX md ops n p pure xs = true) (fuel : Nat) (W : World) : ∀ (l : List Oper) (k : Nat) (listed : Array Bool) (a : Act), k + l.length ≤ n →
    (∀ j, j < l.length → l[j]? = ops[k + j]?) → headB md ops l.length k listed = true → Closed md ops listed →
    HeadP P ops W (fun a' => AnyZ P md ops Q (kindX n p xs) fuel (setFrom l.length k listed) a' W) pure k l a → AnyZ P md ops Q (kindX n p xs) (l.length + fuel) listed a W
  | [], _, _, _, _, _, _, _, h => by simpa [HeadP, setFrom] using h
  | o :: l, k, listed, a, hk, hj, hB, hcl, h => by
    have h0 : ops[k]? = some o := by simpa using (hj 0 (by simp)).symm
    simp only [List.length_cons, headB, Bool.and_eq_true] at hB hk
    obtain ⟨⟨hr, hf⟩, hB'⟩ := hB
    have hr' : k ∈ Region.ready md ops listed := by simpa using hr
    have e : (o :: l).length + fuel = (l.length + fuel) + 1 := by simp; omega
    have next := fun v hz => AnyZ.headX (pure := pure) (xs := xs) hsel hQ hl fuel W l (k + 1) (listed.setIfInBounds k true) (a.put o.dst v) (by omega) (fun j hjl => by have := hj (j + 1) (by simp; omega); simpa [Nat.add_assoc, Nat.add_comm 1 j] using this) hB' (hcl.set hr') hz
    have hk0 : kindX n p xs k = 0 := kindX_head (by omega)
    rw [e]
    cases hp : pure.contains k with
    | true =>
      have hy : ∃ v, Yields P ops o v a ∧ HeadP P ops W (fun a' => AnyZ P md ops Q (kindX n p xs) fuel (setFrom l.length (k + 1) (listed.setIfInBounds k true)) a' W) pure (k + 1) l (a.put o.dst v) := by
        simp only [HeadP, List.length_cons, setFrom, hp, if_true] at h
        by_cases hw : Region.wanted o (yielded ops a.tmps) = true
        · rw [if_pos hw] at h
          obtain ⟨v, h1, h2⟩ := h
          exact ⟨v, .inl ⟨hw, h1⟩, h2⟩
        · rw [if_neg hw] at h
          exact ⟨undef, .inr ⟨by simpa using hw, rfl⟩, h⟩
      obtain ⟨v, hv, hz⟩ := hy
      exact AnyZ.firstP h0 hk0 hsel hQ _ _ _ _ (Region.free_spec h0 hf) hr' hv (next v hz)
    | false =>
      have hy : ∃ v, Steady P ops W o v a ∧ HeadP P ops W (fun a' => AnyZ P md ops Q (kindX n p xs) fuel (setFrom l.length (k + 1) (listed.setIfInBounds k true)) a' W) pure (k + 1) l (a.put o.dst v) := by
        simp only [HeadP, List.length_cons, setFrom, hp, Bool.false_eq_true, if_false] at h
        by_cases hw : Region.wanted o (yielded ops a.tmps) = true
        · rw [if_pos hw] at h
          obtain ⟨v, h1, h2⟩ := h
          exact ⟨v, .inl ⟨hw, h1⟩, h2⟩
        · rw [if_neg hw] at h
          exact ⟨undef, .inr ⟨by simpa using hw, rfl⟩, h⟩
      obtain ⟨v, hv, hz⟩ := hy
      exact AnyZ.firstW h0 hk0 hsel (fun j oj hj' hkj => lastX_spec hl (by omega) hp hj' hkj) _ _ _ _ (Region.free_spec h0 hf) hcl hr' hv (next v hz)
theorem regionX {id : Nat} {a : Act} {w : World} {l : List Oper} (n p : Nat) (pure xs : List Nat) (hm : P.follows .mixedOrders = true) (hsel : Region.noSelect l.toArray = true) (hl : lastX .any l.toArray n p pure xs = true)
    (hB : headB .any l.toArray n 0 (Array.replicate l.length false) = true) (hn : (l.take n).length = n ∧ n ≤ l.length) (hQ : ∀ c (a : Act) d v w, Q (.panic c) (a.put d v) w → Q (.panic c) a w)
    (h : ∀ R : Act → Prop, Hid (∀ a', AnyZ P .any l.toArray Q (kindX n p xs) (l.length - n) (setFrom n 0 (Array.replicate l.length false)) a' w → R a') → HeadP P l.toArray w R pure 0 (l.take n) a) : (Code.region id l.toArray true).wp P Q a w := by
  refine wp_region_any hm ?_
  have e : l.toArray.size = n + (l.length - n) := by simp; omega
  have := AnyZ.headX (P := P) (Q := Q) (md := .any) (ops := l.toArray) (pure := pure) (xs := xs) hsel hQ hl (l.length - n) w (l.take n) 0 (Array.replicate l.length false) a (by rw [hn.1]; omega)
    (fun j hj => by
      rw [hn.1] at hj
      simp [hj]) (by rw [hn.1]; exact hB) (Closed.none _) (h _ (Lib.hid (fun _ h => by rw [hn.1]; exact h)))
  rw [hn.1] at this
  have h2 := AnyZ.sound _ _ _ _ w.drew this ((Below.refl _ _).drew)
  rw [← e] at h2
  simpa using h2
/-- a pure operation of the kind 0, once it is ready -/
theorem AnyZ.pureX {kind : Nat → Nat} {fuel : Nat} {listed : Array Bool} {a : Act} {W : World} (i : Nat) {o : Oper} {v : Value} (ho : ops[i]? = some o) (hk : kind i = 0) (hsel : Region.noSelect ops = true)
    (hQ : ∀ c (a : Act) d v w, Q (.panic c) (a.put d v) w → Q (.panic c) a w) (hr : (Region.ready md ops listed).contains i = true) (hf : Region.free md ops listed i = true)
    (hw : Region.wanted o (yielded ops a.tmps) = true) (hv : ∀ w, (execOp a.eval o).run P w = .ok (.value v) w)
    (h : AnyZ P md ops Q kind fuel (listed.setIfInBounds i true) (a.put o.dst v) W) : AnyZ P md ops Q kind (fuel + 1) listed a W :=
  AnyZ.firstP ho hk hsel hQ _ _ _ _ (Region.free_spec ho hf) (by simpa using hr) (.inl ⟨hw, hv⟩) h
end
end Go.Proofs.Ytlmnhlmgbcpclaa
