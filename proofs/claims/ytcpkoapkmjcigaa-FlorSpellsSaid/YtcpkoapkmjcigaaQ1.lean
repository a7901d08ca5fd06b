/- The law of Q0 at a region whose operations are written out: the head in the text's order, one allocation or none, then what waits for all. -/
import Derived.Test.YtcpkoapkmjcigaaQ0
import Derived.Lib.Hide
namespace Go.Proofs.Ytcpkoapkmjcigaa
open Go.RowKit

section
variable {P : Program} {ops : Array Oper} {md : Region.Mode} {Q : Exit → Act → World → Prop}

def kindOf (n p : Nat) (i : Nat) : Nat := if i < n then 0 else if i < n + p then 1 else 2
/-- the head, in the text's order -/
def HeadZ (P : Program) (ops : Array Oper) (W : World) (R : Act → Prop) : List Oper → Act → Prop
  | [], a => R a
  | o :: l, a => if Region.wanted o (yielded ops a.tmps) = true then ∃ v, (∀ w, Below W.heap.size W w → onlyMakes P w v ((execOp a.eval o).run P w)) ∧ HeadZ P ops W R l (a.put o.dst v) else HeadZ P ops W R l (a.put o.dst undef)
def headB (md : Region.Mode) (ops : Array Oper) : Nat → Nat → Array Bool → Bool
  | 0, _, _ => true
  | n + 1, k, listed => (Region.ready md ops listed).contains k && Region.free md ops listed k && headB md ops n (k + 1) (listed.setIfInBounds k true)
def setFrom : Nat → Nat → Array Bool → Array Bool
  | 0, _, l => l
  | n + 1, k, l => setFrom n (k + 1) (l.setIfInBounds k true)
def lastB (md : Region.Mode) (ops : Array Oper) (n p : Nat) : Bool :=
  (List.range ops.size).all fun j => decide (j < n + p) || (List.range n).all fun i => match ops[j]? with
    | some oj => oj.after.any fun e => Region.binds md e && e.on == i
    | none => true

theorem lastB_spec {n p i j : Nat} {oj : Oper} (h : lastB md ops n p = true) (hi : i < n) (hj : ops[j]? = some oj) (hk : 1 < kindOf n p j) : ∃ e ∈ oj.after, Region.binds md e = true ∧ e.on = i := by
  simp only [lastB, List.all_eq_true, List.mem_range] at h
  have h1 := h j (Array.getElem?_eq_some_iff.1 hj).1
  have hn : ¬ j < n + p := by unfold kindOf at hk; intro hlt; split at hk <;> first | omega | (split at hk <;> omega)
  simp only [hn, decide_false, Bool.false_or, List.all_eq_true, List.mem_range] at h1
  have h2 := h1 i hi
  rw [hj] at h2
  obtain ⟨e, he, hb⟩ := Array.any_eq_true'.1 h2
  simp only [Bool.and_eq_true, beq_iff_eq] at hb
  exact ⟨e, he, hb.1, hb.2⟩

theorem AnyZ.head {n p : Nat} (hsel : Region.noSelect ops = true) (hl : lastB md ops n p = true) (fuel : Nat) (W : World) : ∀ (l : List Oper) (k : Nat) (listed : Array Bool) (a : Act), k + l.length ≤ n →
    (∀ j, j < l.length → l[j]? = ops[k + j]?) → headB md ops l.length k listed = true →
    HeadZ P ops W (fun a' => AnyZ P md ops Q (kindOf n p) fuel (setFrom l.length k listed) a' W) l a → AnyZ P md ops Q (kindOf n p) (l.length + fuel) listed a W
  | [], _, _, _, _, _, _, h => by simpa [HeadZ, setFrom] using h
  | o :: l, k, listed, a, hk, hj, hB, h => by
    have h0 : ops[k]? = some o := by simpa using (hj 0 (by simp)).symm
    simp only [List.length_cons, headB, Bool.and_eq_true] at hB hk
    obtain ⟨⟨hr, hf⟩, hB'⟩ := hB
    have hy : ∃ v, Steady P ops W o v a ∧ HeadZ P ops W (fun a' => AnyZ P md ops Q (kindOf n p) fuel (setFrom l.length (k + 1) (listed.setIfInBounds k true)) a' W) l (a.put o.dst v) := by
      simp only [HeadZ, List.length_cons, setFrom] at h
      by_cases hw : Region.wanted o (yielded ops a.tmps) = true
      · rw [if_pos hw] at h
        obtain ⟨v, h1, h2⟩ := h
        exact ⟨v, .inl ⟨hw, h1⟩, h2⟩
      · rw [if_neg hw] at h
        exact ⟨undef, .inr ⟨by simpa using hw, rfl⟩, h⟩
    obtain ⟨v, hv, hz⟩ := hy
    have := AnyZ.head hsel hl fuel W l (k + 1) (listed.setIfInBounds k true) (a.put o.dst v) (by omega) (fun j hjl => by have := hj (j + 1) (by simp; omega); simpa [Nat.add_assoc, Nat.add_comm 1 j] using this) hB' hz
    have e : (o :: l).length + fuel = (l.length + fuel) + 1 := by simp; omega
    rw [e]
    exact AnyZ.first h0 (by unfold kindOf; rw [if_pos (by omega)]) hsel (fun j oj hj' hkj => lastB_spec hl (by omega) hj' hkj) _ _ _ _ (Region.free_spec h0 hf) (by simpa using hr) hv this

theorem wp_region_head {id : Nat} {a : Act} {w : World} {l : List Oper} (n p : Nat) (hm : P.follows .mixedOrders = true) (hsel : Region.noSelect l.toArray = true) (hl : lastB .any l.toArray n p = true)
    (hB : headB .any l.toArray n 0 (Array.replicate l.length false) = true) (hn : (l.take n).length = n ∧ n ≤ l.length)
    (h : HeadZ P l.toArray w.drew (fun a' => AnyZ P .any l.toArray Q (kindOf n p) (l.length - n) (setFrom n 0 (Array.replicate l.length false)) a' w.drew) (l.take n) a) : (Code.region id l.toArray true).wp P Q a w := by
  refine wp_region_any hm ?_
  have e : l.toArray.size = n + (l.length - n) := by simp; omega
  have := AnyZ.head (P := P) (Q := Q) (md := .any) (ops := l.toArray) hsel hl (l.length - n) w.drew (l.take n) 0 (Array.replicate l.length false) a (by rw [hn.1]; omega)
    (fun j hj => by
      rw [hn.1] at hj
      simp [hj]) (by rw [hn.1]; exact hB) (by rw [hn.1]; exact h)
  rw [hn.1] at this
  have h2 := AnyZ.sound _ _ _ _ w.drew this (Below.refl _ _)
  rw [← e] at h2
  simpa using h2

theorem headZ_step {W : World} {R : Act → Prop} {o : Oper} {l : List Oper} {a : Act}
    (h : ∀ K : Act → Prop, (∀ a', HeadZ P ops W R l a' → K a') → if Region.wanted o (yielded ops a.tmps) = true then ∃ v, (∀ w, Below W.heap.size W w → onlyMakes P w v ((execOp a.eval o).run P w)) ∧ K (a.put o.dst v) else K (a.put o.dst undef)) : HeadZ P ops W R (o :: l) a :=
  h _ (fun _ h => h)
/-- the head without guards -/
def Head0 (P : Program) (W : World) (R : Act → Prop) : List Oper → Act → Prop
  | [], a => R a
  | o :: l, a => ∃ v, (∀ w, Below W.heap.size W w → onlyMakes P w v ((execOp a.eval o).run P w)) ∧ Head0 P W R l (a.put o.dst v)
theorem Head0.headZ {W : World} {R : Act → Prop} : ∀ (l : List Oper) (a : Act), (l.all fun o => o.guard.isNone) = true → Head0 P W R l a → HeadZ P ops W R l a
  | [], _, _, h => h
  | o :: l, a, hg, h => by
    simp only [List.all_cons, Bool.and_eq_true, Option.isNone_iff_eq_none] at hg
    obtain ⟨v, h1, h2⟩ := h
    have hw : Region.wanted o (yielded ops a.tmps) = true := by unfold Region.wanted; rw [hg.1]
    unfold HeadZ
    rw [if_pos hw]
    exact ⟨v, h1, Head0.headZ l _ hg.2 h2⟩
theorem region0 {id : Nat} {a : Act} {w : World} {l : List Oper} (n p : Nat) (hm : P.follows .mixedOrders = true) (hsel : Region.noSelect l.toArray = true) (hl : lastB .any l.toArray n p = true)
    (hB : headB .any l.toArray n 0 (Array.replicate l.length false) = true) (hg : ((l.take n).all fun o => o.guard.isNone) = true) (hn : (l.take n).length = n ∧ n ≤ l.length)
    (h : ∀ R : Act → Prop, Hid (∀ a', AnyZ P .any l.toArray Q (kindOf n p) (l.length - n) (setFrom n 0 (Array.replicate l.length false)) a' w → R a') → Head0 P w R (l.take n) a) : (Code.region id l.toArray true).wp P Q a w := by
  refine wp_region_any hm ?_
  have e : l.toArray.size = n + (l.length - n) := by simp; omega
  have := AnyZ.head (P := P) (Q := Q) (md := .any) (ops := l.toArray) hsel hl (l.length - n) w (l.take n) 0 (Array.replicate l.length false) a (by rw [hn.1]; omega)
    (fun j hj => by
      rw [hn.1] at hj
      simp [hj]) (by rw [hn.1]; exact hB) (Head0.headZ _ _ hg (h _ (Lib.hid (fun _ h => by rw [hn.1]; exact h))))
  rw [hn.1] at this
  have h2 := AnyZ.sound _ _ _ _ w.drew this ((Below.refl _ _).drew)
  rw [← e] at h2
  simpa using h2
theorem head0_val {W : World} {R : Act → Prop} {o : Oper} {l : List Oper} {a : Act} (v : Value) (hv : ∀ w, Below W.heap.size W w → onlyMakes P w v ((execOp a.eval o).run P w)) (h : Head0 P W R l (a.put o.dst v)) : Head0 P W R (o :: l) a := ⟨v, hv, h⟩
theorem onlyMakes_val {w : World} {v : Value} {r : Result Next} (h : r = .ok (.value v) w) : onlyMakes P w v r := by subst h; exact ⟨rfl, rfl⟩
theorem onlyMakes_call {w : World} {v : Value} {r : Result Next} {f : FuncId} {args : Array Value} (h : r = .ok (.enter f args) w) (hc : Calls P f args w (fun e w'' => e = .returned v ∧ Below w.heap.size w w'')) : onlyMakes P w v r := by subst h; exact ⟨rfl, hc⟩
/-- a contract of a callee that leaves the world alone -/
theorem still_call {f : FuncId} {args : Array Value} {w : World} {v : Value} (h : Calls P f args w (fun e w' => e = .returned v ∧ w = w')) : Calls P f args w (fun e w' => e = .returned v ∧ Below w.heap.size w w') :=
  h.mono fun _ _ ⟨e, hw⟩ => ⟨e, hw ▸ Below.refl _ _⟩
theorem head0_nil {W : World} {R : Act → Prop} {a : Act} (h : R a) : Head0 P W R [] a := h
theorem AnyZ.one_alloc {kind : Nat → Nat} {fuel : Nat} {listed : Array Bool} {a : Act} {W : World} (i : Nat) {o : Oper} {obj : Obj} (hr : Region.ready md ops listed = [i]) (ho : ops[i]? = some o) (hk : kind i = 1) (hm : Makes P ops W o obj a)
    (h : ∀ w1, Below W.heap.size W w1 → AnyZ P md ops Q kind fuel (listed.setIfInBounds i true) (a.put o.dst (.pointer (some ⟨w1.heap.size, 0, none⟩))) (w1.alloc obj)) : AnyZ P md ops Q kind (fuel + 1) listed a W := by
  refine ⟨fun h => (by rw [hr] at h; cases h), fun j hj o' ho' => ?_⟩
  rw [hr] at hj
  obtain rfl : j = i := by simpa using hj
  obtain rfl : o' = o := Option.some.inj (ho'.symm.trans ho)
  exact ⟨fun h => by omega, fun _ => ⟨obj, hm, h⟩, fun h => by omega⟩
theorem AnyZ.last {kind : Nat → Nat} {fuel : Nat} {listed : Array Bool} {a : Act} {W : World} (i : Nat) (hr : Region.ready md ops listed = [i]) (hk : 1 < kind i)
    (h : ∀ w, Below W.heap.size W w → wpAny P md ops Q (fuel + 1) listed a w) : AnyZ P md ops Q kind (fuel + 1) listed a W := by
  refine ⟨fun h => (by rw [hr] at h; cases h), fun j hj o' ho' => ?_⟩
  rw [hr] at hj
  obtain rfl : j = i := by simpa using hj
  exact ⟨fun h => by omega, fun h => by omega, fun _ => h⟩
theorem wpAny_one {fuel : Nat} {listed : Array Bool} {a : Act} {w : World} (i : Nat) {o : Oper} (hr : Region.ready md ops listed = [i]) (ho : ops[i]? = some o) (hg : o.guard = none)
    (h : Oper.wp P o a w (fun a' w' => wpAny P md ops Q fuel (listed.setIfInBounds i true) a' w') Q) : wpAny P md ops Q (fuel + 1) listed a w := by
  refine ⟨fun h => (by rw [hr] at h; cases h), fun j hj => ?_⟩
  rw [hr] at hj
  obtain rfl : j = i := by simpa using hj
  unfold wpOp
  simp only [ho, Region.wanted, hg, if_true]
  exact .inl h
theorem wpAny_done {fuel : Nat} {listed : Array Bool} {a : Act} {w : World} (hr : Region.ready md ops listed = []) (h : Q .normal a w) : wpAny P md ops Q fuel listed a w := by
  cases fuel with
  | zero => exact ⟨hr, h⟩
  | succ n => exact ⟨fun _ => h, fun i hi => by rw [hr] at hi; cases hi⟩
end
end Go.Proofs.Ytcpkoapkmjcigaa
