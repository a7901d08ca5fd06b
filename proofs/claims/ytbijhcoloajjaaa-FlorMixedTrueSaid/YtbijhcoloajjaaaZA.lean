import Derived.RangeFuncNested
import Derived.RangeFuncCalls
import Derived.RangeFuncRecord
import Derived.Test.YtbijhcoloajjaaaQQ
import Derived.OrdersIn
import Derived.ControlIn
/- My own law for a loop over a function whose iterator hands over memory that it has made, and writes cells of its own between two rounds. The border between both parties is drawn by block numbers: the iterator leaves alone all that lay when it was called; a round leaves alone all but one block of the caller's (b) and the loop's own record. -/
namespace Go.Proofs.Ytbijhcoloajjaaa
open Go.RowKit

/-- W' is W but for the blocks of which B holds, and new ones -/
def KeptBut (B : Nat → Prop) (W W' : World) : Prop := W.heap.size ≤ W'.heap.size ∧ W.os = W'.os ∧ W.tape = W'.tape ∧ W.output = W'.output ∧ ∀ k, k < W.heap.size → ¬ B k → W'.heap[k]? = W.heap[k]?
theorem KeptBut.refl (B : Nat → Prop) (W : World) : KeptBut B W W := ⟨Nat.le_refl _, rfl, rfl, rfl, fun _ _ _ => rfl⟩
theorem KeptBut.trans {B : Nat → Prop} {U V W : World} (h : KeptBut B U V) (k : KeptBut B V W) : KeptBut B U W :=
  ⟨Nat.le_trans h.1 k.1, h.2.1.trans k.2.1, h.2.2.1.trans k.2.2.1, h.2.2.2.1.trans k.2.2.2.1, fun i hi hb => (k.2.2.2.2 i (Nat.lt_of_lt_of_le hi h.1) hb).trans (h.2.2.2.2 i hi hb)⟩
theorem KeptBut.weak {B B' : Nat → Prop} {U V : World} (h : KeptBut B U V) (hs : ∀ k, B k → B' k) : KeptBut B' U V := ⟨h.1, h.2.1, h.2.2.1, h.2.2.2.1, fun i hi hb => h.2.2.2.2 i hi fun hk => hb (hs i hk)⟩

/-- what a round's body has to show -/
def zPost {α : Type} (b : Nat) (I : List α → World → Prop) (xs : List α) (W : World) : Exit → Act → World → Prop
  | .normal, _, W' => KeptBut (· = b) W W' ∧ I xs W'
  | _, _, _ => False
/-- the iterator's contract -/
def SeqZ {α : Type} (F : Fence) (n : Nat) (P : Program) (g : Nat) (lb : Array Value) (enc : α → Value) (b : Nat) (Rd : α → World → Prop) (S : List α → Prop) (w : World) : Prop :=
  ∀ (l : Nat) (J : List α → World → Prop) (W : World), Below w.heap.size w W → w.heap.size ≤ l → l < W.heap.size → (∀ pre A B, J pre A → Below W.heap.size A B → J pre B) →
    (∀ pre x W1, J pre W1 → Rd x W1 → W.heap.size ≤ W1.heap.size → YieldAt F (n - 1) P l #[enc x] W1 fun e W' => e = .returned (.bool true) ∧ J (pre ++ [x]) W' ∧ KeptBut (fun k => k = b ∨ k = l) W1 W') →
    J [] W →
    CallsIn F n P g (#[.func (.yield l) #[] #[]] ++ lb) W fun e W' => (∃ v, e = .returned v) ∧ ∃ xs, S xs ∧ J xs W' ∧ W.heap.size ≤ W'.heap.size

variable {F : Fence} {n : Nat} {P : Program}
theorem heap_putObj {W : World} {l k : Nat} {o : Obj} (h : k ≠ l) : (W.putObj l o).heap[k]? = W.heap[k]? := World.putObj_heap_other h
theorem rangeZ {α : Type} {g : Operand} {ps : Array Tmp} {assign body : Code} {Q : Exit → Act → World → Prop} {a : Act} {w : World}
    (hro : F.round = none) (h1 : 1 ≤ n) {gf : Nat} {lb : Array Value} (hg : a.eval g = .func (.func gf) #[] lb) (hFg : F.fn gf) (eg : ∀ args w, (callFunc gf args).run P w = .ok (.enter gf args) w)
    {enc : α → Value} {b : Nat} {Rd : α → World → Prop} {S : List α → Prop} (hseq : SeqZ F (n - 1) P gf lb enc b Rd S w) (hb : b < w.heap.size) (hps : ps.size = 1)
    (I : List α → World → Prop) (hI : ∀ pre A B, I pre A → Below w.heap.size A B → I pre B) (h0 : I [] w) (a₁ : α → Act)
    (hRd : ∀ x (W : World) l (r : Loop) (o : Obj), Rd x W → W.heap[l]? = some (.loop r) → Rd x (W.putObj l o))
    (hassign : ∀ (l : Nat) (x : α) (W : World) (K : Act → World → Prop), K (a₁ x) W →
      assign.wpIn (F.inRound l) (n - 1 - 1) P (Exit.then K (fun _ _ _ => False)) { tmps := (ps.zip #[enc x]).foldl (fun t (p, v) => t.setIfInBounds p v) a.tmps, defers := [] } W)
    (hbody : ∀ (l : Nat) (pre : List α) (x : α) (W : World), w.heap.size ≤ l → w.heap.size ≤ W.heap.size → I pre W → Rd x W → body.wpIn (F.inRound l) (n - 1 - 1) P (zPost b I (pre ++ [x]) W) (a₁ x) W)
    (hdone : ∀ (D : Nat) (xs : List α) (W : World), w.heap.size ≤ D → S xs → I xs W → W.heap[D]? = some (.deferred (some [])) → w.heap.size ≤ W.heap.size → Q .normal { a with defers := { target := .collected D, args := #[] } :: a.defers } W) :
    (Code.rangeFunc g ps assign body).wpIn F n P Q a w := by
  refine wpIn_rangeFunc ?_
  intro fn hfn
  rw [hro]
  obtain ⟨rec, hrec⟩ : ∃ rec : LoopState → Loop, rec = fun st => { state := st, pending := none, fn, tmps := a.tmps, params := ps, assign, body, defers := w.heap.size } := ⟨_, rfl⟩
  obtain ⟨W1, hW1⟩ : ∃ W1, (w.alloc (.deferred (some []))).alloc (.loop (rec .ready)) = W1 := ⟨_, rfl⟩
  have hs1 : W1.heap.size = w.heap.size + 2 := by rw [← hW1]; simp
  have hL1 : W1.heap[w.heap.size + 1]? = some (.loop (rec .ready)) := by
    rw [← hW1]; have := World.alloc_heap_new (w.alloc (.deferred (some []))) (.loop (rec .ready)); rwa [World.size_alloc] at this
  have hK1 : W1.heap[w.heap.size]? = some (.deferred (some [])) := by
    rw [← hW1]; exact (Below.heap_alloc _ _ _ (by simp)).trans (World.alloc_heap_new w _)
  have hb1 : Below w.heap.size w W1 := by
    rw [← hW1]; exact ((Below.refl _ w).alloc (Nat.le_refl _) _).alloc (by simp) _
  have put : ∀ (W : World) (l : Nat) (o : Obj), w.heap.size ≤ l → l < W.heap.size → w.heap.size ≤ W.heap.size → Below w.heap.size W (W.putObj l o) := fun W l o h1 h2 h3 =>
    (Below.refl _ W).grown (grownBy_putObj' W l o) h3 (fun k e => by cases e; exact h1)
  refine ⟨w.heap.size + 1, [{ target := .collected w.heap.size, args := #[] }], W1, { target := .fn (.func gf) lb, args := #[.func (.yield (w.heap.size + 1)) #[] #[]] }, W1, gf,
    #[.func (.yield (w.heap.size + 1)) #[] #[]] ++ lb, W1, ?_, ?_, ?_, ?_, fun _ => h1, ?_⟩
  · rw [← hW1, hrec]; exact run_enterLoop_outer _ _ _ _ _
  · simp only [resolve, hg]
    simp [go_sem]
  · intro f' hf'; simp [Target.leads] at hf'; subst hf'; exact hFg
  · simp [invoke, go_sem, eg]
  · refine (hseq (w.heap.size + 1)
      (fun pre W => I pre W ∧ W.heap[w.heap.size + 1]? = some (.loop (rec .ready)) ∧ W.heap[w.heap.size]? = some (.deferred (some [])))
      W1 hb1 (by omega) (by omega)
      (fun pre A B ⟨h1, h2, h3⟩ hAB => ⟨hI pre A B h1 (hAB.mono (by omega)), (hAB.block _ (by omega)).trans h2, (hAB.block _ (by omega)).trans h3⟩)
      ?_ ⟨hI [] w W1 h0 hb1, hL1, hK1⟩).mono ?_
    · rintro pre x W ⟨hi, hl, hk⟩ hrd hsz
      have hlt : w.heap.size + 1 < W.heap.size := (Array.getElem?_eq_some_iff.1 hl).1
      have hy := run_yield (P := P) (args := #[enc x]) hl (by rw [hrec]; exact hps.symm)
      rw [hrec] at hy
      refine ⟨fn, _, assign, body, hy, roundIn_of_wpIn hfn (hassign _ x W _ ⟨_, run_beginRound hl (by rw [hrec]), ?_⟩)⟩
      have hl2 : (W.putObj (w.heap.size + 1) (.loop { rec .ready with state := .busy })).heap[w.heap.size + 1]? = some (.loop { rec .ready with state := .busy }) := World.putObj_heap_same hlt
      have hk2 : (W.putObj (w.heap.size + 1) (.loop { rec .ready with state := .busy })).heap[w.heap.size]? = some (.deferred (some [])) := (World.putObj_heap_other (by omega)).trans hk
      refine wpIn_mono (hbody _ pre x _ (by omega) (by simp; omega) (hI pre _ _ hi (put W _ _ (by omega) hlt (by omega))) (hRd x W _ _ _ hrd hl)) ?_
      rintro e a3 W3 hp
      cases e with
      | normal =>
        obtain ⟨hk3, hi3⟩ := hp
        have hz : W.heap.size ≤ W3.heap.size := by have := hk3.1; simpa using this
        have hl3 : W3.heap[w.heap.size + 1]? = some (.loop { rec .ready with state := .busy }) := (hk3.2.2.2.2 _ (by simp; omega) (by omega)).trans hl2
        have hk4 : W3.heap[w.heap.size]? = some (.deferred (some [])) := (hk3.2.2.2.2 _ (by simp; omega) (by omega)).trans hk2
        have hr := run_endRound (P := P) none hl3
        rw [hrec] at hr
        refine ⟨_, _, hr, rfl, ⟨hI _ _ _ hi3 (put W3 _ _ (by omega) (by omega) (by omega)), ?_, (World.putObj_heap_other (by omega)).trans hk4⟩, ?_⟩
        · rw [hrec]; exact World.putObj_heap_same (by omega)
        · refine ⟨by simpa using hz, ?_, ?_, ?_, fun k hk hn => ?_⟩
          · exact hk3.2.1
          · exact hk3.2.2.1
          · exact hk3.2.2.2.1
          · have e1 : k ≠ w.heap.size + 1 := fun e => hn (.inr e)
            have e2 : k ≠ b := fun e => hn (.inl e)
            exact (World.putObj_heap_other e1).trans ((hk3.2.2.2.2 k (by simpa using hk) e2).trans (World.putObj_heap_other e1))
      | ret => exact hp.elim
      | exit id => exact hp.elim
      | goto t => exact hp.elim
      | panic ch => exact hp.elim
      | outgrown => exact hp.elim
    · rintro e W2 ⟨⟨v, rfl⟩, xs, hS, ⟨hi, hl, hk⟩, hsz⟩
      have hlt : w.heap.size + 1 < W2.heap.size := (Array.getElem?_eq_some_iff.1 hl).1
      refine ⟨none, _, by have := run_endLoop (P := P) hl (by rw [hrec]; simp); rw [hrec] at this; exact this, ?_⟩
      exact hdone _ xs _ (Nat.le_refl _) hS (hI _ _ _ hi (put W2 _ _ (by omega) hlt (by omega))) ((World.putObj_heap_other (by omega)).trans hk) (by simp; omega)
end Go.Proofs.Ytbijhcoloajjaaa

/- My own law for regions, within a round of a loop over a function: what is so in a plain frame is so in a round, where no operation defers. -/
namespace Go.Proofs.Ytbijhcoloajjaaa
open Go.RowKit

section
variable {P : Program} {ops : Array Oper} {md : Region.Mode} {Q : Exit → Act → World → Prop}
/-- the frame's fence in a round -/
abbrev inW (l : Nat) : Fence := Fence.wide.inRound l
theorem oper_in {l n : Nat} {o : Oper} {a : Act} {w : World} {K : Act → World → Prop} (hd : ∀ c, o.op ≠ .defer c) (h : Oper.wp P o a w K Q) : o.wpIn (inW l) n P a w K Q := by
  refine ⟨fun _ _ => trivial, ?_⟩
  rw [Fence.inRound_round, Oper.semAt_eq _ _ _ hd]
  unfold Oper.wp at h
  generalize (execOp a.eval o).run P w = r at *
  cases r with
  | ok nx w' =>
    cases nx with
    | value v => exact h
    | skip => exact h
    | defer d => exact h
    | enter f args => exact ⟨fun h => by simp [Fence.wide] at h, callsIn_wide.2 h⟩
    | row r args => exact ⟨fun h => by simp [Fence.wide] at h, fun c cs _ => let ⟨v, w', x, s⟩ := h c cs; ⟨v, w', x, stepsIn_wide.2 s⟩⟩
    | round l f tmps assign body => exact h.elim
    | _ => exact h.elim
  | halt x w' =>
    cases x <;> first | exact h | exact h.elim
def noDefer (l : List Oper) : Bool := l.all fun o => match o.op with
  | .defer _ => false
  | _ => true
theorem noDefer_spec {l : List Oper} (h : noDefer l = true) {o : Oper} (ho : o ∈ l) : ∀ c, o.op ≠ .defer c := by
  intro c e
  have := List.all_eq_true.1 h o ho
  rw [e] at this
  cases this
theorem any_in {l n : Nat} {L : List Oper} (hd : noDefer L = true) (hl : ¬ LetsOut Q) : ∀ (fuel : Nat) (listed : Array Bool) (a : Act) (w : World), wpAny P md L.toArray Q fuel listed a w → wpAnyIn (inW l) n P md L.toArray Q fuel listed a w
  | 0, _, _, _, h => h
  | fuel + 1, listed, a, w, h => by
    refine ⟨h.1, fun i hi => ?_⟩
    have h2 := h.2 i hi
    unfold wpOp at h2
    unfold wpOpIn
    cases ho : L.toArray[i]? with
    | none => rw [ho] at h2; exact any_in hd hl fuel _ _ _ h2
    | some o =>
      rw [ho] at h2
      have hm : o ∈ L := by
        have := Array.mem_of_getElem? ho
        simpa using this
      simp only at h2 ⊢
      split
      · rename_i hw
        rw [if_pos hw] at h2
        rcases h2 with h2 | h2
        · exact Oper.wpIn_mono (fun a w => any_in hd hl fuel _ a w) (oper_in (noDefer_spec hd hm) h2)
        · exact absurd h2.2 hl
      · rename_i hw
        rw [if_neg hw] at h2
        exact ⟨fun _ _ => trivial, any_in hd hl fuel _ _ _ h2⟩
theorem region_in {l n id : Nat} {a : Act} {w : World} {L : List Oper} (hd : noDefer L = true) (hl : ¬ LetsOut Q) (hm : P.follows .mixedOrders = true) (h : wpAny P .any L.toArray Q L.toArray.size (Array.replicate L.toArray.size false) a w.drew) :
    (Code.region id L.toArray true).wpIn (inW l) n P Q a w :=
  wpIn_region_any hm (any_in hd hl _ _ _ _ h)
/-- regionX, within a round -/
theorem regionXIn {lr nr id : Nat} {a : Act} {w : World} {l : List Oper} (n p : Nat) (pure xs : List Nat) (hd : noDefer l = true) (hlo : ¬ LetsOut Q) (hm : P.follows .mixedOrders = true) (hsel : Region.noSelect l.toArray = true) (hl : lastX .any l.toArray n p pure xs = true)
    (hB : headB .any l.toArray n 0 (Array.replicate l.length false) = true) (hn : (l.take n).length = n ∧ n ≤ l.length) (hQ : ∀ c (a : Act) d v w, Q (.panic c) (a.put d v) w → Q (.panic c) a w)
    (h : ∀ R : Act → Prop, Hid (∀ a', AnyZ P .any l.toArray Q (kindX n p xs) (l.length - n) (setFrom n 0 (Array.replicate l.length false)) a' w → R a') → HeadP P l.toArray w R pure 0 (l.take n) a) : (Code.region id l.toArray true).wpIn (inW lr) nr P Q a w := by
  refine region_in hd hlo hm ?_
  have e : l.toArray.size = n + (l.length - n) := by simp; omega
  have := AnyZ.headX (P := P) (Q := Q) (md := .any) (ops := l.toArray) (pure := pure) (xs := xs) hsel hQ hl (l.length - n) w (l.take n) 0 (Array.replicate l.length false) a (by rw [hn.1]; omega)
    (fun j hj => by
      rw [hn.1] at hj
      simp [hj]) (by rw [hn.1]; exact hB) (Closed.none _) (h _ (Lib.hid (fun _ h => by rw [hn.1]; exact h)))
  rw [hn.1] at this
  have h2 := AnyZ.sound _ _ _ _ w.drew this ((Below.refl _ _).drew)
  rw [← e] at h2
  simpa using h2
end
end Go.Proofs.Ytbijhcoloajjaaa
