/- The contract of the reference's CheckCask, out of its runs. -/
import Derived.Test.YtpfhfphcmomfdaaRC
import Derived.Test.YtpfhfphcmomfdaaRD
set_option linter.unusedVariables false
set_option linter.unusedSimpArgs false
namespace Go.Proofs.Ytpfhfphcmomfdaa
open Go.RowKit
namespace Sy
open Go.RowKit

/-! What the check of a cask answers, by cases. -/
theorem firstL_cons0 {x : Int} {l : List Int} (h : x = 0) : firstL (x :: l) = firstL l := by
  show (if x ≠ 0 then x else firstL l) = firstL l
  rw [if_neg (by simp [h])]
theorem firstL_cons1 {x : Int} {l : List Int} (h : x ≠ 0) : firstL (x :: l) = x := by
  show (if x ≠ 0 then x else firstL l) = x
  rw [if_pos h]
theorem numE_yes {n lo hi : Int} (h0 : lo ≤ n) (h1 : n ≤ hi) : numE n lo hi = 0 := by unfold numE; rw [if_pos (inB_yes h0 h1)]
theorem numE_no {n lo hi : Int} (h : n < lo ∨ hi < n) : numE n lo hi = 2 := by unfold numE; rw [inB_no.2 h]; rfl
theorem unlE_yes {b : Bool} {e : Int} (h : b = true) : unlE b e = 0 := by rw [h]; rfl
theorem unlE_no {b : Bool} {e : Int} (h : b = false) : unlE b e = e := by rw [h]; rfl
theorem cE4 {s : ByteArray} {bung : Int} {N : Nat} (h : nameB s = false) : caskE s bung N = 4 := by
  unfold caskE
  rw [unlE_no h, firstL_cons1 (by decide)]
theorem cE2 {s : ByteArray} {bung : Int} {N : Nat} (h : nameB s = true) (hb : bung < 10 ∨ 800 < bung) : caskE s bung N = 2 := by
  unfold caskE
  rw [unlE_yes h, firstL_cons0 rfl, numE_no hb, firstL_cons1 (by decide)]
theorem cE10 {s : ByteArray} {bung : Int} {N : Nat} (h : nameB s = true) (h0 : 10 ≤ bung) (h1 : bung ≤ 800) (hN : N < 2) : caskE s bung N = 10 := by
  unfold caskE
  rw [unlE_yes h, firstL_cons0 rfl, numE_yes h0 h1, firstL_cons0 rfl, unlE_no (decide_eq_false (by omega)), firstL_cons1 (by decide)]
theorem cE8 {s : ByteArray} {bung : Int} {N : Nat} (h : nameB s = true) (h0 : 10 ≤ bung) (h1 : bung ≤ 800) (hN : 12 < N) : caskE s bung N = 8 := by
  unfold caskE
  rw [unlE_yes h, firstL_cons0 rfl, numE_yes h0 h1, firstL_cons0 rfl, unlE_yes (decide_eq_true (by omega)), firstL_cons0 rfl, unlE_no (decide_eq_false (by omega)), firstL_cons1 (by decide)]
theorem cE0 {s : ByteArray} {bung : Int} {N : Nat} (h : nameB s = true) (h0 : 10 ≤ bung) (h1 : bung ≤ 800) (h2 : 2 ≤ N) (h3 : N ≤ 12) : caskE s bung N = 0 := by
  unfold caskE
  rw [unlE_yes h, firstL_cons0 rfl, numE_yes h0 h1, firstL_cons0 rfl, unlE_yes (decide_eq_true (by omega)), firstL_cons0 rfl, unlE_yes (decide_eq_true (by omega)), firstL_cons0 rfl]
  rfl
theorem cs_early {s : ByteArray} {bung : Int} {xs : List Int} {N : Nat} {e : Int} (hl : xs.length = N * 3) (h : caskE s bung N = e) (he : e ≠ 0) : caskS s bung xs = (0, e) := by
  unfold caskS
  rw [show xs.length / 3 = N by omega, h, if_pos he]
theorem each_bad (E : Nat → Int) (i : Nat) {e : Int} (he : E i = e) (h0 : e ≠ 0) : ∀ n k, k ≤ i → i < k + n → (∀ j, k ≤ j → j < i → E j = 0) → eachF E n k = ((i : Int), e)
  | 0, k, h1, h2, _ => by omega
  | n + 1, k, h1, h2, hp => by
    unfold eachF
    by_cases hk : k = i
    · subst hk
      rw [he, if_neg h0]
    · rw [if_pos (hp k (Nat.le_refl _) (by omega))]
      exact each_bad E i he h0 n (k + 1) (by omega) (by omega) fun j a b => hp j (by omega) b
theorem each_ok (E : Nat → Int) : ∀ n k, (∀ j, k ≤ j → j < k + n → E j = 0) → eachF E n k = (0, 0)
  | 0, k, _ => rfl
  | n + 1, k, hp => by
    unfold eachF
    rw [if_pos (hp k (Nat.le_refl _) (by omega))]
    exact each_ok E n (k + 1) fun j a b => hp j (by omega) (by omega)
theorem cs_bad {s : ByteArray} {bung : Int} {xs : List Int} {N : Nat} {e : Int} (i : Nat) (hl : xs.length = N * 3) (hz : caskE s bung N = 0) (he0 : e ≠ 0) (hi : i < N) (he : snE bung (snOf xs) i = e) (hp : ∀ j, j < i → snE bung (snOf xs) j = 0) : caskS s bung xs = ((i : Int), e) := by
  unfold caskS
  rw [show xs.length / 3 = N by omega, hz, if_neg (by simp)]
  exact each_bad _ i he he0 N 0 (Nat.zero_le _) (by omega) fun j _ h => hp j h
theorem cs_ok {s : ByteArray} {bung : Int} {xs : List Int} {N : Nat} (hl : xs.length = N * 3) (hz : caskE s bung N = 0) (hp : ∀ j, j < N → snE bung (snOf xs) j = 0) : caskS s bung xs = (0, 0) := by
  unfold caskS
  rw [show xs.length / 3 = N by omega, hz, if_neg (by simp)]
  exact each_ok _ N 0 fun j _ h => hp j (by omega)
theorem st0 {bung a i o : Int} (h : 0 ≤ a ∧ a ≤ 3000 ∧ 10 ≤ i ∧ i ≤ bung ∧ 10 ≤ o ∧ o ≤ bung) (h9 : i ≤ o) : stE bung ⟨a, i, o⟩ = 0 := by
  show firstL [numE a 0 3000, numE i 10 bung, numE o 10 bung, unlE (decide (i ≤ o)) 9] = 0
  rw [numE_yes h.1 h.2.1, firstL_cons0 rfl, numE_yes h.2.2.1 h.2.2.2.1, firstL_cons0 rfl, numE_yes h.2.2.2.2.1 h.2.2.2.2.2, firstL_cons0 rfl, unlE_yes (decide_eq_true h9), firstL_cons0 rfl]
  rfl
theorem st9 {bung a i o : Int} (h : 0 ≤ a ∧ a ≤ 3000 ∧ 10 ≤ i ∧ i ≤ bung ∧ 10 ≤ o ∧ o ≤ bung) (h9 : o < i) : stE bung ⟨a, i, o⟩ = 9 := by
  show firstL [numE a 0 3000, numE i 10 bung, numE o 10 bung, unlE (decide (i ≤ o)) 9] = 9
  rw [numE_yes h.1 h.2.1, firstL_cons0 rfl, numE_yes h.2.2.1 h.2.2.2.1, firstL_cons0 rfl, numE_yes h.2.2.2.2.1 h.2.2.2.2.2, firstL_cons0 rfl, unlE_no (decide_eq_false (by omega)), firstL_cons1 (by decide)]
theorem st2 {bung a i o : Int} (h : ¬ (0 ≤ a ∧ a ≤ 3000 ∧ 10 ≤ i ∧ i ≤ bung ∧ 10 ≤ o ∧ o ≤ bung)) : stE bung ⟨a, i, o⟩ = 2 := by
  show firstL [numE a 0 3000, numE i 10 bung, numE o 10 bung, unlE (decide (i ≤ o)) 9] = 2
  by_cases h1 : 0 ≤ a ∧ a ≤ 3000
  · rw [numE_yes h1.1 h1.2, firstL_cons0 rfl]
    by_cases h2 : 10 ≤ i ∧ i ≤ bung
    · rw [numE_yes h2.1 h2.2, firstL_cons0 rfl, numE_no (by omega), firstL_cons1 (by decide)]
    · rw [numE_no (by omega), firstL_cons1 (by decide)]
  · rw [numE_no (by omega), firstL_cons1 (by decide)]
theorem sn_of {bung : Int} {x : Nat → Sn} {n : Nat} {e : Int} (h : stE bung (x n) = e) (he : e ≠ 0) : snE bung x n = e := by
  unfold snE
  rw [h, firstL_cons1 he]
theorem sn_0 {bung : Int} {x : Nat → Sn} {n : Nat} (h : stE bung (x n) = 0) (hp : n = 0 ∨ (x (n - 1)).a < (x n).a) : snE bung x n = 0 := by
  unfold snE
  rw [h, firstL_cons0 rfl, unlE_yes (by rcases hp with h | h; simp [h]; simp [h]), firstL_cons0 rfl]
  rfl
theorem sn_9 {bung : Int} {x : Nat → Sn} {n : Nat} (h : stE bung (x n) = 0) (h0 : n ≠ 0) (hp : (x n).a ≤ (x (n - 1)).a) : snE bung x n = 9 := by
  unfold snE
  rw [h, firstL_cons0 rfl, unlE_no (by simp [h0]; omega), firstL_cons1 (by decide)]

/-! A block of which a window is known. -/
def WinAt (gs os : Nat) (xs : List Int) (w : World) : Prop := ∃ c' e fr, w.heap[gs]? = some (.cells c' e fr) ∧ (c'.toList.drop os).take xs.length = xs.map fun x => Value.int .i64 x
def mp1 (gs os : Nat) : Mp := fun id => if id = 0 then some (gs, os) else none
theorem winO {P : Pg} {M : Mp} {gs os : Nat} {xs : List Int} {row : List Value} {w : World} {ob : Obj} (hl : row.length = xs.length) (hd : ∀ (i : Nat) (v : Value) (x : Int), row[i]? = some v → xs[i]? = some x → Dv P.den v x) (hw : WinAt gs os xs w) (hob : w.heap[gs]? = some ob) (hpin : P.den.pin ob) : ORel P M os (.win row) ob := by
  obtain ⟨c', e, fr, h1, h2⟩ := hw
  rw [hob] at h1
  cases h1
  refine ⟨c', e, fr, rfl, ?_, hpin⟩
  rw [hl, h2]
  refine ⟨by simp [hl], fun i v v' hv hv' => ?_⟩
  rw [List.getElem?_map] at hv'
  cases hx : xs[i]? with
  | none => rw [hx] at hv'; cases hv'
  | some x =>
    rw [hx] at hv'
    cases hv'
    exact (hd i v x hv hx).vrel
theorem run_win {P : Pg} {prog : Program} (hp : P.prog = prog) (hm : prog.follows .mixedOrders = true) {sp : CallF} (hsp : CallOk P sp) {k n f : Nat} {args : List Value} {args' : Array Value} {row : List Value} {xs : List Int} {v : Value} {gs os : Nat} {w : World} {ob : Obj}
    (hl : row.length = xs.length) (hd : ∀ (i : Nat) (v : Value) (x : Int), row[i]? = some v → xs[i]? = some x → Dv P.den v x) (hrun : fstW (evDS P sp k n (.fn f) args (.node .leaf (some (.win row)) .leaf) 1) = some (v, some (.win row)))
    (hargs : LRel P (mp1 gs os) args args'.toList) (hw : WinAt gs os xs w) (hob : w.heap[gs]? = some ob) (hpin : P.den.pin = fun o => o = ob) : Calls prog f args' w fun e w' => ∃ M' v', e = .returned v' ∧ VRel P M' v v' ∧ Below w.heap.size w w' := by
  cases hr : evDS P sp k n (.fn f) args (.node .leaf (some (.win row)) .leaf) 1 with
  | none => rw [hr] at hrun; cases hrun
  | some q =>
    obtain ⟨v1, hp1, nid⟩ := q
    rw [hr] at hrun
    have h1 : (v1, hp1.get 0) = (v, some (.win row)) := Option.some.inj hrun
    obtain ⟨hv, hg⟩ := Prod.mk.inj h1
    have hv : v1 = v := hv
    subst hv
    have get0 : ∀ id o, (T.node .leaf (some (AObj.win row)) .leaf).get id = some o → id = 0 ∧ o = .win row := by
      intro id o e
      rw [T.get_node] at e
      by_cases hi : id = 0
      · subst hi; simp at e; exact ⟨rfl, e.symm⟩
      · simp [hi, T.get_leaf] at e
    have ho := winO (P := P) (M := mp1 gs os) hl hd hw hob (by rw [hpin])
    rw [← hp]
    refine Calls.mono (reckonS (B := 0) (M := mp1 gs os) (by rw [hp]; exact hm) hsp hr hargs ⟨fun id o e => ?_, fun i j b r r' hi hj e1 e2 => ?_⟩ (Nat.zero_le _) (fun id h1 _ => if_neg (by omega))) ?_
    · obtain ⟨rfl, rfl⟩ := get0 id o e
      exact ⟨gs, os, ob, rfl, Nat.zero_le _, hob, ho⟩
    · unfold mp1 at e1 e2
      split at e1
      · split at e2
        · omega
        · cases e2
      · cases e1
    · rintro e w' ⟨M', v', rfl, hvr, hh, hev⟩
      refine ⟨M', v', rfl, hvr, hev.os, hev.tape, hev.output, hev.size, fun b hb => ?_⟩
      by_cases hn : b = gs
      · subst hn
        obtain ⟨b1, r1, ob1, k1, _, k3, k4⟩ := hh.has 0 _ hg
        have := hev.ext 0 (b, os) rfl
        rw [this] at k1
        cases k1
        obtain ⟨c', e, fr, k5, k6, k7⟩ := k4
        rw [hpin] at k7
        have k7 : ob1 = ob := k7
        rw [k3, k7, hob]
      · refine hev.frame b hb fun id r hi e => ?_
        unfold mp1 at e
        split at e
        · cases e; exact hn rfl
        · cases e

/-! The contract. -/
theorem ok_spName {P : Pg} (hp : P.prog = Try.prog) {s : ByteArray} {hole : Nat → Value} {O : Obj → Prop} (hd : P.den = denG s hole O) (hs : hole 0 = .string s) {c : Bool} (hc : nameB s = c) : CallOk P (spName 25 c) := fun t args hp0 nid v hp' nid' h => by
  cases t with
  | yield l => cases h
  | fn g =>
    obtain ⟨hck, h1⟩ := ck_some h
    clear h
    simp only [Bool.and_eq_true] at hck
    have hg := Nat.eq_of_beq_eq_true hck.1
    subst hg
    obtain ⟨u, hu, h2⟩ := ob_some h1
    clear h1
    obtain ⟨hn, h3⟩ := ck_some h2
    clear h2
    cases h3
    refine ⟨Nat.le_refl _, fun B M args' w ha hh hB hf => ?_⟩
    obtain ⟨s', rfl, hvr⟩ := args_one ha (Nat.eq_of_beq_eq_true hck.2) hu
    have := isName0_rel hd hs u hn M s' hvr
    subst this
    show Calls P.prog _ _ _ _
    rw [hp]
    refine Calls.mono (isNameR_any s w) ?_
    rintro e w' ⟨rfl, rfl⟩
    obtain ⟨q1, q2⟩ := below_post nid hh (Below.refl _ w)
    exact ⟨M, _, rfl, by rw [hc]; exact .bool c, q1, q2⟩
abbrev OkF (D : Dn) (f : Fact) : Prop := ∃ x y, Dv D f.2.1 x ∧ Dv D f.2.2.1 y ∧ cmpN f.1 x y = f.2.2.2
theorem ok_nil {D : Dn} {G : List Fact} : ∀ f ∈ G.take 0, OkF D f := fun f h => by simp at h
theorem ok_none {D : Dn} : ∀ f ∈ ([] : List Fact), OkF D f := fun f h => by simp at h
theorem ok_more {D : Dn} {G : List Fact} {k : Nat} {g : Fact} (h : ∀ f ∈ G.take k, OkF D f) (e : G[k]? = some g) (hg : OkF D g) : ∀ f ∈ G.take (k + 1), OkF D f := fun f hf => by
  rw [List.take_add_one, e] at hf
  rcases List.mem_append.1 hf with h1 | h1
  · exact h f h1
  · simp at h1; subst h1; exact hg
theorem ok_snoc {D : Dn} {G : List Fact} {k : Nat} {g : Fact} (h : ∀ f ∈ G.take k, OkF D f) (hg : OkF D g) : ∀ f ∈ G.take k ++ [g], OkF D f := fun f hf => by
  rcases List.mem_append.1 hf with h1 | h1
  · exact h f h1
  · simp at h1; subst h1; exact hg
theorem ok_all {D : Dn} {G : List Fact} {k : Nat} (h : ∀ f ∈ G.take k, OkF D f) (e : G.take k = G) : ∀ f ∈ G, OkF D f := by rw [e] at h; exact h
theorem rowV_den {s : ByteArray} {bung dip : Int} {xs : List Int} {O : Obj → Prop} {N : Nat} : ∀ (i : Nat) (v : Value) (x : Int), (rowV N)[i]? = some v → xs[i]? = some x → Dv (D0 s bung dip xs O) v x := fun i v x hv hx => by
  obtain ⟨e, hi⟩ := rowV_get hv
  subst e
  refine .hole ?_
  show Value.int .i64 (xs.getD i 0) = _
  rw [List.getD_eq_getElem?_getD, hx]
  rfl
theorem rowV_len (N : Nat) : (rowV N).length = N * 3 := by simp [rowV]
theorem le_yes {D : Dn} {a b : Value} {x y : Int} (ha : Dv D a x) (hb : Dv D b y) (h : x ≤ y) : OkF D (2, a, b, true) := ⟨x, y, ha, hb, decide_eq_true h⟩
theorem le_no {D : Dn} {a b : Value} {x y : Int} (ha : Dv D a x) (hb : Dv D b y) (h : ¬ x ≤ y) : OkF D (2, a, b, false) := ⟨x, y, ha, hb, decide_eq_false h⟩
theorem lt_yes {D : Dn} {a b : Value} {x y : Int} (ha : Dv D a x) (hb : Dv D b y) (h : x < y) : OkF D (1, a, b, true) := ⟨x, y, ha, hb, decide_eq_true h⟩
theorem lt_no {D : Dn} {a b : Value} {x y : Int} (ha : Dv D a x) (hb : Dv D b y) (h : ¬ x < y) : OkF D (1, a, b, false) := ⟨x, y, ha, hb, decide_eq_false h⟩
def CCat (s : ByteArray) (bung : Int) (xs : List Int) (gs os N cap : Nat) (w : World) : Prop :=
  Calls Try.prog 18 #[.agg #[.string s, .int .i64 bung, .slice (some ⟨gs, os, none⟩) N cap]] w fun e w' => e = .returned (.tuple #[.int .i64 (caskS s bung xs).1, .int .i64 (caskS s bung xs).2]) ∧ Below w.heap.size w w'
theorem cc_of {s : ByteArray} {bung : Int} {xs : List Int} {gs os N cap : Nat} {w : World} {ob : Obj} (hl : xs.length = N * 3) (hw : WinAt gs os xs w) (hob : w.heap[gs]? = some ob) {l : List Fact} {ok} {c : Bool} (hc : nameB s = c) {i e : Int}
    (hrun : fstW (evDS (pgV s bung 0 xs (fun o => o = ob) l ok) (spName 25 c) 2000 60 (.fn 18) [winV N] (hpW N) 1) = some (rcR i e, some (.win (rowV N)))) (hv : caskS s bung xs = (i, e)) : CCat s bung xs gs os N cap w := by
  have hN : ((N : Nat) : Int) = Int.ofNat N := rfl
  refine Calls.mono (run_win (P := pgV s bung 0 xs (fun o => o = ob) l ok) rfl (by kernel_rfl) (ok_spName rfl rfl rfl hc) (by rw [rowV_len, hl]) rowV_den hrun (args' := #[.agg #[.string s, .int .i64 bung, .slice (some ⟨gs, os, none⟩) N cap]])
    (LRel.cons (LRel.agg (LRel.cons (.hol (P := pgV s bung 0 xs (fun o => o = ob) l ok) (n := 0) rfl rfl (fun _ => rfl)) (LRel.cons (Dv.vrel (P := pgV s bung 0 xs (fun o => o = ob) l ok) dBung) (LRel.cons (.osl rfl (.lit (N : Int))) (LRel.nil _))))) (LRel.nil _)) hw hob rfl) ?_
  rintro e' w' ⟨M', v', rfl, hvr, hwb⟩
  refine ⟨?_, hwb⟩
  have : v' = rcR i e := flat_eq (show flat (rcR i e) = true from rfl) hvr
  rw [this, hv]
  rfl
theorem cc0 (s : ByteArray) (bung : Int) (xs : List Int) (gs os cap : Nat) (w : World) (hl : xs.length = 0) (hw : WinAt gs os xs w) : CCat s bung xs gs os 0 cap w := by
  obtain ⟨ob, hob⟩ : ∃ ob, w.heap[gs]? = some ob := by obtain ⟨c, e, f, h, _⟩ := hw; exact ⟨_, h⟩
  cases hn : nameB s with
  | false => exact cc_of (N := 0) hl hw hob hn (rcN0 s bung 0 xs _ ok_none) (cs_early (N := 0) hl (cE4 hn) (by decide))
  | true =>
    have p0 : ∀ f ∈ rcG0.take 0, OkF (D0 s bung 0 xs (fun o => o = ob)) f := ok_nil
    by_cases c0 : ¬ ((10 : Int) ≤ bung)
    · exact cc_of (N := 0) hl hw hob hn (rcR0_0 s bung 0 xs _ (ok_snoc p0 (le_no (.lit 10) dBung c0))) (cs_early (N := 0) hl (cE2 hn (by omega)) (by decide))
    replace c0 : (10 : Int) ≤ bung := by omega
    have p1 : ∀ f ∈ rcG0.take 1, OkF (D0 s bung 0 xs (fun o => o = ob)) f := ok_more p0 rfl (le_yes (.lit 10) dBung c0)
    by_cases c1 : ¬ (bung ≤ (800 : Int))
    · exact cc_of (N := 0) hl hw hob hn (rcR0_1 s bung 0 xs _ (ok_snoc p1 (le_no dBung (.lit 800) c1))) (cs_early (N := 0) hl (cE2 hn (by omega)) (by decide))
    replace c1 : bung ≤ (800 : Int) := by omega
    have p2 : ∀ f ∈ rcG0.take 2, OkF (D0 s bung 0 xs (fun o => o = ob)) f := ok_more p1 rfl (le_yes dBung (.lit 800) c1)
    exact cc_of (N := 0) hl hw hob hn (rcR0 s bung 0 xs _ (ok_all p2 rfl)) (cs_early (N := 0) hl (cE10 hn (by omega) (by omega) (by omega)) (by decide))
theorem cc1 (s : ByteArray) (bung : Int) (xs : List Int) (gs os cap : Nat) (w : World) (hl : xs.length = 3) (hw : WinAt gs os xs w) : CCat s bung xs gs os 1 cap w := by
  obtain ⟨ob, hob⟩ : ∃ ob, w.heap[gs]? = some ob := by obtain ⟨c, e, f, h, _⟩ := hw; exact ⟨_, h⟩
  cases hn : nameB s with
  | false => exact cc_of (N := 1) hl hw hob hn (rcN1 s bung 0 xs _ ok_none) (cs_early (N := 1) hl (cE4 hn) (by decide))
  | true =>
    have p0 : ∀ f ∈ rcG1.take 0, OkF (D0 s bung 0 xs (fun o => o = ob)) f := ok_nil
    by_cases c0 : ¬ ((10 : Int) ≤ bung)
    · exact cc_of (N := 1) hl hw hob hn (rcR1_0 s bung 0 xs _ (ok_snoc p0 (le_no (.lit 10) dBung c0))) (cs_early (N := 1) hl (cE2 hn (by omega)) (by decide))
    replace c0 : (10 : Int) ≤ bung := by omega
    have p1 : ∀ f ∈ rcG1.take 1, OkF (D0 s bung 0 xs (fun o => o = ob)) f := ok_more p0 rfl (le_yes (.lit 10) dBung c0)
    by_cases c1 : ¬ (bung ≤ (800 : Int))
    · exact cc_of (N := 1) hl hw hob hn (rcR1_1 s bung 0 xs _ (ok_snoc p1 (le_no dBung (.lit 800) c1))) (cs_early (N := 1) hl (cE2 hn (by omega)) (by decide))
    replace c1 : bung ≤ (800 : Int) := by omega
    have p2 : ∀ f ∈ rcG1.take 2, OkF (D0 s bung 0 xs (fun o => o = ob)) f := ok_more p1 rfl (le_yes dBung (.lit 800) c1)
    exact cc_of (N := 1) hl hw hob hn (rcR1 s bung 0 xs _ (ok_all p2 rfl)) (cs_early (N := 1) hl (cE10 hn (by omega) (by omega) (by omega)) (by decide))
set_option maxHeartbeats 4000000 in
theorem cc2 (s : ByteArray) (bung : Int) (a0 i0 o0 a1 i1 o1 : Int) (gs os cap : Nat) (w : World) (hw : WinAt gs os [a0, i0, o0, a1, i1, o1] w) : CCat s bung [a0, i0, o0, a1, i1, o1] gs os 2 cap w := by
  obtain ⟨ob, hob⟩ : ∃ ob, w.heap[gs]? = some ob := by obtain ⟨c, e, f, h, _⟩ := hw; exact ⟨_, h⟩
  cases hn : nameB s with
  | false => exact cc_of (N := 2) rfl hw hob hn (rcN2 s bung 0 [a0, i0, o0, a1, i1, o1] _ ok_none) (cs_early (N := 2) rfl (cE4 hn) (by decide))
  | true =>
    have p0 : ∀ f ∈ rcG2.take 0, OkF (D0 s bung 0 [a0, i0, o0, a1, i1, o1] (fun o => o = ob)) f := ok_nil
    by_cases c0 : ¬ ((10 : Int) ≤ bung)
    · exact cc_of (N := 2) rfl hw hob hn (rcR2_0 s bung 0 [a0, i0, o0, a1, i1, o1] _ (ok_snoc p0 (le_no (.lit 10) dBung c0))) (cs_early (N := 2) rfl (cE2 hn (by omega)) (by decide))
    replace c0 : (10 : Int) ≤ bung := by omega
    have p1 : ∀ f ∈ rcG2.take 1, OkF (D0 s bung 0 [a0, i0, o0, a1, i1, o1] (fun o => o = ob)) f := ok_more p0 rfl (le_yes (.lit 10) dBung c0)
    by_cases c1 : ¬ (bung ≤ (800 : Int))
    · exact cc_of (N := 2) rfl hw hob hn (rcR2_1 s bung 0 [a0, i0, o0, a1, i1, o1] _ (ok_snoc p1 (le_no dBung (.lit 800) c1))) (cs_early (N := 2) rfl (cE2 hn (by omega)) (by decide))
    replace c1 : bung ≤ (800 : Int) := by omega
    have p2 : ∀ f ∈ rcG2.take 2, OkF (D0 s bung 0 [a0, i0, o0, a1, i1, o1] (fun o => o = ob)) f := ok_more p1 rfl (le_yes dBung (.lit 800) c1)
    by_cases c2 : ¬ ((0 : Int) ≤ a0)
    · exact cc_of (N := 2) rfl hw hob hn (rcR2_2 s bung 0 [a0, i0, o0, a1, i1, o1] _ (ok_snoc p2 (le_no (.lit 0) (dSt 0 0) c2))) (cs_bad (N := 2) 0 rfl (cE0 hn (by omega) (by omega) (by omega) (by omega)) (by decide) (by omega) (sn_of (n := 0) (st2 (a := a0) (i := i0) (o := o0) (by omega)) (by decide)) (fun j h => by omega))
    replace c2 : (0 : Int) ≤ a0 := by omega
    have p3 : ∀ f ∈ rcG2.take 3, OkF (D0 s bung 0 [a0, i0, o0, a1, i1, o1] (fun o => o = ob)) f := ok_more p2 rfl (le_yes (.lit 0) (dSt 0 0) c2)
    by_cases c3 : ¬ (a0 ≤ (3000 : Int))
    · exact cc_of (N := 2) rfl hw hob hn (rcR2_3 s bung 0 [a0, i0, o0, a1, i1, o1] _ (ok_snoc p3 (le_no (dSt 0 0) (.lit 3000) c3))) (cs_bad (N := 2) 0 rfl (cE0 hn (by omega) (by omega) (by omega) (by omega)) (by decide) (by omega) (sn_of (n := 0) (st2 (a := a0) (i := i0) (o := o0) (by omega)) (by decide)) (fun j h => by omega))
    replace c3 : a0 ≤ (3000 : Int) := by omega
    have p4 : ∀ f ∈ rcG2.take 4, OkF (D0 s bung 0 [a0, i0, o0, a1, i1, o1] (fun o => o = ob)) f := ok_more p3 rfl (le_yes (dSt 0 0) (.lit 3000) c3)
    by_cases c4 : ¬ ((10 : Int) ≤ i0)
    · exact cc_of (N := 2) rfl hw hob hn (rcR2_4 s bung 0 [a0, i0, o0, a1, i1, o1] _ (ok_snoc p4 (le_no (.lit 10) (dSt 0 1) c4))) (cs_bad (N := 2) 0 rfl (cE0 hn (by omega) (by omega) (by omega) (by omega)) (by decide) (by omega) (sn_of (n := 0) (st2 (a := a0) (i := i0) (o := o0) (by omega)) (by decide)) (fun j h => by omega))
    replace c4 : (10 : Int) ≤ i0 := by omega
    have p5 : ∀ f ∈ rcG2.take 5, OkF (D0 s bung 0 [a0, i0, o0, a1, i1, o1] (fun o => o = ob)) f := ok_more p4 rfl (le_yes (.lit 10) (dSt 0 1) c4)
    by_cases c5 : ¬ (i0 ≤ bung)
    · exact cc_of (N := 2) rfl hw hob hn (rcR2_5 s bung 0 [a0, i0, o0, a1, i1, o1] _ (ok_snoc p5 (le_no (dSt 0 1) dBung c5))) (cs_bad (N := 2) 0 rfl (cE0 hn (by omega) (by omega) (by omega) (by omega)) (by decide) (by omega) (sn_of (n := 0) (st2 (a := a0) (i := i0) (o := o0) (by omega)) (by decide)) (fun j h => by omega))
    replace c5 : i0 ≤ bung := by omega
    have p6 : ∀ f ∈ rcG2.take 6, OkF (D0 s bung 0 [a0, i0, o0, a1, i1, o1] (fun o => o = ob)) f := ok_more p5 rfl (le_yes (dSt 0 1) dBung c5)
    by_cases c6 : ¬ ((10 : Int) ≤ o0)
    · exact cc_of (N := 2) rfl hw hob hn (rcR2_6 s bung 0 [a0, i0, o0, a1, i1, o1] _ (ok_snoc p6 (le_no (.lit 10) (dSt 0 2) c6))) (cs_bad (N := 2) 0 rfl (cE0 hn (by omega) (by omega) (by omega) (by omega)) (by decide) (by omega) (sn_of (n := 0) (st2 (a := a0) (i := i0) (o := o0) (by omega)) (by decide)) (fun j h => by omega))
    replace c6 : (10 : Int) ≤ o0 := by omega
    have p7 : ∀ f ∈ rcG2.take 7, OkF (D0 s bung 0 [a0, i0, o0, a1, i1, o1] (fun o => o = ob)) f := ok_more p6 rfl (le_yes (.lit 10) (dSt 0 2) c6)
    by_cases c7 : ¬ (o0 ≤ bung)
    · exact cc_of (N := 2) rfl hw hob hn (rcR2_7 s bung 0 [a0, i0, o0, a1, i1, o1] _ (ok_snoc p7 (le_no (dSt 0 2) dBung c7))) (cs_bad (N := 2) 0 rfl (cE0 hn (by omega) (by omega) (by omega) (by omega)) (by decide) (by omega) (sn_of (n := 0) (st2 (a := a0) (i := i0) (o := o0) (by omega)) (by decide)) (fun j h => by omega))
    replace c7 : o0 ≤ bung := by omega
    have p8 : ∀ f ∈ rcG2.take 8, OkF (D0 s bung 0 [a0, i0, o0, a1, i1, o1] (fun o => o = ob)) f := ok_more p7 rfl (le_yes (dSt 0 2) dBung c7)
    by_cases c8 : o0 < i0
    · exact cc_of (N := 2) rfl hw hob hn (rcR2_8 s bung 0 [a0, i0, o0, a1, i1, o1] _ (ok_snoc p8 (lt_yes (dSt 0 2) (dSt 0 1) c8))) (cs_bad (N := 2) 0 rfl (cE0 hn (by omega) (by omega) (by omega) (by omega)) (by decide) (by omega) (sn_of (n := 0) (st9 (a := a0) (i := i0) (o := o0) (by omega) (by omega)) (by decide)) (fun j h => by omega))
    have p9 : ∀ f ∈ rcG2.take 9, OkF (D0 s bung 0 [a0, i0, o0, a1, i1, o1] (fun o => o = ob)) f := ok_more p8 rfl (lt_no (dSt 0 2) (dSt 0 1) c8)
    by_cases c9 : ¬ ((0 : Int) ≤ a1)
    · exact cc_of (N := 2) rfl hw hob hn (rcR2_9 s bung 0 [a0, i0, o0, a1, i1, o1] _ (ok_snoc p9 (le_no (.lit 0) (dSt 1 0) c9))) (cs_bad (N := 2) 1 rfl (cE0 hn (by omega) (by omega) (by omega) (by omega)) (by decide) (by omega) (sn_of (n := 1) (st2 (a := a1) (i := i1) (o := o1) (by omega)) (by decide)) (fun j h => match j, h with | 0, _ => sn_0 (n := 0) (st0 (a := a0) (i := i0) (o := o0) (by omega) (by omega)) (.inl rfl)))
    replace c9 : (0 : Int) ≤ a1 := by omega
    have p10 : ∀ f ∈ rcG2.take 10, OkF (D0 s bung 0 [a0, i0, o0, a1, i1, o1] (fun o => o = ob)) f := ok_more p9 rfl (le_yes (.lit 0) (dSt 1 0) c9)
    by_cases c10 : ¬ (a1 ≤ (3000 : Int))
    · exact cc_of (N := 2) rfl hw hob hn (rcR2_10 s bung 0 [a0, i0, o0, a1, i1, o1] _ (ok_snoc p10 (le_no (dSt 1 0) (.lit 3000) c10))) (cs_bad (N := 2) 1 rfl (cE0 hn (by omega) (by omega) (by omega) (by omega)) (by decide) (by omega) (sn_of (n := 1) (st2 (a := a1) (i := i1) (o := o1) (by omega)) (by decide)) (fun j h => match j, h with | 0, _ => sn_0 (n := 0) (st0 (a := a0) (i := i0) (o := o0) (by omega) (by omega)) (.inl rfl)))
    replace c10 : a1 ≤ (3000 : Int) := by omega
    have p11 : ∀ f ∈ rcG2.take 11, OkF (D0 s bung 0 [a0, i0, o0, a1, i1, o1] (fun o => o = ob)) f := ok_more p10 rfl (le_yes (dSt 1 0) (.lit 3000) c10)
    by_cases c11 : ¬ ((10 : Int) ≤ i1)
    · exact cc_of (N := 2) rfl hw hob hn (rcR2_11 s bung 0 [a0, i0, o0, a1, i1, o1] _ (ok_snoc p11 (le_no (.lit 10) (dSt 1 1) c11))) (cs_bad (N := 2) 1 rfl (cE0 hn (by omega) (by omega) (by omega) (by omega)) (by decide) (by omega) (sn_of (n := 1) (st2 (a := a1) (i := i1) (o := o1) (by omega)) (by decide)) (fun j h => match j, h with | 0, _ => sn_0 (n := 0) (st0 (a := a0) (i := i0) (o := o0) (by omega) (by omega)) (.inl rfl)))
    replace c11 : (10 : Int) ≤ i1 := by omega
    have p12 : ∀ f ∈ rcG2.take 12, OkF (D0 s bung 0 [a0, i0, o0, a1, i1, o1] (fun o => o = ob)) f := ok_more p11 rfl (le_yes (.lit 10) (dSt 1 1) c11)
    by_cases c12 : ¬ (i1 ≤ bung)
    · exact cc_of (N := 2) rfl hw hob hn (rcR2_12 s bung 0 [a0, i0, o0, a1, i1, o1] _ (ok_snoc p12 (le_no (dSt 1 1) dBung c12))) (cs_bad (N := 2) 1 rfl (cE0 hn (by omega) (by omega) (by omega) (by omega)) (by decide) (by omega) (sn_of (n := 1) (st2 (a := a1) (i := i1) (o := o1) (by omega)) (by decide)) (fun j h => match j, h with | 0, _ => sn_0 (n := 0) (st0 (a := a0) (i := i0) (o := o0) (by omega) (by omega)) (.inl rfl)))
    replace c12 : i1 ≤ bung := by omega
    have p13 : ∀ f ∈ rcG2.take 13, OkF (D0 s bung 0 [a0, i0, o0, a1, i1, o1] (fun o => o = ob)) f := ok_more p12 rfl (le_yes (dSt 1 1) dBung c12)
    by_cases c13 : ¬ ((10 : Int) ≤ o1)
    · exact cc_of (N := 2) rfl hw hob hn (rcR2_13 s bung 0 [a0, i0, o0, a1, i1, o1] _ (ok_snoc p13 (le_no (.lit 10) (dSt 1 2) c13))) (cs_bad (N := 2) 1 rfl (cE0 hn (by omega) (by omega) (by omega) (by omega)) (by decide) (by omega) (sn_of (n := 1) (st2 (a := a1) (i := i1) (o := o1) (by omega)) (by decide)) (fun j h => match j, h with | 0, _ => sn_0 (n := 0) (st0 (a := a0) (i := i0) (o := o0) (by omega) (by omega)) (.inl rfl)))
    replace c13 : (10 : Int) ≤ o1 := by omega
    have p14 : ∀ f ∈ rcG2.take 14, OkF (D0 s bung 0 [a0, i0, o0, a1, i1, o1] (fun o => o = ob)) f := ok_more p13 rfl (le_yes (.lit 10) (dSt 1 2) c13)
    by_cases c14 : ¬ (o1 ≤ bung)
    · exact cc_of (N := 2) rfl hw hob hn (rcR2_14 s bung 0 [a0, i0, o0, a1, i1, o1] _ (ok_snoc p14 (le_no (dSt 1 2) dBung c14))) (cs_bad (N := 2) 1 rfl (cE0 hn (by omega) (by omega) (by omega) (by omega)) (by decide) (by omega) (sn_of (n := 1) (st2 (a := a1) (i := i1) (o := o1) (by omega)) (by decide)) (fun j h => match j, h with | 0, _ => sn_0 (n := 0) (st0 (a := a0) (i := i0) (o := o0) (by omega) (by omega)) (.inl rfl)))
    replace c14 : o1 ≤ bung := by omega
    have p15 : ∀ f ∈ rcG2.take 15, OkF (D0 s bung 0 [a0, i0, o0, a1, i1, o1] (fun o => o = ob)) f := ok_more p14 rfl (le_yes (dSt 1 2) dBung c14)
    by_cases c15 : o1 < i1
    · exact cc_of (N := 2) rfl hw hob hn (rcR2_15 s bung 0 [a0, i0, o0, a1, i1, o1] _ (ok_snoc p15 (lt_yes (dSt 1 2) (dSt 1 1) c15))) (cs_bad (N := 2) 1 rfl (cE0 hn (by omega) (by omega) (by omega) (by omega)) (by decide) (by omega) (sn_of (n := 1) (st9 (a := a1) (i := i1) (o := o1) (by omega) (by omega)) (by decide)) (fun j h => match j, h with | 0, _ => sn_0 (n := 0) (st0 (a := a0) (i := i0) (o := o0) (by omega) (by omega)) (.inl rfl)))
    have p16 : ∀ f ∈ rcG2.take 16, OkF (D0 s bung 0 [a0, i0, o0, a1, i1, o1] (fun o => o = ob)) f := ok_more p15 rfl (lt_no (dSt 1 2) (dSt 1 1) c15)
    by_cases c16 : a1 ≤ a0
    · exact cc_of (N := 2) rfl hw hob hn (rcR2_16 s bung 0 [a0, i0, o0, a1, i1, o1] _ (ok_snoc p16 (le_yes (dSt 1 0) (dSt 0 0) c16))) (cs_bad (N := 2) 1 rfl (cE0 hn (by omega) (by omega) (by omega) (by omega)) (by decide) (by omega) (sn_9 (n := 1) (st0 (a := a1) (i := i1) (o := o1) (by omega) (by omega)) (by decide) (show a1 ≤ a0 by omega)) (fun j h => match j, h with | 0, _ => sn_0 (n := 0) (st0 (a := a0) (i := i0) (o := o0) (by omega) (by omega)) (.inl rfl)))
    have p17 : ∀ f ∈ rcG2.take 17, OkF (D0 s bung 0 [a0, i0, o0, a1, i1, o1] (fun o => o = ob)) f := ok_more p16 rfl (le_no (dSt 1 0) (dSt 0 0) c16)
    exact cc_of (N := 2) rfl hw hob hn (rcR2 s bung 0 [a0, i0, o0, a1, i1, o1] _ (ok_all p17 rfl)) (cs_ok (N := 2) rfl (cE0 hn (by omega) (by omega) (by omega) (by omega)) (fun j h => match j, h with | 0, _ => sn_0 (n := 0) (st0 (a := a0) (i := i0) (o := o0) (by omega) (by omega)) (.inl rfl) | 1, _ => sn_0 (n := 1) (st0 (a := a1) (i := i1) (o := o1) (by omega) (by omega)) (.inr (show a0 < a1 by omega))))
set_option maxHeartbeats 4000000 in
theorem cc3 (s : ByteArray) (bung : Int) (a0 i0 o0 a1 i1 o1 a2 i2 o2 : Int) (gs os cap : Nat) (w : World) (hw : WinAt gs os [a0, i0, o0, a1, i1, o1, a2, i2, o2] w) : CCat s bung [a0, i0, o0, a1, i1, o1, a2, i2, o2] gs os 3 cap w := by
  obtain ⟨ob, hob⟩ : ∃ ob, w.heap[gs]? = some ob := by obtain ⟨c, e, f, h, _⟩ := hw; exact ⟨_, h⟩
  cases hn : nameB s with
  | false => exact cc_of (N := 3) rfl hw hob hn (rcN3 s bung 0 [a0, i0, o0, a1, i1, o1, a2, i2, o2] _ ok_none) (cs_early (N := 3) rfl (cE4 hn) (by decide))
  | true =>
    have p0 : ∀ f ∈ rcG3.take 0, OkF (D0 s bung 0 [a0, i0, o0, a1, i1, o1, a2, i2, o2] (fun o => o = ob)) f := ok_nil
    by_cases c0 : ¬ ((10 : Int) ≤ bung)
    · exact cc_of (N := 3) rfl hw hob hn (rcR3_0 s bung 0 [a0, i0, o0, a1, i1, o1, a2, i2, o2] _ (ok_snoc p0 (le_no (.lit 10) dBung c0))) (cs_early (N := 3) rfl (cE2 hn (by omega)) (by decide))
    replace c0 : (10 : Int) ≤ bung := by omega
    have p1 : ∀ f ∈ rcG3.take 1, OkF (D0 s bung 0 [a0, i0, o0, a1, i1, o1, a2, i2, o2] (fun o => o = ob)) f := ok_more p0 rfl (le_yes (.lit 10) dBung c0)
    by_cases c1 : ¬ (bung ≤ (800 : Int))
    · exact cc_of (N := 3) rfl hw hob hn (rcR3_1 s bung 0 [a0, i0, o0, a1, i1, o1, a2, i2, o2] _ (ok_snoc p1 (le_no dBung (.lit 800) c1))) (cs_early (N := 3) rfl (cE2 hn (by omega)) (by decide))
    replace c1 : bung ≤ (800 : Int) := by omega
    have p2 : ∀ f ∈ rcG3.take 2, OkF (D0 s bung 0 [a0, i0, o0, a1, i1, o1, a2, i2, o2] (fun o => o = ob)) f := ok_more p1 rfl (le_yes dBung (.lit 800) c1)
    by_cases c2 : ¬ ((0 : Int) ≤ a0)
    · exact cc_of (N := 3) rfl hw hob hn (rcR3_2 s bung 0 [a0, i0, o0, a1, i1, o1, a2, i2, o2] _ (ok_snoc p2 (le_no (.lit 0) (dSt 0 0) c2))) (cs_bad (N := 3) 0 rfl (cE0 hn (by omega) (by omega) (by omega) (by omega)) (by decide) (by omega) (sn_of (n := 0) (st2 (a := a0) (i := i0) (o := o0) (by omega)) (by decide)) (fun j h => by omega))
    replace c2 : (0 : Int) ≤ a0 := by omega
    have p3 : ∀ f ∈ rcG3.take 3, OkF (D0 s bung 0 [a0, i0, o0, a1, i1, o1, a2, i2, o2] (fun o => o = ob)) f := ok_more p2 rfl (le_yes (.lit 0) (dSt 0 0) c2)
    by_cases c3 : ¬ (a0 ≤ (3000 : Int))
    · exact cc_of (N := 3) rfl hw hob hn (rcR3_3 s bung 0 [a0, i0, o0, a1, i1, o1, a2, i2, o2] _ (ok_snoc p3 (le_no (dSt 0 0) (.lit 3000) c3))) (cs_bad (N := 3) 0 rfl (cE0 hn (by omega) (by omega) (by omega) (by omega)) (by decide) (by omega) (sn_of (n := 0) (st2 (a := a0) (i := i0) (o := o0) (by omega)) (by decide)) (fun j h => by omega))
    replace c3 : a0 ≤ (3000 : Int) := by omega
    have p4 : ∀ f ∈ rcG3.take 4, OkF (D0 s bung 0 [a0, i0, o0, a1, i1, o1, a2, i2, o2] (fun o => o = ob)) f := ok_more p3 rfl (le_yes (dSt 0 0) (.lit 3000) c3)
    by_cases c4 : ¬ ((10 : Int) ≤ i0)
    · exact cc_of (N := 3) rfl hw hob hn (rcR3_4 s bung 0 [a0, i0, o0, a1, i1, o1, a2, i2, o2] _ (ok_snoc p4 (le_no (.lit 10) (dSt 0 1) c4))) (cs_bad (N := 3) 0 rfl (cE0 hn (by omega) (by omega) (by omega) (by omega)) (by decide) (by omega) (sn_of (n := 0) (st2 (a := a0) (i := i0) (o := o0) (by omega)) (by decide)) (fun j h => by omega))
    replace c4 : (10 : Int) ≤ i0 := by omega
    have p5 : ∀ f ∈ rcG3.take 5, OkF (D0 s bung 0 [a0, i0, o0, a1, i1, o1, a2, i2, o2] (fun o => o = ob)) f := ok_more p4 rfl (le_yes (.lit 10) (dSt 0 1) c4)
    by_cases c5 : ¬ (i0 ≤ bung)
    · exact cc_of (N := 3) rfl hw hob hn (rcR3_5 s bung 0 [a0, i0, o0, a1, i1, o1, a2, i2, o2] _ (ok_snoc p5 (le_no (dSt 0 1) dBung c5))) (cs_bad (N := 3) 0 rfl (cE0 hn (by omega) (by omega) (by omega) (by omega)) (by decide) (by omega) (sn_of (n := 0) (st2 (a := a0) (i := i0) (o := o0) (by omega)) (by decide)) (fun j h => by omega))
    replace c5 : i0 ≤ bung := by omega
    have p6 : ∀ f ∈ rcG3.take 6, OkF (D0 s bung 0 [a0, i0, o0, a1, i1, o1, a2, i2, o2] (fun o => o = ob)) f := ok_more p5 rfl (le_yes (dSt 0 1) dBung c5)
    by_cases c6 : ¬ ((10 : Int) ≤ o0)
    · exact cc_of (N := 3) rfl hw hob hn (rcR3_6 s bung 0 [a0, i0, o0, a1, i1, o1, a2, i2, o2] _ (ok_snoc p6 (le_no (.lit 10) (dSt 0 2) c6))) (cs_bad (N := 3) 0 rfl (cE0 hn (by omega) (by omega) (by omega) (by omega)) (by decide) (by omega) (sn_of (n := 0) (st2 (a := a0) (i := i0) (o := o0) (by omega)) (by decide)) (fun j h => by omega))
    replace c6 : (10 : Int) ≤ o0 := by omega
    have p7 : ∀ f ∈ rcG3.take 7, OkF (D0 s bung 0 [a0, i0, o0, a1, i1, o1, a2, i2, o2] (fun o => o = ob)) f := ok_more p6 rfl (le_yes (.lit 10) (dSt 0 2) c6)
    by_cases c7 : ¬ (o0 ≤ bung)
    · exact cc_of (N := 3) rfl hw hob hn (rcR3_7 s bung 0 [a0, i0, o0, a1, i1, o1, a2, i2, o2] _ (ok_snoc p7 (le_no (dSt 0 2) dBung c7))) (cs_bad (N := 3) 0 rfl (cE0 hn (by omega) (by omega) (by omega) (by omega)) (by decide) (by omega) (sn_of (n := 0) (st2 (a := a0) (i := i0) (o := o0) (by omega)) (by decide)) (fun j h => by omega))
    replace c7 : o0 ≤ bung := by omega
    have p8 : ∀ f ∈ rcG3.take 8, OkF (D0 s bung 0 [a0, i0, o0, a1, i1, o1, a2, i2, o2] (fun o => o = ob)) f := ok_more p7 rfl (le_yes (dSt 0 2) dBung c7)
    by_cases c8 : o0 < i0
    · exact cc_of (N := 3) rfl hw hob hn (rcR3_8 s bung 0 [a0, i0, o0, a1, i1, o1, a2, i2, o2] _ (ok_snoc p8 (lt_yes (dSt 0 2) (dSt 0 1) c8))) (cs_bad (N := 3) 0 rfl (cE0 hn (by omega) (by omega) (by omega) (by omega)) (by decide) (by omega) (sn_of (n := 0) (st9 (a := a0) (i := i0) (o := o0) (by omega) (by omega)) (by decide)) (fun j h => by omega))
    have p9 : ∀ f ∈ rcG3.take 9, OkF (D0 s bung 0 [a0, i0, o0, a1, i1, o1, a2, i2, o2] (fun o => o = ob)) f := ok_more p8 rfl (lt_no (dSt 0 2) (dSt 0 1) c8)
    by_cases c9 : ¬ ((0 : Int) ≤ a1)
    · exact cc_of (N := 3) rfl hw hob hn (rcR3_9 s bung 0 [a0, i0, o0, a1, i1, o1, a2, i2, o2] _ (ok_snoc p9 (le_no (.lit 0) (dSt 1 0) c9))) (cs_bad (N := 3) 1 rfl (cE0 hn (by omega) (by omega) (by omega) (by omega)) (by decide) (by omega) (sn_of (n := 1) (st2 (a := a1) (i := i1) (o := o1) (by omega)) (by decide)) (fun j h => match j, h with | 0, _ => sn_0 (n := 0) (st0 (a := a0) (i := i0) (o := o0) (by omega) (by omega)) (.inl rfl)))
    replace c9 : (0 : Int) ≤ a1 := by omega
    have p10 : ∀ f ∈ rcG3.take 10, OkF (D0 s bung 0 [a0, i0, o0, a1, i1, o1, a2, i2, o2] (fun o => o = ob)) f := ok_more p9 rfl (le_yes (.lit 0) (dSt 1 0) c9)
    by_cases c10 : ¬ (a1 ≤ (3000 : Int))
    · exact cc_of (N := 3) rfl hw hob hn (rcR3_10 s bung 0 [a0, i0, o0, a1, i1, o1, a2, i2, o2] _ (ok_snoc p10 (le_no (dSt 1 0) (.lit 3000) c10))) (cs_bad (N := 3) 1 rfl (cE0 hn (by omega) (by omega) (by omega) (by omega)) (by decide) (by omega) (sn_of (n := 1) (st2 (a := a1) (i := i1) (o := o1) (by omega)) (by decide)) (fun j h => match j, h with | 0, _ => sn_0 (n := 0) (st0 (a := a0) (i := i0) (o := o0) (by omega) (by omega)) (.inl rfl)))
    replace c10 : a1 ≤ (3000 : Int) := by omega
    have p11 : ∀ f ∈ rcG3.take 11, OkF (D0 s bung 0 [a0, i0, o0, a1, i1, o1, a2, i2, o2] (fun o => o = ob)) f := ok_more p10 rfl (le_yes (dSt 1 0) (.lit 3000) c10)
    by_cases c11 : ¬ ((10 : Int) ≤ i1)
    · exact cc_of (N := 3) rfl hw hob hn (rcR3_11 s bung 0 [a0, i0, o0, a1, i1, o1, a2, i2, o2] _ (ok_snoc p11 (le_no (.lit 10) (dSt 1 1) c11))) (cs_bad (N := 3) 1 rfl (cE0 hn (by omega) (by omega) (by omega) (by omega)) (by decide) (by omega) (sn_of (n := 1) (st2 (a := a1) (i := i1) (o := o1) (by omega)) (by decide)) (fun j h => match j, h with | 0, _ => sn_0 (n := 0) (st0 (a := a0) (i := i0) (o := o0) (by omega) (by omega)) (.inl rfl)))
    replace c11 : (10 : Int) ≤ i1 := by omega
    have p12 : ∀ f ∈ rcG3.take 12, OkF (D0 s bung 0 [a0, i0, o0, a1, i1, o1, a2, i2, o2] (fun o => o = ob)) f := ok_more p11 rfl (le_yes (.lit 10) (dSt 1 1) c11)
    by_cases c12 : ¬ (i1 ≤ bung)
    · exact cc_of (N := 3) rfl hw hob hn (rcR3_12 s bung 0 [a0, i0, o0, a1, i1, o1, a2, i2, o2] _ (ok_snoc p12 (le_no (dSt 1 1) dBung c12))) (cs_bad (N := 3) 1 rfl (cE0 hn (by omega) (by omega) (by omega) (by omega)) (by decide) (by omega) (sn_of (n := 1) (st2 (a := a1) (i := i1) (o := o1) (by omega)) (by decide)) (fun j h => match j, h with | 0, _ => sn_0 (n := 0) (st0 (a := a0) (i := i0) (o := o0) (by omega) (by omega)) (.inl rfl)))
    replace c12 : i1 ≤ bung := by omega
    have p13 : ∀ f ∈ rcG3.take 13, OkF (D0 s bung 0 [a0, i0, o0, a1, i1, o1, a2, i2, o2] (fun o => o = ob)) f := ok_more p12 rfl (le_yes (dSt 1 1) dBung c12)
    by_cases c13 : ¬ ((10 : Int) ≤ o1)
    · exact cc_of (N := 3) rfl hw hob hn (rcR3_13 s bung 0 [a0, i0, o0, a1, i1, o1, a2, i2, o2] _ (ok_snoc p13 (le_no (.lit 10) (dSt 1 2) c13))) (cs_bad (N := 3) 1 rfl (cE0 hn (by omega) (by omega) (by omega) (by omega)) (by decide) (by omega) (sn_of (n := 1) (st2 (a := a1) (i := i1) (o := o1) (by omega)) (by decide)) (fun j h => match j, h with | 0, _ => sn_0 (n := 0) (st0 (a := a0) (i := i0) (o := o0) (by omega) (by omega)) (.inl rfl)))
    replace c13 : (10 : Int) ≤ o1 := by omega
    have p14 : ∀ f ∈ rcG3.take 14, OkF (D0 s bung 0 [a0, i0, o0, a1, i1, o1, a2, i2, o2] (fun o => o = ob)) f := ok_more p13 rfl (le_yes (.lit 10) (dSt 1 2) c13)
    by_cases c14 : ¬ (o1 ≤ bung)
    · exact cc_of (N := 3) rfl hw hob hn (rcR3_14 s bung 0 [a0, i0, o0, a1, i1, o1, a2, i2, o2] _ (ok_snoc p14 (le_no (dSt 1 2) dBung c14))) (cs_bad (N := 3) 1 rfl (cE0 hn (by omega) (by omega) (by omega) (by omega)) (by decide) (by omega) (sn_of (n := 1) (st2 (a := a1) (i := i1) (o := o1) (by omega)) (by decide)) (fun j h => match j, h with | 0, _ => sn_0 (n := 0) (st0 (a := a0) (i := i0) (o := o0) (by omega) (by omega)) (.inl rfl)))
    replace c14 : o1 ≤ bung := by omega
    have p15 : ∀ f ∈ rcG3.take 15, OkF (D0 s bung 0 [a0, i0, o0, a1, i1, o1, a2, i2, o2] (fun o => o = ob)) f := ok_more p14 rfl (le_yes (dSt 1 2) dBung c14)
    by_cases c15 : o1 < i1
    · exact cc_of (N := 3) rfl hw hob hn (rcR3_15 s bung 0 [a0, i0, o0, a1, i1, o1, a2, i2, o2] _ (ok_snoc p15 (lt_yes (dSt 1 2) (dSt 1 1) c15))) (cs_bad (N := 3) 1 rfl (cE0 hn (by omega) (by omega) (by omega) (by omega)) (by decide) (by omega) (sn_of (n := 1) (st9 (a := a1) (i := i1) (o := o1) (by omega) (by omega)) (by decide)) (fun j h => match j, h with | 0, _ => sn_0 (n := 0) (st0 (a := a0) (i := i0) (o := o0) (by omega) (by omega)) (.inl rfl)))
    have p16 : ∀ f ∈ rcG3.take 16, OkF (D0 s bung 0 [a0, i0, o0, a1, i1, o1, a2, i2, o2] (fun o => o = ob)) f := ok_more p15 rfl (lt_no (dSt 1 2) (dSt 1 1) c15)
    by_cases c16 : a1 ≤ a0
    · exact cc_of (N := 3) rfl hw hob hn (rcR3_16 s bung 0 [a0, i0, o0, a1, i1, o1, a2, i2, o2] _ (ok_snoc p16 (le_yes (dSt 1 0) (dSt 0 0) c16))) (cs_bad (N := 3) 1 rfl (cE0 hn (by omega) (by omega) (by omega) (by omega)) (by decide) (by omega) (sn_9 (n := 1) (st0 (a := a1) (i := i1) (o := o1) (by omega) (by omega)) (by decide) (show a1 ≤ a0 by omega)) (fun j h => match j, h with | 0, _ => sn_0 (n := 0) (st0 (a := a0) (i := i0) (o := o0) (by omega) (by omega)) (.inl rfl)))
    have p17 : ∀ f ∈ rcG3.take 17, OkF (D0 s bung 0 [a0, i0, o0, a1, i1, o1, a2, i2, o2] (fun o => o = ob)) f := ok_more p16 rfl (le_no (dSt 1 0) (dSt 0 0) c16)
    by_cases c17 : ¬ ((0 : Int) ≤ a2)
    · exact cc_of (N := 3) rfl hw hob hn (rcR3_17 s bung 0 [a0, i0, o0, a1, i1, o1, a2, i2, o2] _ (ok_snoc p17 (le_no (.lit 0) (dSt 2 0) c17))) (cs_bad (N := 3) 2 rfl (cE0 hn (by omega) (by omega) (by omega) (by omega)) (by decide) (by omega) (sn_of (n := 2) (st2 (a := a2) (i := i2) (o := o2) (by omega)) (by decide)) (fun j h => match j, h with | 0, _ => sn_0 (n := 0) (st0 (a := a0) (i := i0) (o := o0) (by omega) (by omega)) (.inl rfl) | 1, _ => sn_0 (n := 1) (st0 (a := a1) (i := i1) (o := o1) (by omega) (by omega)) (.inr (show a0 < a1 by omega))))
    replace c17 : (0 : Int) ≤ a2 := by omega
    have p18 : ∀ f ∈ rcG3.take 18, OkF (D0 s bung 0 [a0, i0, o0, a1, i1, o1, a2, i2, o2] (fun o => o = ob)) f := ok_more p17 rfl (le_yes (.lit 0) (dSt 2 0) c17)
    by_cases c18 : ¬ (a2 ≤ (3000 : Int))
    · exact cc_of (N := 3) rfl hw hob hn (rcR3_18 s bung 0 [a0, i0, o0, a1, i1, o1, a2, i2, o2] _ (ok_snoc p18 (le_no (dSt 2 0) (.lit 3000) c18))) (cs_bad (N := 3) 2 rfl (cE0 hn (by omega) (by omega) (by omega) (by omega)) (by decide) (by omega) (sn_of (n := 2) (st2 (a := a2) (i := i2) (o := o2) (by omega)) (by decide)) (fun j h => match j, h with | 0, _ => sn_0 (n := 0) (st0 (a := a0) (i := i0) (o := o0) (by omega) (by omega)) (.inl rfl) | 1, _ => sn_0 (n := 1) (st0 (a := a1) (i := i1) (o := o1) (by omega) (by omega)) (.inr (show a0 < a1 by omega))))
    replace c18 : a2 ≤ (3000 : Int) := by omega
    have p19 : ∀ f ∈ rcG3.take 19, OkF (D0 s bung 0 [a0, i0, o0, a1, i1, o1, a2, i2, o2] (fun o => o = ob)) f := ok_more p18 rfl (le_yes (dSt 2 0) (.lit 3000) c18)
    by_cases c19 : ¬ ((10 : Int) ≤ i2)
    · exact cc_of (N := 3) rfl hw hob hn (rcR3_19 s bung 0 [a0, i0, o0, a1, i1, o1, a2, i2, o2] _ (ok_snoc p19 (le_no (.lit 10) (dSt 2 1) c19))) (cs_bad (N := 3) 2 rfl (cE0 hn (by omega) (by omega) (by omega) (by omega)) (by decide) (by omega) (sn_of (n := 2) (st2 (a := a2) (i := i2) (o := o2) (by omega)) (by decide)) (fun j h => match j, h with | 0, _ => sn_0 (n := 0) (st0 (a := a0) (i := i0) (o := o0) (by omega) (by omega)) (.inl rfl) | 1, _ => sn_0 (n := 1) (st0 (a := a1) (i := i1) (o := o1) (by omega) (by omega)) (.inr (show a0 < a1 by omega))))
    replace c19 : (10 : Int) ≤ i2 := by omega
    have p20 : ∀ f ∈ rcG3.take 20, OkF (D0 s bung 0 [a0, i0, o0, a1, i1, o1, a2, i2, o2] (fun o => o = ob)) f := ok_more p19 rfl (le_yes (.lit 10) (dSt 2 1) c19)
    by_cases c20 : ¬ (i2 ≤ bung)
    · exact cc_of (N := 3) rfl hw hob hn (rcR3_20 s bung 0 [a0, i0, o0, a1, i1, o1, a2, i2, o2] _ (ok_snoc p20 (le_no (dSt 2 1) dBung c20))) (cs_bad (N := 3) 2 rfl (cE0 hn (by omega) (by omega) (by omega) (by omega)) (by decide) (by omega) (sn_of (n := 2) (st2 (a := a2) (i := i2) (o := o2) (by omega)) (by decide)) (fun j h => match j, h with | 0, _ => sn_0 (n := 0) (st0 (a := a0) (i := i0) (o := o0) (by omega) (by omega)) (.inl rfl) | 1, _ => sn_0 (n := 1) (st0 (a := a1) (i := i1) (o := o1) (by omega) (by omega)) (.inr (show a0 < a1 by omega))))
    replace c20 : i2 ≤ bung := by omega
    have p21 : ∀ f ∈ rcG3.take 21, OkF (D0 s bung 0 [a0, i0, o0, a1, i1, o1, a2, i2, o2] (fun o => o = ob)) f := ok_more p20 rfl (le_yes (dSt 2 1) dBung c20)
    by_cases c21 : ¬ ((10 : Int) ≤ o2)
    · exact cc_of (N := 3) rfl hw hob hn (rcR3_21 s bung 0 [a0, i0, o0, a1, i1, o1, a2, i2, o2] _ (ok_snoc p21 (le_no (.lit 10) (dSt 2 2) c21))) (cs_bad (N := 3) 2 rfl (cE0 hn (by omega) (by omega) (by omega) (by omega)) (by decide) (by omega) (sn_of (n := 2) (st2 (a := a2) (i := i2) (o := o2) (by omega)) (by decide)) (fun j h => match j, h with | 0, _ => sn_0 (n := 0) (st0 (a := a0) (i := i0) (o := o0) (by omega) (by omega)) (.inl rfl) | 1, _ => sn_0 (n := 1) (st0 (a := a1) (i := i1) (o := o1) (by omega) (by omega)) (.inr (show a0 < a1 by omega))))
    replace c21 : (10 : Int) ≤ o2 := by omega
    have p22 : ∀ f ∈ rcG3.take 22, OkF (D0 s bung 0 [a0, i0, o0, a1, i1, o1, a2, i2, o2] (fun o => o = ob)) f := ok_more p21 rfl (le_yes (.lit 10) (dSt 2 2) c21)
    by_cases c22 : ¬ (o2 ≤ bung)
    · exact cc_of (N := 3) rfl hw hob hn (rcR3_22 s bung 0 [a0, i0, o0, a1, i1, o1, a2, i2, o2] _ (ok_snoc p22 (le_no (dSt 2 2) dBung c22))) (cs_bad (N := 3) 2 rfl (cE0 hn (by omega) (by omega) (by omega) (by omega)) (by decide) (by omega) (sn_of (n := 2) (st2 (a := a2) (i := i2) (o := o2) (by omega)) (by decide)) (fun j h => match j, h with | 0, _ => sn_0 (n := 0) (st0 (a := a0) (i := i0) (o := o0) (by omega) (by omega)) (.inl rfl) | 1, _ => sn_0 (n := 1) (st0 (a := a1) (i := i1) (o := o1) (by omega) (by omega)) (.inr (show a0 < a1 by omega))))
    replace c22 : o2 ≤ bung := by omega
    have p23 : ∀ f ∈ rcG3.take 23, OkF (D0 s bung 0 [a0, i0, o0, a1, i1, o1, a2, i2, o2] (fun o => o = ob)) f := ok_more p22 rfl (le_yes (dSt 2 2) dBung c22)
    by_cases c23 : o2 < i2
    · exact cc_of (N := 3) rfl hw hob hn (rcR3_23 s bung 0 [a0, i0, o0, a1, i1, o1, a2, i2, o2] _ (ok_snoc p23 (lt_yes (dSt 2 2) (dSt 2 1) c23))) (cs_bad (N := 3) 2 rfl (cE0 hn (by omega) (by omega) (by omega) (by omega)) (by decide) (by omega) (sn_of (n := 2) (st9 (a := a2) (i := i2) (o := o2) (by omega) (by omega)) (by decide)) (fun j h => match j, h with | 0, _ => sn_0 (n := 0) (st0 (a := a0) (i := i0) (o := o0) (by omega) (by omega)) (.inl rfl) | 1, _ => sn_0 (n := 1) (st0 (a := a1) (i := i1) (o := o1) (by omega) (by omega)) (.inr (show a0 < a1 by omega))))
    have p24 : ∀ f ∈ rcG3.take 24, OkF (D0 s bung 0 [a0, i0, o0, a1, i1, o1, a2, i2, o2] (fun o => o = ob)) f := ok_more p23 rfl (lt_no (dSt 2 2) (dSt 2 1) c23)
    by_cases c24 : a2 ≤ a1
    · exact cc_of (N := 3) rfl hw hob hn (rcR3_24 s bung 0 [a0, i0, o0, a1, i1, o1, a2, i2, o2] _ (ok_snoc p24 (le_yes (dSt 2 0) (dSt 1 0) c24))) (cs_bad (N := 3) 2 rfl (cE0 hn (by omega) (by omega) (by omega) (by omega)) (by decide) (by omega) (sn_9 (n := 2) (st0 (a := a2) (i := i2) (o := o2) (by omega) (by omega)) (by decide) (show a2 ≤ a1 by omega)) (fun j h => match j, h with | 0, _ => sn_0 (n := 0) (st0 (a := a0) (i := i0) (o := o0) (by omega) (by omega)) (.inl rfl) | 1, _ => sn_0 (n := 1) (st0 (a := a1) (i := i1) (o := o1) (by omega) (by omega)) (.inr (show a0 < a1 by omega))))
    have p25 : ∀ f ∈ rcG3.take 25, OkF (D0 s bung 0 [a0, i0, o0, a1, i1, o1, a2, i2, o2] (fun o => o = ob)) f := ok_more p24 rfl (le_no (dSt 2 0) (dSt 1 0) c24)
    exact cc_of (N := 3) rfl hw hob hn (rcR3 s bung 0 [a0, i0, o0, a1, i1, o1, a2, i2, o2] _ (ok_all p25 rfl)) (cs_ok (N := 3) rfl (cE0 hn (by omega) (by omega) (by omega) (by omega)) (fun j h => match j, h with | 0, _ => sn_0 (n := 0) (st0 (a := a0) (i := i0) (o := o0) (by omega) (by omega)) (.inl rfl) | 1, _ => sn_0 (n := 1) (st0 (a := a1) (i := i1) (o := o1) (by omega) (by omega)) (.inr (show a0 < a1 by omega)) | 2, _ => sn_0 (n := 2) (st0 (a := a2) (i := i2) (o := o2) (by omega) (by omega)) (.inr (show a1 < a2 by omega))))
set_option maxHeartbeats 4000000 in
theorem cc4 (s : ByteArray) (bung : Int) (a0 i0 o0 a1 i1 o1 a2 i2 o2 a3 i3 o3 : Int) (gs os cap : Nat) (w : World) (hw : WinAt gs os [a0, i0, o0, a1, i1, o1, a2, i2, o2, a3, i3, o3] w) : CCat s bung [a0, i0, o0, a1, i1, o1, a2, i2, o2, a3, i3, o3] gs os 4 cap w := by
  obtain ⟨ob, hob⟩ : ∃ ob, w.heap[gs]? = some ob := by obtain ⟨c, e, f, h, _⟩ := hw; exact ⟨_, h⟩
  cases hn : nameB s with
  | false => exact cc_of (N := 4) rfl hw hob hn (rcN4 s bung 0 [a0, i0, o0, a1, i1, o1, a2, i2, o2, a3, i3, o3] _ ok_none) (cs_early (N := 4) rfl (cE4 hn) (by decide))
  | true =>
    have p0 : ∀ f ∈ rcG4.take 0, OkF (D0 s bung 0 [a0, i0, o0, a1, i1, o1, a2, i2, o2, a3, i3, o3] (fun o => o = ob)) f := ok_nil
    by_cases c0 : ¬ ((10 : Int) ≤ bung)
    · exact cc_of (N := 4) rfl hw hob hn (rcR4_0 s bung 0 [a0, i0, o0, a1, i1, o1, a2, i2, o2, a3, i3, o3] _ (ok_snoc p0 (le_no (.lit 10) dBung c0))) (cs_early (N := 4) rfl (cE2 hn (by omega)) (by decide))
    replace c0 : (10 : Int) ≤ bung := by omega
    have p1 : ∀ f ∈ rcG4.take 1, OkF (D0 s bung 0 [a0, i0, o0, a1, i1, o1, a2, i2, o2, a3, i3, o3] (fun o => o = ob)) f := ok_more p0 rfl (le_yes (.lit 10) dBung c0)
    by_cases c1 : ¬ (bung ≤ (800 : Int))
    · exact cc_of (N := 4) rfl hw hob hn (rcR4_1 s bung 0 [a0, i0, o0, a1, i1, o1, a2, i2, o2, a3, i3, o3] _ (ok_snoc p1 (le_no dBung (.lit 800) c1))) (cs_early (N := 4) rfl (cE2 hn (by omega)) (by decide))
    replace c1 : bung ≤ (800 : Int) := by omega
    have p2 : ∀ f ∈ rcG4.take 2, OkF (D0 s bung 0 [a0, i0, o0, a1, i1, o1, a2, i2, o2, a3, i3, o3] (fun o => o = ob)) f := ok_more p1 rfl (le_yes dBung (.lit 800) c1)
    by_cases c2 : ¬ ((0 : Int) ≤ a0)
    · exact cc_of (N := 4) rfl hw hob hn (rcR4_2 s bung 0 [a0, i0, o0, a1, i1, o1, a2, i2, o2, a3, i3, o3] _ (ok_snoc p2 (le_no (.lit 0) (dSt 0 0) c2))) (cs_bad (N := 4) 0 rfl (cE0 hn (by omega) (by omega) (by omega) (by omega)) (by decide) (by omega) (sn_of (n := 0) (st2 (a := a0) (i := i0) (o := o0) (by omega)) (by decide)) (fun j h => by omega))
    replace c2 : (0 : Int) ≤ a0 := by omega
    have p3 : ∀ f ∈ rcG4.take 3, OkF (D0 s bung 0 [a0, i0, o0, a1, i1, o1, a2, i2, o2, a3, i3, o3] (fun o => o = ob)) f := ok_more p2 rfl (le_yes (.lit 0) (dSt 0 0) c2)
    by_cases c3 : ¬ (a0 ≤ (3000 : Int))
    · exact cc_of (N := 4) rfl hw hob hn (rcR4_3 s bung 0 [a0, i0, o0, a1, i1, o1, a2, i2, o2, a3, i3, o3] _ (ok_snoc p3 (le_no (dSt 0 0) (.lit 3000) c3))) (cs_bad (N := 4) 0 rfl (cE0 hn (by omega) (by omega) (by omega) (by omega)) (by decide) (by omega) (sn_of (n := 0) (st2 (a := a0) (i := i0) (o := o0) (by omega)) (by decide)) (fun j h => by omega))
    replace c3 : a0 ≤ (3000 : Int) := by omega
    have p4 : ∀ f ∈ rcG4.take 4, OkF (D0 s bung 0 [a0, i0, o0, a1, i1, o1, a2, i2, o2, a3, i3, o3] (fun o => o = ob)) f := ok_more p3 rfl (le_yes (dSt 0 0) (.lit 3000) c3)
    by_cases c4 : ¬ ((10 : Int) ≤ i0)
    · exact cc_of (N := 4) rfl hw hob hn (rcR4_4 s bung 0 [a0, i0, o0, a1, i1, o1, a2, i2, o2, a3, i3, o3] _ (ok_snoc p4 (le_no (.lit 10) (dSt 0 1) c4))) (cs_bad (N := 4) 0 rfl (cE0 hn (by omega) (by omega) (by omega) (by omega)) (by decide) (by omega) (sn_of (n := 0) (st2 (a := a0) (i := i0) (o := o0) (by omega)) (by decide)) (fun j h => by omega))
    replace c4 : (10 : Int) ≤ i0 := by omega
    have p5 : ∀ f ∈ rcG4.take 5, OkF (D0 s bung 0 [a0, i0, o0, a1, i1, o1, a2, i2, o2, a3, i3, o3] (fun o => o = ob)) f := ok_more p4 rfl (le_yes (.lit 10) (dSt 0 1) c4)
    by_cases c5 : ¬ (i0 ≤ bung)
    · exact cc_of (N := 4) rfl hw hob hn (rcR4_5 s bung 0 [a0, i0, o0, a1, i1, o1, a2, i2, o2, a3, i3, o3] _ (ok_snoc p5 (le_no (dSt 0 1) dBung c5))) (cs_bad (N := 4) 0 rfl (cE0 hn (by omega) (by omega) (by omega) (by omega)) (by decide) (by omega) (sn_of (n := 0) (st2 (a := a0) (i := i0) (o := o0) (by omega)) (by decide)) (fun j h => by omega))
    replace c5 : i0 ≤ bung := by omega
    have p6 : ∀ f ∈ rcG4.take 6, OkF (D0 s bung 0 [a0, i0, o0, a1, i1, o1, a2, i2, o2, a3, i3, o3] (fun o => o = ob)) f := ok_more p5 rfl (le_yes (dSt 0 1) dBung c5)
    by_cases c6 : ¬ ((10 : Int) ≤ o0)
    · exact cc_of (N := 4) rfl hw hob hn (rcR4_6 s bung 0 [a0, i0, o0, a1, i1, o1, a2, i2, o2, a3, i3, o3] _ (ok_snoc p6 (le_no (.lit 10) (dSt 0 2) c6))) (cs_bad (N := 4) 0 rfl (cE0 hn (by omega) (by omega) (by omega) (by omega)) (by decide) (by omega) (sn_of (n := 0) (st2 (a := a0) (i := i0) (o := o0) (by omega)) (by decide)) (fun j h => by omega))
    replace c6 : (10 : Int) ≤ o0 := by omega
    have p7 : ∀ f ∈ rcG4.take 7, OkF (D0 s bung 0 [a0, i0, o0, a1, i1, o1, a2, i2, o2, a3, i3, o3] (fun o => o = ob)) f := ok_more p6 rfl (le_yes (.lit 10) (dSt 0 2) c6)
    by_cases c7 : ¬ (o0 ≤ bung)
    · exact cc_of (N := 4) rfl hw hob hn (rcR4_7 s bung 0 [a0, i0, o0, a1, i1, o1, a2, i2, o2, a3, i3, o3] _ (ok_snoc p7 (le_no (dSt 0 2) dBung c7))) (cs_bad (N := 4) 0 rfl (cE0 hn (by omega) (by omega) (by omega) (by omega)) (by decide) (by omega) (sn_of (n := 0) (st2 (a := a0) (i := i0) (o := o0) (by omega)) (by decide)) (fun j h => by omega))
    replace c7 : o0 ≤ bung := by omega
    have p8 : ∀ f ∈ rcG4.take 8, OkF (D0 s bung 0 [a0, i0, o0, a1, i1, o1, a2, i2, o2, a3, i3, o3] (fun o => o = ob)) f := ok_more p7 rfl (le_yes (dSt 0 2) dBung c7)
    by_cases c8 : o0 < i0
    · exact cc_of (N := 4) rfl hw hob hn (rcR4_8 s bung 0 [a0, i0, o0, a1, i1, o1, a2, i2, o2, a3, i3, o3] _ (ok_snoc p8 (lt_yes (dSt 0 2) (dSt 0 1) c8))) (cs_bad (N := 4) 0 rfl (cE0 hn (by omega) (by omega) (by omega) (by omega)) (by decide) (by omega) (sn_of (n := 0) (st9 (a := a0) (i := i0) (o := o0) (by omega) (by omega)) (by decide)) (fun j h => by omega))
    have p9 : ∀ f ∈ rcG4.take 9, OkF (D0 s bung 0 [a0, i0, o0, a1, i1, o1, a2, i2, o2, a3, i3, o3] (fun o => o = ob)) f := ok_more p8 rfl (lt_no (dSt 0 2) (dSt 0 1) c8)
    by_cases c9 : ¬ ((0 : Int) ≤ a1)
    · exact cc_of (N := 4) rfl hw hob hn (rcR4_9 s bung 0 [a0, i0, o0, a1, i1, o1, a2, i2, o2, a3, i3, o3] _ (ok_snoc p9 (le_no (.lit 0) (dSt 1 0) c9))) (cs_bad (N := 4) 1 rfl (cE0 hn (by omega) (by omega) (by omega) (by omega)) (by decide) (by omega) (sn_of (n := 1) (st2 (a := a1) (i := i1) (o := o1) (by omega)) (by decide)) (fun j h => match j, h with | 0, _ => sn_0 (n := 0) (st0 (a := a0) (i := i0) (o := o0) (by omega) (by omega)) (.inl rfl)))
    replace c9 : (0 : Int) ≤ a1 := by omega
    have p10 : ∀ f ∈ rcG4.take 10, OkF (D0 s bung 0 [a0, i0, o0, a1, i1, o1, a2, i2, o2, a3, i3, o3] (fun o => o = ob)) f := ok_more p9 rfl (le_yes (.lit 0) (dSt 1 0) c9)
    by_cases c10 : ¬ (a1 ≤ (3000 : Int))
    · exact cc_of (N := 4) rfl hw hob hn (rcR4_10 s bung 0 [a0, i0, o0, a1, i1, o1, a2, i2, o2, a3, i3, o3] _ (ok_snoc p10 (le_no (dSt 1 0) (.lit 3000) c10))) (cs_bad (N := 4) 1 rfl (cE0 hn (by omega) (by omega) (by omega) (by omega)) (by decide) (by omega) (sn_of (n := 1) (st2 (a := a1) (i := i1) (o := o1) (by omega)) (by decide)) (fun j h => match j, h with | 0, _ => sn_0 (n := 0) (st0 (a := a0) (i := i0) (o := o0) (by omega) (by omega)) (.inl rfl)))
    replace c10 : a1 ≤ (3000 : Int) := by omega
    have p11 : ∀ f ∈ rcG4.take 11, OkF (D0 s bung 0 [a0, i0, o0, a1, i1, o1, a2, i2, o2, a3, i3, o3] (fun o => o = ob)) f := ok_more p10 rfl (le_yes (dSt 1 0) (.lit 3000) c10)
    by_cases c11 : ¬ ((10 : Int) ≤ i1)
    · exact cc_of (N := 4) rfl hw hob hn (rcR4_11 s bung 0 [a0, i0, o0, a1, i1, o1, a2, i2, o2, a3, i3, o3] _ (ok_snoc p11 (le_no (.lit 10) (dSt 1 1) c11))) (cs_bad (N := 4) 1 rfl (cE0 hn (by omega) (by omega) (by omega) (by omega)) (by decide) (by omega) (sn_of (n := 1) (st2 (a := a1) (i := i1) (o := o1) (by omega)) (by decide)) (fun j h => match j, h with | 0, _ => sn_0 (n := 0) (st0 (a := a0) (i := i0) (o := o0) (by omega) (by omega)) (.inl rfl)))
    replace c11 : (10 : Int) ≤ i1 := by omega
    have p12 : ∀ f ∈ rcG4.take 12, OkF (D0 s bung 0 [a0, i0, o0, a1, i1, o1, a2, i2, o2, a3, i3, o3] (fun o => o = ob)) f := ok_more p11 rfl (le_yes (.lit 10) (dSt 1 1) c11)
    by_cases c12 : ¬ (i1 ≤ bung)
    · exact cc_of (N := 4) rfl hw hob hn (rcR4_12 s bung 0 [a0, i0, o0, a1, i1, o1, a2, i2, o2, a3, i3, o3] _ (ok_snoc p12 (le_no (dSt 1 1) dBung c12))) (cs_bad (N := 4) 1 rfl (cE0 hn (by omega) (by omega) (by omega) (by omega)) (by decide) (by omega) (sn_of (n := 1) (st2 (a := a1) (i := i1) (o := o1) (by omega)) (by decide)) (fun j h => match j, h with | 0, _ => sn_0 (n := 0) (st0 (a := a0) (i := i0) (o := o0) (by omega) (by omega)) (.inl rfl)))
    replace c12 : i1 ≤ bung := by omega
    have p13 : ∀ f ∈ rcG4.take 13, OkF (D0 s bung 0 [a0, i0, o0, a1, i1, o1, a2, i2, o2, a3, i3, o3] (fun o => o = ob)) f := ok_more p12 rfl (le_yes (dSt 1 1) dBung c12)
    by_cases c13 : ¬ ((10 : Int) ≤ o1)
    · exact cc_of (N := 4) rfl hw hob hn (rcR4_13 s bung 0 [a0, i0, o0, a1, i1, o1, a2, i2, o2, a3, i3, o3] _ (ok_snoc p13 (le_no (.lit 10) (dSt 1 2) c13))) (cs_bad (N := 4) 1 rfl (cE0 hn (by omega) (by omega) (by omega) (by omega)) (by decide) (by omega) (sn_of (n := 1) (st2 (a := a1) (i := i1) (o := o1) (by omega)) (by decide)) (fun j h => match j, h with | 0, _ => sn_0 (n := 0) (st0 (a := a0) (i := i0) (o := o0) (by omega) (by omega)) (.inl rfl)))
    replace c13 : (10 : Int) ≤ o1 := by omega
    have p14 : ∀ f ∈ rcG4.take 14, OkF (D0 s bung 0 [a0, i0, o0, a1, i1, o1, a2, i2, o2, a3, i3, o3] (fun o => o = ob)) f := ok_more p13 rfl (le_yes (.lit 10) (dSt 1 2) c13)
    by_cases c14 : ¬ (o1 ≤ bung)
    · exact cc_of (N := 4) rfl hw hob hn (rcR4_14 s bung 0 [a0, i0, o0, a1, i1, o1, a2, i2, o2, a3, i3, o3] _ (ok_snoc p14 (le_no (dSt 1 2) dBung c14))) (cs_bad (N := 4) 1 rfl (cE0 hn (by omega) (by omega) (by omega) (by omega)) (by decide) (by omega) (sn_of (n := 1) (st2 (a := a1) (i := i1) (o := o1) (by omega)) (by decide)) (fun j h => match j, h with | 0, _ => sn_0 (n := 0) (st0 (a := a0) (i := i0) (o := o0) (by omega) (by omega)) (.inl rfl)))
    replace c14 : o1 ≤ bung := by omega
    have p15 : ∀ f ∈ rcG4.take 15, OkF (D0 s bung 0 [a0, i0, o0, a1, i1, o1, a2, i2, o2, a3, i3, o3] (fun o => o = ob)) f := ok_more p14 rfl (le_yes (dSt 1 2) dBung c14)
    by_cases c15 : o1 < i1
    · exact cc_of (N := 4) rfl hw hob hn (rcR4_15 s bung 0 [a0, i0, o0, a1, i1, o1, a2, i2, o2, a3, i3, o3] _ (ok_snoc p15 (lt_yes (dSt 1 2) (dSt 1 1) c15))) (cs_bad (N := 4) 1 rfl (cE0 hn (by omega) (by omega) (by omega) (by omega)) (by decide) (by omega) (sn_of (n := 1) (st9 (a := a1) (i := i1) (o := o1) (by omega) (by omega)) (by decide)) (fun j h => match j, h with | 0, _ => sn_0 (n := 0) (st0 (a := a0) (i := i0) (o := o0) (by omega) (by omega)) (.inl rfl)))
    have p16 : ∀ f ∈ rcG4.take 16, OkF (D0 s bung 0 [a0, i0, o0, a1, i1, o1, a2, i2, o2, a3, i3, o3] (fun o => o = ob)) f := ok_more p15 rfl (lt_no (dSt 1 2) (dSt 1 1) c15)
    by_cases c16 : a1 ≤ a0
    · exact cc_of (N := 4) rfl hw hob hn (rcR4_16 s bung 0 [a0, i0, o0, a1, i1, o1, a2, i2, o2, a3, i3, o3] _ (ok_snoc p16 (le_yes (dSt 1 0) (dSt 0 0) c16))) (cs_bad (N := 4) 1 rfl (cE0 hn (by omega) (by omega) (by omega) (by omega)) (by decide) (by omega) (sn_9 (n := 1) (st0 (a := a1) (i := i1) (o := o1) (by omega) (by omega)) (by decide) (show a1 ≤ a0 by omega)) (fun j h => match j, h with | 0, _ => sn_0 (n := 0) (st0 (a := a0) (i := i0) (o := o0) (by omega) (by omega)) (.inl rfl)))
    have p17 : ∀ f ∈ rcG4.take 17, OkF (D0 s bung 0 [a0, i0, o0, a1, i1, o1, a2, i2, o2, a3, i3, o3] (fun o => o = ob)) f := ok_more p16 rfl (le_no (dSt 1 0) (dSt 0 0) c16)
    by_cases c17 : ¬ ((0 : Int) ≤ a2)
    · exact cc_of (N := 4) rfl hw hob hn (rcR4_17 s bung 0 [a0, i0, o0, a1, i1, o1, a2, i2, o2, a3, i3, o3] _ (ok_snoc p17 (le_no (.lit 0) (dSt 2 0) c17))) (cs_bad (N := 4) 2 rfl (cE0 hn (by omega) (by omega) (by omega) (by omega)) (by decide) (by omega) (sn_of (n := 2) (st2 (a := a2) (i := i2) (o := o2) (by omega)) (by decide)) (fun j h => match j, h with | 0, _ => sn_0 (n := 0) (st0 (a := a0) (i := i0) (o := o0) (by omega) (by omega)) (.inl rfl) | 1, _ => sn_0 (n := 1) (st0 (a := a1) (i := i1) (o := o1) (by omega) (by omega)) (.inr (show a0 < a1 by omega))))
    replace c17 : (0 : Int) ≤ a2 := by omega
    have p18 : ∀ f ∈ rcG4.take 18, OkF (D0 s bung 0 [a0, i0, o0, a1, i1, o1, a2, i2, o2, a3, i3, o3] (fun o => o = ob)) f := ok_more p17 rfl (le_yes (.lit 0) (dSt 2 0) c17)
    by_cases c18 : ¬ (a2 ≤ (3000 : Int))
    · exact cc_of (N := 4) rfl hw hob hn (rcR4_18 s bung 0 [a0, i0, o0, a1, i1, o1, a2, i2, o2, a3, i3, o3] _ (ok_snoc p18 (le_no (dSt 2 0) (.lit 3000) c18))) (cs_bad (N := 4) 2 rfl (cE0 hn (by omega) (by omega) (by omega) (by omega)) (by decide) (by omega) (sn_of (n := 2) (st2 (a := a2) (i := i2) (o := o2) (by omega)) (by decide)) (fun j h => match j, h with | 0, _ => sn_0 (n := 0) (st0 (a := a0) (i := i0) (o := o0) (by omega) (by omega)) (.inl rfl) | 1, _ => sn_0 (n := 1) (st0 (a := a1) (i := i1) (o := o1) (by omega) (by omega)) (.inr (show a0 < a1 by omega))))
    replace c18 : a2 ≤ (3000 : Int) := by omega
    have p19 : ∀ f ∈ rcG4.take 19, OkF (D0 s bung 0 [a0, i0, o0, a1, i1, o1, a2, i2, o2, a3, i3, o3] (fun o => o = ob)) f := ok_more p18 rfl (le_yes (dSt 2 0) (.lit 3000) c18)
    by_cases c19 : ¬ ((10 : Int) ≤ i2)
    · exact cc_of (N := 4) rfl hw hob hn (rcR4_19 s bung 0 [a0, i0, o0, a1, i1, o1, a2, i2, o2, a3, i3, o3] _ (ok_snoc p19 (le_no (.lit 10) (dSt 2 1) c19))) (cs_bad (N := 4) 2 rfl (cE0 hn (by omega) (by omega) (by omega) (by omega)) (by decide) (by omega) (sn_of (n := 2) (st2 (a := a2) (i := i2) (o := o2) (by omega)) (by decide)) (fun j h => match j, h with | 0, _ => sn_0 (n := 0) (st0 (a := a0) (i := i0) (o := o0) (by omega) (by omega)) (.inl rfl) | 1, _ => sn_0 (n := 1) (st0 (a := a1) (i := i1) (o := o1) (by omega) (by omega)) (.inr (show a0 < a1 by omega))))
    replace c19 : (10 : Int) ≤ i2 := by omega
    have p20 : ∀ f ∈ rcG4.take 20, OkF (D0 s bung 0 [a0, i0, o0, a1, i1, o1, a2, i2, o2, a3, i3, o3] (fun o => o = ob)) f := ok_more p19 rfl (le_yes (.lit 10) (dSt 2 1) c19)
    by_cases c20 : ¬ (i2 ≤ bung)
    · exact cc_of (N := 4) rfl hw hob hn (rcR4_20 s bung 0 [a0, i0, o0, a1, i1, o1, a2, i2, o2, a3, i3, o3] _ (ok_snoc p20 (le_no (dSt 2 1) dBung c20))) (cs_bad (N := 4) 2 rfl (cE0 hn (by omega) (by omega) (by omega) (by omega)) (by decide) (by omega) (sn_of (n := 2) (st2 (a := a2) (i := i2) (o := o2) (by omega)) (by decide)) (fun j h => match j, h with | 0, _ => sn_0 (n := 0) (st0 (a := a0) (i := i0) (o := o0) (by omega) (by omega)) (.inl rfl) | 1, _ => sn_0 (n := 1) (st0 (a := a1) (i := i1) (o := o1) (by omega) (by omega)) (.inr (show a0 < a1 by omega))))
    replace c20 : i2 ≤ bung := by omega
    have p21 : ∀ f ∈ rcG4.take 21, OkF (D0 s bung 0 [a0, i0, o0, a1, i1, o1, a2, i2, o2, a3, i3, o3] (fun o => o = ob)) f := ok_more p20 rfl (le_yes (dSt 2 1) dBung c20)
    by_cases c21 : ¬ ((10 : Int) ≤ o2)
    · exact cc_of (N := 4) rfl hw hob hn (rcR4_21 s bung 0 [a0, i0, o0, a1, i1, o1, a2, i2, o2, a3, i3, o3] _ (ok_snoc p21 (le_no (.lit 10) (dSt 2 2) c21))) (cs_bad (N := 4) 2 rfl (cE0 hn (by omega) (by omega) (by omega) (by omega)) (by decide) (by omega) (sn_of (n := 2) (st2 (a := a2) (i := i2) (o := o2) (by omega)) (by decide)) (fun j h => match j, h with | 0, _ => sn_0 (n := 0) (st0 (a := a0) (i := i0) (o := o0) (by omega) (by omega)) (.inl rfl) | 1, _ => sn_0 (n := 1) (st0 (a := a1) (i := i1) (o := o1) (by omega) (by omega)) (.inr (show a0 < a1 by omega))))
    replace c21 : (10 : Int) ≤ o2 := by omega
    have p22 : ∀ f ∈ rcG4.take 22, OkF (D0 s bung 0 [a0, i0, o0, a1, i1, o1, a2, i2, o2, a3, i3, o3] (fun o => o = ob)) f := ok_more p21 rfl (le_yes (.lit 10) (dSt 2 2) c21)
    by_cases c22 : ¬ (o2 ≤ bung)
    · exact cc_of (N := 4) rfl hw hob hn (rcR4_22 s bung 0 [a0, i0, o0, a1, i1, o1, a2, i2, o2, a3, i3, o3] _ (ok_snoc p22 (le_no (dSt 2 2) dBung c22))) (cs_bad (N := 4) 2 rfl (cE0 hn (by omega) (by omega) (by omega) (by omega)) (by decide) (by omega) (sn_of (n := 2) (st2 (a := a2) (i := i2) (o := o2) (by omega)) (by decide)) (fun j h => match j, h with | 0, _ => sn_0 (n := 0) (st0 (a := a0) (i := i0) (o := o0) (by omega) (by omega)) (.inl rfl) | 1, _ => sn_0 (n := 1) (st0 (a := a1) (i := i1) (o := o1) (by omega) (by omega)) (.inr (show a0 < a1 by omega))))
    replace c22 : o2 ≤ bung := by omega
    have p23 : ∀ f ∈ rcG4.take 23, OkF (D0 s bung 0 [a0, i0, o0, a1, i1, o1, a2, i2, o2, a3, i3, o3] (fun o => o = ob)) f := ok_more p22 rfl (le_yes (dSt 2 2) dBung c22)
    by_cases c23 : o2 < i2
    · exact cc_of (N := 4) rfl hw hob hn (rcR4_23 s bung 0 [a0, i0, o0, a1, i1, o1, a2, i2, o2, a3, i3, o3] _ (ok_snoc p23 (lt_yes (dSt 2 2) (dSt 2 1) c23))) (cs_bad (N := 4) 2 rfl (cE0 hn (by omega) (by omega) (by omega) (by omega)) (by decide) (by omega) (sn_of (n := 2) (st9 (a := a2) (i := i2) (o := o2) (by omega) (by omega)) (by decide)) (fun j h => match j, h with | 0, _ => sn_0 (n := 0) (st0 (a := a0) (i := i0) (o := o0) (by omega) (by omega)) (.inl rfl) | 1, _ => sn_0 (n := 1) (st0 (a := a1) (i := i1) (o := o1) (by omega) (by omega)) (.inr (show a0 < a1 by omega))))
    have p24 : ∀ f ∈ rcG4.take 24, OkF (D0 s bung 0 [a0, i0, o0, a1, i1, o1, a2, i2, o2, a3, i3, o3] (fun o => o = ob)) f := ok_more p23 rfl (lt_no (dSt 2 2) (dSt 2 1) c23)
    by_cases c24 : a2 ≤ a1
    · exact cc_of (N := 4) rfl hw hob hn (rcR4_24 s bung 0 [a0, i0, o0, a1, i1, o1, a2, i2, o2, a3, i3, o3] _ (ok_snoc p24 (le_yes (dSt 2 0) (dSt 1 0) c24))) (cs_bad (N := 4) 2 rfl (cE0 hn (by omega) (by omega) (by omega) (by omega)) (by decide) (by omega) (sn_9 (n := 2) (st0 (a := a2) (i := i2) (o := o2) (by omega) (by omega)) (by decide) (show a2 ≤ a1 by omega)) (fun j h => match j, h with | 0, _ => sn_0 (n := 0) (st0 (a := a0) (i := i0) (o := o0) (by omega) (by omega)) (.inl rfl) | 1, _ => sn_0 (n := 1) (st0 (a := a1) (i := i1) (o := o1) (by omega) (by omega)) (.inr (show a0 < a1 by omega))))
    have p25 : ∀ f ∈ rcG4.take 25, OkF (D0 s bung 0 [a0, i0, o0, a1, i1, o1, a2, i2, o2, a3, i3, o3] (fun o => o = ob)) f := ok_more p24 rfl (le_no (dSt 2 0) (dSt 1 0) c24)
    by_cases c25 : ¬ ((0 : Int) ≤ a3)
    · exact cc_of (N := 4) rfl hw hob hn (rcR4_25 s bung 0 [a0, i0, o0, a1, i1, o1, a2, i2, o2, a3, i3, o3] _ (ok_snoc p25 (le_no (.lit 0) (dSt 3 0) c25))) (cs_bad (N := 4) 3 rfl (cE0 hn (by omega) (by omega) (by omega) (by omega)) (by decide) (by omega) (sn_of (n := 3) (st2 (a := a3) (i := i3) (o := o3) (by omega)) (by decide)) (fun j h => match j, h with | 0, _ => sn_0 (n := 0) (st0 (a := a0) (i := i0) (o := o0) (by omega) (by omega)) (.inl rfl) | 1, _ => sn_0 (n := 1) (st0 (a := a1) (i := i1) (o := o1) (by omega) (by omega)) (.inr (show a0 < a1 by omega)) | 2, _ => sn_0 (n := 2) (st0 (a := a2) (i := i2) (o := o2) (by omega) (by omega)) (.inr (show a1 < a2 by omega))))
    replace c25 : (0 : Int) ≤ a3 := by omega
    have p26 : ∀ f ∈ rcG4.take 26, OkF (D0 s bung 0 [a0, i0, o0, a1, i1, o1, a2, i2, o2, a3, i3, o3] (fun o => o = ob)) f := ok_more p25 rfl (le_yes (.lit 0) (dSt 3 0) c25)
    by_cases c26 : ¬ (a3 ≤ (3000 : Int))
    · exact cc_of (N := 4) rfl hw hob hn (rcR4_26 s bung 0 [a0, i0, o0, a1, i1, o1, a2, i2, o2, a3, i3, o3] _ (ok_snoc p26 (le_no (dSt 3 0) (.lit 3000) c26))) (cs_bad (N := 4) 3 rfl (cE0 hn (by omega) (by omega) (by omega) (by omega)) (by decide) (by omega) (sn_of (n := 3) (st2 (a := a3) (i := i3) (o := o3) (by omega)) (by decide)) (fun j h => match j, h with | 0, _ => sn_0 (n := 0) (st0 (a := a0) (i := i0) (o := o0) (by omega) (by omega)) (.inl rfl) | 1, _ => sn_0 (n := 1) (st0 (a := a1) (i := i1) (o := o1) (by omega) (by omega)) (.inr (show a0 < a1 by omega)) | 2, _ => sn_0 (n := 2) (st0 (a := a2) (i := i2) (o := o2) (by omega) (by omega)) (.inr (show a1 < a2 by omega))))
    replace c26 : a3 ≤ (3000 : Int) := by omega
    have p27 : ∀ f ∈ rcG4.take 27, OkF (D0 s bung 0 [a0, i0, o0, a1, i1, o1, a2, i2, o2, a3, i3, o3] (fun o => o = ob)) f := ok_more p26 rfl (le_yes (dSt 3 0) (.lit 3000) c26)
    by_cases c27 : ¬ ((10 : Int) ≤ i3)
    · exact cc_of (N := 4) rfl hw hob hn (rcR4_27 s bung 0 [a0, i0, o0, a1, i1, o1, a2, i2, o2, a3, i3, o3] _ (ok_snoc p27 (le_no (.lit 10) (dSt 3 1) c27))) (cs_bad (N := 4) 3 rfl (cE0 hn (by omega) (by omega) (by omega) (by omega)) (by decide) (by omega) (sn_of (n := 3) (st2 (a := a3) (i := i3) (o := o3) (by omega)) (by decide)) (fun j h => match j, h with | 0, _ => sn_0 (n := 0) (st0 (a := a0) (i := i0) (o := o0) (by omega) (by omega)) (.inl rfl) | 1, _ => sn_0 (n := 1) (st0 (a := a1) (i := i1) (o := o1) (by omega) (by omega)) (.inr (show a0 < a1 by omega)) | 2, _ => sn_0 (n := 2) (st0 (a := a2) (i := i2) (o := o2) (by omega) (by omega)) (.inr (show a1 < a2 by omega))))
    replace c27 : (10 : Int) ≤ i3 := by omega
    have p28 : ∀ f ∈ rcG4.take 28, OkF (D0 s bung 0 [a0, i0, o0, a1, i1, o1, a2, i2, o2, a3, i3, o3] (fun o => o = ob)) f := ok_more p27 rfl (le_yes (.lit 10) (dSt 3 1) c27)
    by_cases c28 : ¬ (i3 ≤ bung)
    · exact cc_of (N := 4) rfl hw hob hn (rcR4_28 s bung 0 [a0, i0, o0, a1, i1, o1, a2, i2, o2, a3, i3, o3] _ (ok_snoc p28 (le_no (dSt 3 1) dBung c28))) (cs_bad (N := 4) 3 rfl (cE0 hn (by omega) (by omega) (by omega) (by omega)) (by decide) (by omega) (sn_of (n := 3) (st2 (a := a3) (i := i3) (o := o3) (by omega)) (by decide)) (fun j h => match j, h with | 0, _ => sn_0 (n := 0) (st0 (a := a0) (i := i0) (o := o0) (by omega) (by omega)) (.inl rfl) | 1, _ => sn_0 (n := 1) (st0 (a := a1) (i := i1) (o := o1) (by omega) (by omega)) (.inr (show a0 < a1 by omega)) | 2, _ => sn_0 (n := 2) (st0 (a := a2) (i := i2) (o := o2) (by omega) (by omega)) (.inr (show a1 < a2 by omega))))
    replace c28 : i3 ≤ bung := by omega
    have p29 : ∀ f ∈ rcG4.take 29, OkF (D0 s bung 0 [a0, i0, o0, a1, i1, o1, a2, i2, o2, a3, i3, o3] (fun o => o = ob)) f := ok_more p28 rfl (le_yes (dSt 3 1) dBung c28)
    by_cases c29 : ¬ ((10 : Int) ≤ o3)
    · exact cc_of (N := 4) rfl hw hob hn (rcR4_29 s bung 0 [a0, i0, o0, a1, i1, o1, a2, i2, o2, a3, i3, o3] _ (ok_snoc p29 (le_no (.lit 10) (dSt 3 2) c29))) (cs_bad (N := 4) 3 rfl (cE0 hn (by omega) (by omega) (by omega) (by omega)) (by decide) (by omega) (sn_of (n := 3) (st2 (a := a3) (i := i3) (o := o3) (by omega)) (by decide)) (fun j h => match j, h with | 0, _ => sn_0 (n := 0) (st0 (a := a0) (i := i0) (o := o0) (by omega) (by omega)) (.inl rfl) | 1, _ => sn_0 (n := 1) (st0 (a := a1) (i := i1) (o := o1) (by omega) (by omega)) (.inr (show a0 < a1 by omega)) | 2, _ => sn_0 (n := 2) (st0 (a := a2) (i := i2) (o := o2) (by omega) (by omega)) (.inr (show a1 < a2 by omega))))
    replace c29 : (10 : Int) ≤ o3 := by omega
    have p30 : ∀ f ∈ rcG4.take 30, OkF (D0 s bung 0 [a0, i0, o0, a1, i1, o1, a2, i2, o2, a3, i3, o3] (fun o => o = ob)) f := ok_more p29 rfl (le_yes (.lit 10) (dSt 3 2) c29)
    by_cases c30 : ¬ (o3 ≤ bung)
    · exact cc_of (N := 4) rfl hw hob hn (rcR4_30 s bung 0 [a0, i0, o0, a1, i1, o1, a2, i2, o2, a3, i3, o3] _ (ok_snoc p30 (le_no (dSt 3 2) dBung c30))) (cs_bad (N := 4) 3 rfl (cE0 hn (by omega) (by omega) (by omega) (by omega)) (by decide) (by omega) (sn_of (n := 3) (st2 (a := a3) (i := i3) (o := o3) (by omega)) (by decide)) (fun j h => match j, h with | 0, _ => sn_0 (n := 0) (st0 (a := a0) (i := i0) (o := o0) (by omega) (by omega)) (.inl rfl) | 1, _ => sn_0 (n := 1) (st0 (a := a1) (i := i1) (o := o1) (by omega) (by omega)) (.inr (show a0 < a1 by omega)) | 2, _ => sn_0 (n := 2) (st0 (a := a2) (i := i2) (o := o2) (by omega) (by omega)) (.inr (show a1 < a2 by omega))))
    replace c30 : o3 ≤ bung := by omega
    have p31 : ∀ f ∈ rcG4.take 31, OkF (D0 s bung 0 [a0, i0, o0, a1, i1, o1, a2, i2, o2, a3, i3, o3] (fun o => o = ob)) f := ok_more p30 rfl (le_yes (dSt 3 2) dBung c30)
    by_cases c31 : o3 < i3
    · exact cc_of (N := 4) rfl hw hob hn (rcR4_31 s bung 0 [a0, i0, o0, a1, i1, o1, a2, i2, o2, a3, i3, o3] _ (ok_snoc p31 (lt_yes (dSt 3 2) (dSt 3 1) c31))) (cs_bad (N := 4) 3 rfl (cE0 hn (by omega) (by omega) (by omega) (by omega)) (by decide) (by omega) (sn_of (n := 3) (st9 (a := a3) (i := i3) (o := o3) (by omega) (by omega)) (by decide)) (fun j h => match j, h with | 0, _ => sn_0 (n := 0) (st0 (a := a0) (i := i0) (o := o0) (by omega) (by omega)) (.inl rfl) | 1, _ => sn_0 (n := 1) (st0 (a := a1) (i := i1) (o := o1) (by omega) (by omega)) (.inr (show a0 < a1 by omega)) | 2, _ => sn_0 (n := 2) (st0 (a := a2) (i := i2) (o := o2) (by omega) (by omega)) (.inr (show a1 < a2 by omega))))
    have p32 : ∀ f ∈ rcG4.take 32, OkF (D0 s bung 0 [a0, i0, o0, a1, i1, o1, a2, i2, o2, a3, i3, o3] (fun o => o = ob)) f := ok_more p31 rfl (lt_no (dSt 3 2) (dSt 3 1) c31)
    by_cases c32 : a3 ≤ a2
    · exact cc_of (N := 4) rfl hw hob hn (rcR4_32 s bung 0 [a0, i0, o0, a1, i1, o1, a2, i2, o2, a3, i3, o3] _ (ok_snoc p32 (le_yes (dSt 3 0) (dSt 2 0) c32))) (cs_bad (N := 4) 3 rfl (cE0 hn (by omega) (by omega) (by omega) (by omega)) (by decide) (by omega) (sn_9 (n := 3) (st0 (a := a3) (i := i3) (o := o3) (by omega) (by omega)) (by decide) (show a3 ≤ a2 by omega)) (fun j h => match j, h with | 0, _ => sn_0 (n := 0) (st0 (a := a0) (i := i0) (o := o0) (by omega) (by omega)) (.inl rfl) | 1, _ => sn_0 (n := 1) (st0 (a := a1) (i := i1) (o := o1) (by omega) (by omega)) (.inr (show a0 < a1 by omega)) | 2, _ => sn_0 (n := 2) (st0 (a := a2) (i := i2) (o := o2) (by omega) (by omega)) (.inr (show a1 < a2 by omega))))
    have p33 : ∀ f ∈ rcG4.take 33, OkF (D0 s bung 0 [a0, i0, o0, a1, i1, o1, a2, i2, o2, a3, i3, o3] (fun o => o = ob)) f := ok_more p32 rfl (le_no (dSt 3 0) (dSt 2 0) c32)
    exact cc_of (N := 4) rfl hw hob hn (rcR4 s bung 0 [a0, i0, o0, a1, i1, o1, a2, i2, o2, a3, i3, o3] _ (ok_all p33 rfl)) (cs_ok (N := 4) rfl (cE0 hn (by omega) (by omega) (by omega) (by omega)) (fun j h => match j, h with | 0, _ => sn_0 (n := 0) (st0 (a := a0) (i := i0) (o := o0) (by omega) (by omega)) (.inl rfl) | 1, _ => sn_0 (n := 1) (st0 (a := a1) (i := i1) (o := o1) (by omega) (by omega)) (.inr (show a0 < a1 by omega)) | 2, _ => sn_0 (n := 2) (st0 (a := a2) (i := i2) (o := o2) (by omega) (by omega)) (.inr (show a1 < a2 by omega)) | 3, _ => sn_0 (n := 3) (st0 (a := a3) (i := i3) (o := o3) (by omega) (by omega)) (.inr (show a2 < a3 by omega))))
theorem cc13 (s : ByteArray) (bung : Int) (xs : List Int) (gs os cap : Nat) (w : World) (hl : xs.length = 39) (hw : WinAt gs os xs w) : CCat s bung xs gs os 13 cap w := by
  obtain ⟨ob, hob⟩ : ∃ ob, w.heap[gs]? = some ob := by obtain ⟨c, e, f, h, _⟩ := hw; exact ⟨_, h⟩
  cases hn : nameB s with
  | false => exact cc_of (N := 13) hl hw hob hn (rcN13 s bung 0 xs _ ok_none) (cs_early (N := 13) hl (cE4 hn) (by decide))
  | true =>
    have p0 : ∀ f ∈ rcG13.take 0, OkF (D0 s bung 0 xs (fun o => o = ob)) f := ok_nil
    by_cases c0 : ¬ ((10 : Int) ≤ bung)
    · exact cc_of (N := 13) hl hw hob hn (rcR13_0 s bung 0 xs _ (ok_snoc p0 (le_no (.lit 10) dBung c0))) (cs_early (N := 13) hl (cE2 hn (by omega)) (by decide))
    replace c0 : (10 : Int) ≤ bung := by omega
    have p1 : ∀ f ∈ rcG13.take 1, OkF (D0 s bung 0 xs (fun o => o = ob)) f := ok_more p0 rfl (le_yes (.lit 10) dBung c0)
    by_cases c1 : ¬ (bung ≤ (800 : Int))
    · exact cc_of (N := 13) hl hw hob hn (rcR13_1 s bung 0 xs _ (ok_snoc p1 (le_no dBung (.lit 800) c1))) (cs_early (N := 13) hl (cE2 hn (by omega)) (by decide))
    replace c1 : bung ≤ (800 : Int) := by omega
    have p2 : ∀ f ∈ rcG13.take 2, OkF (D0 s bung 0 xs (fun o => o = ob)) f := ok_more p1 rfl (le_yes dBung (.lit 800) c1)
    exact cc_of (N := 13) hl hw hob hn (rcR13 s bung 0 xs _ (ok_all p2 rfl)) (cs_early (N := 13) hl (cE8 hn (by omega) (by omega) (by omega)) (by decide))
theorem cc14 (s : ByteArray) (bung : Int) (xs : List Int) (gs os cap : Nat) (w : World) (hl : xs.length = 42) (hw : WinAt gs os xs w) : CCat s bung xs gs os 14 cap w := by
  obtain ⟨ob, hob⟩ : ∃ ob, w.heap[gs]? = some ob := by obtain ⟨c, e, f, h, _⟩ := hw; exact ⟨_, h⟩
  cases hn : nameB s with
  | false => exact cc_of (N := 14) hl hw hob hn (rcN14 s bung 0 xs _ ok_none) (cs_early (N := 14) hl (cE4 hn) (by decide))
  | true =>
    have p0 : ∀ f ∈ rcG14.take 0, OkF (D0 s bung 0 xs (fun o => o = ob)) f := ok_nil
    by_cases c0 : ¬ ((10 : Int) ≤ bung)
    · exact cc_of (N := 14) hl hw hob hn (rcR14_0 s bung 0 xs _ (ok_snoc p0 (le_no (.lit 10) dBung c0))) (cs_early (N := 14) hl (cE2 hn (by omega)) (by decide))
    replace c0 : (10 : Int) ≤ bung := by omega
    have p1 : ∀ f ∈ rcG14.take 1, OkF (D0 s bung 0 xs (fun o => o = ob)) f := ok_more p0 rfl (le_yes (.lit 10) dBung c0)
    by_cases c1 : ¬ (bung ≤ (800 : Int))
    · exact cc_of (N := 14) hl hw hob hn (rcR14_1 s bung 0 xs _ (ok_snoc p1 (le_no dBung (.lit 800) c1))) (cs_early (N := 14) hl (cE2 hn (by omega)) (by decide))
    replace c1 : bung ≤ (800 : Int) := by omega
    have p2 : ∀ f ∈ rcG14.take 2, OkF (D0 s bung 0 xs (fun o => o = ob)) f := ok_more p1 rfl (le_yes dBung (.lit 800) c1)
    exact cc_of (N := 14) hl hw hob hn (rcR14 s bung 0 xs _ (ok_all p2 rfl)) (cs_early (N := 14) hl (cE8 hn (by omega) (by omega) (by omega)) (by decide))
end Sy
end Go.Proofs.Ytpfhfphcmomfdaa
