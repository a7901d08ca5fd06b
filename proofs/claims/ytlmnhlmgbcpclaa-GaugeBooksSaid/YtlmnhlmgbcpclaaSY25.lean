import Derived.Test.YtlmnhlmgbcpclaaSY24
set_option linter.unusedSimpArgs false
set_option linter.unusedVariables false
namespace Go.Proofs.Ytlmnhlmgbcpclaa
namespace Sy
variable {P : Pg}
open Go.RowKit

/-! Facts, and loops by their ways. -/
abbrev OkFc (D : Dn) (f : Fact) : Prop := ∃ x y, Dv D f.2.1 x ∧ Dv D f.2.2.1 y ∧ cmpN f.1 x y = f.2.2.2
abbrev OkSq (D : Dn) (q : Value × Value × Bool) : Prop := ∃ s s', SDen D q.1 s ∧ SDen D q.2.1 s' ∧ decide (s = s') = q.2.2
def AllL {α : Type} (p : α → Prop) : List α → Prop
  | [] => True
  | x :: l => p x ∧ AllL p l
theorem AllL.mem {α : Type} {p : α → Prop} : ∀ {l : List α}, AllL p l → ∀ x ∈ l, p x
  | _ :: _, h, x, hx => by
    rcases List.mem_cons.1 hx with rfl | hx
    · exact h.1
    · exact AllL.mem h.2 x hx
theorem AllL.of {α : Type} {p : α → Prop} : ∀ {l : List α}, (∀ x ∈ l, p x) → AllL p l
  | [], _ => trivial
  | x :: l, h => ⟨h x List.mem_cons_self, AllL.of fun y hy => h y (List.mem_cons_of_mem _ hy)⟩
theorem AllL.app {α : Type} {p : α → Prop} : ∀ {a b : List α}, AllL p a → AllL p b → AllL p (a ++ b)
  | [], _, _, k => k
  | _ :: _, _, h, k => ⟨h.1, AllL.app h.2 k⟩
theorem leY {D : Dn} {a b : Value} {x y : Int} (ha : Dv D a x) (hb : Dv D b y) (h : x ≤ y) : OkFc D (2, a, b, true) := ⟨x, y, ha, hb, decide_eq_true h⟩
theorem leN {D : Dn} {a b : Value} {x y : Int} (ha : Dv D a x) (hb : Dv D b y) (h : ¬ x ≤ y) : OkFc D (2, a, b, false) := ⟨x, y, ha, hb, decide_eq_false h⟩
theorem ltY {D : Dn} {a b : Value} {x y : Int} (ha : Dv D a x) (hb : Dv D b y) (h : x < y) : OkFc D (1, a, b, true) := ⟨x, y, ha, hb, decide_eq_true h⟩
theorem ltN {D : Dn} {a b : Value} {x y : Int} (ha : Dv D a x) (hb : Dv D b y) (h : ¬ x < y) : OkFc D (1, a, b, false) := ⟨x, y, ha, hb, decide_eq_false h⟩
theorem eqY {D : Dn} {a b : Value} {x y : Int} (ha : Dv D a x) (hb : Dv D b y) (h : x = y) : OkFc D (0, a, b, true) := ⟨x, y, ha, hb, decide_eq_true h⟩
theorem eqN {D : Dn} {a b : Value} {x y : Int} (ha : Dv D a x) (hb : Dv D b y) (h : ¬ x = y) : OkFc D (0, a, b, false) := ⟨x, y, ha, hb, decide_eq_false h⟩
theorem sqY {D : Dn} {a b : Value} {s s' : ByteArray} (ha : SDen D a s) (hb : SDen D b s') (h : s = s') : OkSq D (a, b, true) := ⟨s, s', ha, hb, decide_eq_true h⟩
theorem sqN {D : Dn} {a b : Value} {s s' : ByteArray} (ha : SDen D a s) (hb : SDen D b s') (h : ¬ s = s') : OkSq D (a, b, false) := ⟨s, s', ha, hb, decide_eq_false h⟩

/-- a list of numbers -/
theorem DvL.nil (D : Dn) : DvL D [] [] := ⟨rfl, fun i v x h => by simp at h⟩
theorem DvL.cons {D : Dn} {v : Value} {x : Int} {as : List Value} {xs : List Int} (hv : Dv D v x) (h : DvL D as xs) : DvL D (v :: as) (x :: xs) := ⟨by simp [h.1], fun i u y hu hy => by
  cases i with
  | zero => simp at hu hy; subst hu hy; exact hv
  | succ i => exact h.2 i u y (by simpa using hu) (by simpa using hy)⟩
theorem Dv.apL {D : Dn} {t : Nat} {as : List Value} {xs : List Int} (ht : 100 ≤ t) (h : DvL D as xs) : Dv D (.iface t (.tuple as.toArray)) (D.int t xs) :=
  .app ht (by simpa using h.1) fun i v x hv hx => h.2 i v x (by simpa using hv) hx
theorem Dv.ap1 {D : Dn} {t : Nat} {a : Value} {x : Int} (ht : 100 ≤ t) (h : Dv D a x) : Dv D (.iface t (.tuple #[a])) (D.int t [x]) := Dv.apL ht (DvL.cons h (DvL.nil D))
theorem Dv.ap2 {D : Dn} {t : Nat} {a b : Value} {x y : Int} (ht : 100 ≤ t) (h : Dv D a x) (k : Dv D b y) : Dv D (.iface t (.tuple #[a, b])) (D.int t [x, y]) := Dv.apL ht (DvL.cons h (DvL.cons k (DvL.nil D)))
theorem SDen.f0 {D : Dn} {c : Nat} : SDen D (mkF1 98 c []) (D.str c []) := .fam (mkF1_list c []) (DvL.nil D)
theorem SDen.f1 {D : Dn} {c : Nat} {a : Value} {x : Int} (h : Dv D a x) : SDen D (mkF1 98 c [a]) (D.str c [x]) := .fam (mkF1_list c [a]) (DvL.cons h (DvL.nil D))
theorem SDen.f2 {D : Dn} {c : Nat} {a b : Value} {x y : Int} (h : Dv D a x) (k : Dv D b y) : SDen D (mkF1 98 c [a, b]) (D.str c [x, y]) := .fam (mkF1_list c [a, b]) (DvL.cons h (DvL.cons k (DvL.nil D)))
theorem vrel_f0 {M : Mp} {c : Nat} {v : Value} (h : VRel P M (mkF1 96 c []) v) : v = P.den.slc c [] := by
  obtain ⟨xs, hd, e, _⟩ := fvl_rel (mkF1_list c []) h
  have : xs = [] := List.length_eq_zero_iff.1 hd.1.symm
  rw [e, this]
theorem vrel_s {M : Mp} {v v' : Value} {s : ByteArray} (h : VRel P M v v') (d : SDen P.den v s) : v' = .string s := d.vrel h
theorem SDen.rel {M : Mp} {c : Nat} {as : List Value} {xs : List Int} (h : DvL P.den as xs) : VRel P M (mkF1 98 c as) (.string (P.den.str c xs)) := .fst (mkF1_list c as) h
theorem slc_rel {M : Mp} {c : Nat} {as : List Value} {xs : List Int} (h : DvL P.den as xs) {a : Option Addr} {n k : Nat} (e : P.den.slc c xs = .slice a n k) : VRel P M (mkF1 96 c as) (.slice a n k) := by
  rw [← e]; exact .fvl (mkF1_list c as) h ⟨a, n, k, e⟩

/-- strings that don't hang on some holes -/
noncomputable def noS (ks : List Nat) (v : Value) : Bool :=
  match v with
  | .string _ => true
  | .iface 90 (.int _ (.ofNat n)) => !(ks.any (Nat.beq n))
  | .iface 98 (.tuple zs) => zs.toList.all fun z => noH2 ks 40 z
  | _ => false
theorem DvL.upd {D : Dn} {ks : List Nat} {xs : List Int} {as : List Value} {ys : List Int} (h : as.all (noH2 ks 40) = true) (hd : DvL D as ys) : DvL (updD D ks xs) as ys :=
  ⟨hd.1, fun i v x e e' => Dv.den2 (D := D) (D' := updD D ks xs) (k := ks) rfl (fun n hn => holeU_out ks xs n _ hn) 40 v x (List.all_eq_true.1 h v (List.mem_of_getElem? e)) (hd.2 i v x e e')⟩
theorem Dv.upd {D : Dn} {ks : List Nat} {xs : List Int} {v : Value} {x : Int} (h : noH2 ks 40 v = true) (hd : Dv D v x) : Dv (updD D ks xs) v x :=
  Dv.den2 (D := D) (D' := updD D ks xs) (k := ks) rfl (fun n hn => holeU_out ks xs n _ hn) 40 v x h hd
theorem SDen.upd {D : Dn} {ks : List Nat} {xs : List Int} {v : Value} {s : ByteArray} (h : noS ks v = true) (hd : SDen D v s) : SDen (updD D ks xs) v s := by
  cases hd with
  | lit s => exact .lit s
  | @hole n s hn =>
    have h : (!(ks.any (Nat.beq n))) = true := h
    refine .hole ?_
    show holeU ks xs n (D.hole n) = _
    rw [holeU_out ks xs n _ (fun e => by rw [any_mem e] at h; cases h)]
    exact hn
  | @fam zs c as ys hz hl =>
    have h : (zs.toList.all fun z => noH2 ks 40 z) = true := h
    rw [hz, List.all_cons, Bool.and_eq_true] at h
    exact .fam (D := updD D ks xs) hz (hl.upd h.2)
/-- what is known, of which nothing hangs on some holes -/
noncomputable def cleanF (P : Pd) (ks : List Nat) : Bool := (P.facts.all fun f => noH2 ks 40 f.2.1 && noH2 ks 40 f.2.2.1) && ((P.seqs.all fun q => noS ks q.1 && noS ks q.2.1) && (P.eqh.isEmpty && P.strs.isEmpty))
theorem more_pg {ks : List Nat} {xs : List Int} {w : Wy} (hc : cleanF P.toPd ks = true) (h1 : ∀ f ∈ w.facts, OkFc (updD P.den ks xs) f) (h2 : ∀ q ∈ w.seqs, OkSq (updD P.den ks xs) q) : ∃ P' : Pg, P'.toPd = P.toPd.more w ∧ P'.den = updD P.den ks xs := by
  simp only [cleanF, Bool.and_eq_true] at hc
  obtain ⟨c1, c2, c3, c4⟩ := hc
  refine ⟨{ toPd := P.toPd.more w, den := updD P.den ks xs, ok := ?_, okEq := P.okEq, okEqh := ?_, okStr := ?_, okExt := P.okExt, okFam := P.okFam, okSeq := ?_, okSl := P.okSl, okCps := P.okCps }, rfl, rfl⟩
  · intro f hf
    rcases List.mem_append.1 (show f ∈ w.facts ++ P.facts from hf) with hf | hf
    · exact h1 f hf
    · obtain ⟨x, y, d1, d2, e⟩ := P.ok f hf
      have := List.all_eq_true.1 c1 f hf
      simp only [Bool.and_eq_true] at this
      exact ⟨x, y, d1.upd this.1, d2.upd this.2, e⟩
  · intro t ht
    have ht : t ∈ P.eqh := ht
    rw [List.isEmpty_iff.1 c3] at ht
    cases ht
  · intro k hk
    have hk : k ∈ P.strs := hk
    rw [List.isEmpty_iff.1 c4] at hk
    cases hk
  · intro q hq
    rcases List.mem_append.1 (show q ∈ w.seqs ++ P.seqs from hq) with hq | hq
    · exact h2 q hq
    · obtain ⟨s, s', d1, d2, e⟩ := P.okSeq q hq
      have := List.all_eq_true.1 c2 q hq
      simp only [Bool.and_eq_true] at this
      exact ⟨s, s', d1.upd this.1, d2.upd this.2, e⟩
/-- slots behind a round -/
def PostsOk (D : Dn) (posts : List (Nat × Value)) : List (Nat × Nat) → List Int → Prop
  | [], [] => True
  | h :: hs, y :: ys => (∃ u, (h.1, u) ∈ posts ∧ Dv D u y) ∧ PostsOk D posts hs ys
  | _, _ => False
theorem PostsOk.get {D : Dn} {posts : List (Nat × Value)} : ∀ {hs : List (Nat × Nat)} {ys : List Int}, PostsOk D posts hs ys → ∀ (j t h : Nat), hs[j]? = some (t, h) → ∃ u y, (t, u) ∈ posts ∧ ys[j]? = some y ∧ Dv D u y
  | [], _, _, j, t, h, e => by simp at e
  | _ :: _, [], k, _, _, _, _ => k.elim
  | a :: hs, y :: ys, k, 0, t, h, e => by
    simp at e
    subst e
    obtain ⟨u, h1, h2⟩ := k.1
    exact ⟨u, y, h1, rfl, h2⟩
  | a :: hs, y :: ys, k, j + 1, t, h, e => by
    obtain ⟨u, z, h1, h2, h3⟩ := PostsOk.get k.2 j t h (by simpa using e)
    exact ⟨u, z, h1, by simpa using h2, h3⟩
theorem loopSem_of {x : LSpec} {good : Pg → Prop} (hgP : good P) (hnd : (x.hs.map fun h => h.2).Nodup) (hc : cleanF P.toPd (x.hs.map fun h => h.2) = true) (Inv : List Int → Prop) (meas : List Int → Nat) (x0 x1 : List Int) (h0 : Inv x0) (hini : DvL P.den x.ini x0) (hfin : DvL P.den x.fin x1)
    (hgood : ∀ (xs : List Int) (P' : Pg), Inv xs → P'.prog = P.prog → P'.den = updD P.den (x.hs.map fun h => h.2) xs → good P')
    (step : ∀ xs, Inv xs → xs = x1 ∨ ∃ w ∈ x.ways, AllL (OkFc (updD P.den (x.hs.map fun h => h.2) xs)) w.facts ∧ AllL (OkSq (updD P.den (x.hs.map fun h => h.2) xs)) w.seqs ∧
      ∃ ys, Inv ys ∧ meas ys < meas xs ∧ PostsOk (updD P.den (x.hs.map fun h => h.2) xs) w.posts x.hs ys) : LoopSem P x good := by
  have get : ∀ {us : List Value} {zs : List Int}, DvL P.den us zs → ∀ (j : Nat) (u : Value), us[j]? = some u → ∃ y, zs[j]? = some y ∧ Dv P.den u y := fun {us zs} h j u e => by
    have hj : j < zs.length := by rw [← h.1]; exact (List.getElem?_eq_some_iff.1 e).1
    exact ⟨zs[j], List.getElem?_eq_getElem hj, h.2 j u _ e (List.getElem?_eq_getElem hj)⟩
  refine ⟨hgP, hnd, Inv, meas, x0, x1, h0, get hini, get hfin, fun xs hI => ?_⟩
  rcases step xs hI with h | ⟨w, hw, f1, f2, ys, h1, h2, h3⟩
  · exact .inl h
  · obtain ⟨P', hp', hd'⟩ := more_pg (P := P) hc f1.mem f2.mem
    refine .inr ⟨w, hw, P', hp', hd', hgood xs P' hI ?_ hd', ys, h1, h2, ?_⟩
    · have : P'.toPd.prog = (P.toPd.more w).prog := by rw [hp']
      exact this
    · rw [hd']
      exact h3.get
end Sy
end Go.Proofs.Ytlmnhlmgbcpclaa
