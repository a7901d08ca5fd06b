import Derived.Test.YtagpaoglcjcaeaaEV9
set_option linter.unusedSimpArgs false
set_option linter.unusedVariables false
namespace Go.Proofs.Ytagpaoglcjcaeaa
namespace Ev

/-! What must lie ahead. -/

theorem bit_test (m j : Nat) : bit m j = m.testBit j := by
  have h : bit m j = Nat.beq (m >>> j % 2) 1 := rfl
  rw [h, beq_eq, Nat.testBit_eq_decide_div_mod_eq, Nat.shiftRight_eq_div_pow]
theorem bit_lor (a b j : Nat) : bit (Nat.lor a b) j = (bit a j || bit b j) := by
  rw [bit_test, bit_test, bit_test]
  exact Nat.testBit_or a b j
theorem bit_one (a j : Nat) (h : bit (Nat.shiftLeft 1 a) j = true) : j = a := by
  rw [bit_test] at h
  have e : Nat.shiftLeft 1 a = 1 <<< a := rfl
  rw [e, Nat.one_shiftLeft, Nat.testBit_two_pow] at h
  exact (of_decide_eq_true h).symm
theorem bit_full (n j : Nat) (h : j < n) : bit (Nat.sub (Nat.shiftLeft 1 n) 1) j = true := by
  rw [bit_test]
  have e : Nat.sub (Nat.shiftLeft 1 n) 1 = 1 <<< n - 1 := rfl
  rw [e, Nat.one_shiftLeft, Nat.testBit_two_pow_sub_one]
  simpa using h
theorem bit_zero (j : Nat) : bit 0 j = false := by rw [bit_test]; simp

theorem mustOf_spec {acc : List Nat} {o : Oper} {j : Nat} (h : bit (mustOf acc o) j = true) :
    ∃ e ∈ o.after, Region.binds .any e = true ∧ (e.on = j ∨ ∃ m, acc[e.on]? = some m ∧ bit m j = true) := by
  have key : ∀ l : List Edge, bit (List.rec 0 (fun e _ ih => bi (Region.binds .any e) (Nat.lor (Nat.lor (Nat.shiftLeft 1 e.on) (Option.rec 0 (fun m => m) acc[e.on]?)) ih) ih) l : Nat) j = true →
      ∃ e ∈ l, Region.binds .any e = true ∧ (e.on = j ∨ ∃ m, acc[e.on]? = some m ∧ bit m j = true) := by
    intro l
    induction l with
    | nil => intro h; have h : bit 0 j = true := h; rw [bit_zero] at h; cases h
    | cons e l ih =>
      intro h
      have h : bit (bi (Region.binds .any e) (Nat.lor (Nat.lor (Nat.shiftLeft 1 e.on) (Option.rec 0 (fun m => m) acc[e.on]?)) (List.rec 0 (fun e _ ih => bi (Region.binds .any e) (Nat.lor (Nat.lor (Nat.shiftLeft 1 e.on) (Option.rec 0 (fun m => m) acc[e.on]?)) ih) ih) l)) (List.rec 0 (fun e _ ih => bi (Region.binds .any e) (Nat.lor (Nat.lor (Nat.shiftLeft 1 e.on) (Option.rec 0 (fun m => m) acc[e.on]?)) ih) ih) l)) j = true := h
      rw [bi_if] at h
      split at h
      · rename_i hb
        rw [bit_lor, bit_lor, Bool.or_eq_true, Bool.or_eq_true] at h
        rcases h with (h | h) | h
        · exact ⟨e, by simp, hb, .inl (bit_one _ _ h).symm⟩
        · cases ha : acc[e.on]? with
          | none => rw [ha] at h; have h : bit 0 j = true := h; rw [bit_zero] at h; cases h
          | some m => rw [ha] at h; exact ⟨e, by simp, hb, .inr ⟨m, ha, h⟩⟩
        · obtain ⟨e', h1, h2⟩ := ih h
          exact ⟨e', by simp [h1], h2⟩
      · obtain ⟨e', h1, h2⟩ := ih h
        exact ⟨e', by simp [h1], h2⟩
  obtain ⟨e, h1, h2⟩ := key _ h
  exact ⟨e, by simpa using h1, h2⟩
theorem musts_spec : ∀ (l : List Oper) (acc : List Nat), (musts l acc).length = acc.length + l.length ∧ (∀ k, k < acc.length → (musts l acc)[k]? = acc[k]?) ∧
    ∀ t o, l[t]? = some o → (musts l acc)[acc.length + t]? = some (mustOf ((musts l acc).take (acc.length + t)) o)
  | [], acc => ⟨rfl, fun k h => rfl, fun t o h => by simp at h⟩
  | o :: l, acc => by
    have e : musts (o :: l) acc = musts l (acc ++ [mustOf acc o]) := rfl
    obtain ⟨h1, h2, h3⟩ := musts_spec l (acc ++ [mustOf acc o])
    rw [e]
    refine ⟨by rw [h1]; simp; omega, fun k hk => by rw [h2 k (by simp; omega), List.getElem?_append_left hk], fun t o' ht => ?_⟩
    cases t with
    | zero =>
      simp at ht
      subst ht
      rw [Nat.add_zero, h2 acc.length (by simp)]
      have : (musts l (acc ++ [mustOf acc o])).take acc.length = acc := by
        apply List.ext_getElem?
        intro k
        rw [List.getElem?_take]
        split
        · rename_i hk; rw [h2 k (by simp; omega), List.getElem?_append_left hk]
        · rename_i hk; rw [List.getElem?_eq_none (by omega)]
      rw [this]
      simp
    | succ t =>
      have := h3 t o' (by simpa using ht)
      simp only [List.length_append, List.length_cons, List.length_nil] at this
      rw [show acc.length + (t + 1) = acc.length + (0 + 1) + t by omega]
      exact this

/-- what lies ahead of a listed operation is listed -/
def Closed (ops : Array Oper) (L : Nat → Prop) : Prop := ∀ k ok, L k → ops[k]? = some ok → ∀ e ∈ ok.after, Region.binds .any e = true → L e.on
theorem ahead {ops : Array Oper} {L : Nat → Prop} (hL : Closed ops L) : ∀ (j : Nat) (o : Oper) (m : Nat), ops[j]? = some o → (musts ops.toList [])[j]? = some m → (∀ e ∈ o.after, Region.binds .any e = true → L e.on) →
    ∀ i, bit m i = true → L i := by
  intro j
  induction j using Nat.strongRecOn with
  | _ j ih =>
    intro o m ho hm hp i hb
    obtain ⟨h1, h2, h3⟩ := musts_spec ops.toList []
    have h4 := h3 j o (by simpa using ho)
    simp only [List.length_nil, Nat.zero_add] at h4
    rw [hm] at h4
    cases h4
    obtain ⟨e, he, hbd, hor⟩ := mustOf_spec hb
    have hLe := hp e he hbd
    rcases hor with rfl | ⟨m', hm', hb'⟩
    · exact hLe
    · rw [List.getElem?_take] at hm'
      split at hm'
      · rename_i hlt
        have hlen : e.on < ops.toList.length := by
          have h5 := (List.getElem?_eq_some_iff.1 hm').1
          rw [h1, List.length_nil, Nat.zero_add] at h5
          exact h5
        have ho' : ops[e.on]? = some ops[e.on] := Array.getElem?_eq_getElem (by simpa using hlen)
        exact ih e.on hlt _ m' ho' hm' (fun e' he' hb2 => hL e.on _ hLe ho' e' he' hb2) i hb'
      · cases hm'
theorem ahead' {ops : Array Oper} {L : Nat → Prop} (hL : Closed ops L) {j : Nat} {o : Oper} {m : Nat} (ho : ops[j]? = some o) (hm : (musts ops.toList [])[j]? = some m) (hj : L j) {i : Nat} (hb : bit m i = true) : L i :=
  ahead hL j o m ho hm (fun e he hbd => hL j o hj ho e he hbd) i hb

/-! The checks of a region. -/
theorem once_spec : ∀ (l : List Oper) (seen : List Nat), onceOk l seen = true → (∀ (i : Nat) o d, l[i]? = some o → o.dst = some d → d ∉ seen) ∧
    ∀ (i j : Nat) (a b : Oper) (d : Tmp), l[i]? = some a → l[j]? = some b → a.dst = some d → b.dst = some d → i = j
  | [], seen, h => ⟨fun i o d h => by simp at h, fun i j a b d h => by simp at h⟩
  | o :: l, seen, h => by
    have h' : (Option.rec (onceOk l seen) (fun d => bi (seen.all fun e => !(Nat.beq e d)) (onceOk l (d :: seen)) false) o.dst : Bool) = true := h
    cases ho : o.dst with
    | none =>
      rw [ho] at h'
      obtain ⟨k1, k2⟩ := once_spec l seen h'
      refine ⟨fun i a d hi hd => ?_, fun i j a b d hi hj ha hb => ?_⟩
      · cases i with
        | zero => simp at hi; subst hi; rw [ho] at hd; cases hd
        | succ i => exact k1 i a d (by simpa using hi) hd
      · cases i with
        | zero => simp at hi; subst hi; rw [ho] at ha; cases ha
        | succ i => cases j with
          | zero => simp at hj; subst hj; rw [ho] at hb; cases hb
          | succ j => rw [k2 i j a b d (by simpa using hi) (by simpa using hj) ha hb]
    | some d0 =>
      rw [ho] at h'
      have h'' : bi (seen.all fun e => !(Nat.beq e d0)) (onceOk l (d0 :: seen)) false = true := h'
      rw [bi_if] at h''
      split at h''
      · rename_i hs
        obtain ⟨k1, k2⟩ := once_spec l (d0 :: seen) h''
        have hns : d0 ∉ seen := fun hm => by
          have := List.all_eq_true.1 hs d0 hm
          simp at this
        refine ⟨fun i a d hi hd => ?_, fun i j a b d hi hj ha hb => ?_⟩
        · cases i with
          | zero => simp at hi; subst hi; rw [ho] at hd; cases hd; exact hns
          | succ i => exact fun hm => k1 i a d (by simpa using hi) hd (by simp [hm])
        · cases i with
          | zero => cases j with
            | zero => rfl
            | succ j =>
              simp at hi; subst hi; rw [ho] at ha; cases ha
              exact absurd (by simp) (k1 j b d0 (by simpa using hj) hb)
          | succ i => cases j with
            | zero =>
              simp at hj; subst hj; rw [ho] at hb; cases hb
              exact absurd (by simp) (k1 i a d0 (by simpa using hi) ha)
            | succ j => rw [k2 i j a b d (by simpa using hi) (by simpa using hj) ha hb]
      · cases h''
theorem row_spec {ops : Array Oper} {m : Nat} {b : Oper} : ∀ (l : List Oper) (i : Nat), rowOk ops m b l i = true → ∀ k a, l[k]? = some a → pairOk ops m (i + k) a b = true
  | [], i, h, k, a, hk => by simp at hk
  | x :: l, i, h, k, a, hk => by
    have h' : bi (pairOk ops m i x b) (rowOk ops m b l (i + 1)) false = true := h
    rw [bi_if] at h'
    split at h'
    · rename_i hp
      cases k with
      | zero => simp at hk; subst hk; exact hp
      | succ k => rw [show i + (k + 1) = i + 1 + k by omega]; exact row_spec l (i + 1) h' k a (by simpa using hk)
    · cases h'
theorem pairs_spec {ops : Array Oper} {ms : List Nat} : ∀ (l : List Oper) (j : Nat) (pre : List Oper), pre.length = j → pairsOk ops ms l j pre = true →
    ∀ (k i : Nat) (a b : Oper), l[k]? = some b → i < j + k → (pre ++ l)[i]? = some a → ∃ m, ms[j + k]? = some m ∧ pairOk ops m i a b = true
  | [], j, pre, hp, h, k, i, a, b, hk => by simp at hk
  | x :: l, j, pre, hp, h, k, i, a, b, hk => by
    intro hi ha
    have h' : bi (Option.rec false (fun m => rowOk ops m x pre 0) ms[j]?) (pairsOk ops ms l (j + 1) (pre ++ [x])) false = true := h
    rw [bi_if] at h'
    split at h'
    · rename_i hr
      cases k with
      | zero =>
        simp at hk
        subst hk
        cases hm : ms[j]? with
        | none => rw [hm] at hr; cases hr
        | some m =>
          rw [hm] at hr
          have := row_spec pre 0 hr i a (by rw [List.getElem?_append_left (by omega)] at ha; exact ha)
          rw [Nat.zero_add] at this
          exact ⟨m, by simp, this⟩
      | succ k =>
        rw [show j + (k + 1) = j + 1 + k by omega]
        exact pairs_spec l (j + 1) (pre ++ [x]) (by simp [hp]) h' k i a b (by simpa using hk) (by omega) (by simpa using ha)
    · cases h'
theorem edges_spec : ∀ (l : List Oper) (i : Nat), edgesOk l i = true → ∀ k o, l[k]? = some o → ∀ e ∈ o.after, Region.binds .any e = true → e.on < i + k
  | [], i, h, k, o, hk => by simp at hk
  | x :: l, i, h, k, o, hk => by
    intro e he hb
    have h' : bi (x.after.toList.all fun e => bi (Region.binds .any e) (Nat.blt e.on i) true) (edgesOk l (i + 1)) false = true := h
    rw [bi_if] at h'
    split at h'
    · rename_i hx
      cases k with
      | zero =>
        simp at hk
        subst hk
        have := List.all_eq_true.1 hx e (by simpa using he)
        rw [hb] at this
        have h2 : Nat.blt e.on i = true := this
        rw [blt_dec] at h2
        simpa using h2
      | succ k =>
        have := edges_spec l (i + 1) h' k o (by simpa using hk) e he hb
        omega
    · cases h'

structure Reg (ops : Array Oper) : Prop where
  sel : Region.noSelect ops = true
  edges : ∀ k o, ops[k]? = some o → ∀ e ∈ o.after, Region.binds .any e = true → e.on < k
  once : ∀ (i j : Nat) (a b : Oper) (d : Tmp), ops[i]? = some a → ops[j]? = some b → a.dst = some d → b.dst = some d → i = j
  pair : ∀ (i j : Nat) (a b : Oper), ops[i]? = some a → ops[j]? = some b → i < j → ∃ m, (musts ops.toList [])[j]? = some m ∧ (bit m i = true ∨ (Oper.apart ops a b = true ∧ (isEff a && isEff b) = false))
theorem regOk_spec {ops : Array Oper} (h : regOk ops = true) : Reg ops := by
  simp only [regOk, Bool.and_eq_true] at h
  obtain ⟨h1, h2, h3, h4, h5⟩ := h
  refine ⟨h1, fun k o ho e he hb => ?_, fun i j a b d ha hb hda hdb => (once_spec _ _ h3).2 i j a b d (by simpa using ha) (by simpa using hb) hda hdb, fun i j a b ha hb hij => ?_⟩
  · have := edges_spec _ _ h2 k o (by simpa using ho) e he hb
    omega
  · obtain ⟨m, hm, hp⟩ := pairs_spec ops.toList 0 [] rfl h5 j i a b (by simpa using hb) (by omega) (by simpa using ha)
    rw [Nat.zero_add] at hm
    refine ⟨m, hm, ?_⟩
    simp only [pairOk, Bool.or_eq_true, Bool.and_eq_true, Bool.not_eq_true'] at hp
    exact hp

/-- what must lie ahead comes ahead in the text -/
theorem must_lt {ops : Array Oper} (hr : Reg ops) {i : Nat} {o : Oper} {m : Nat} (ho : ops[i]? = some o) (hm : (musts ops.toList [])[i]? = some m) {j : Nat} (hb : bit m j = true) : j < i := by
  have h : ∀ k, k < i → (fun x => x < i) k := fun k hk => hk
  refine ahead (L := fun x => x < i) (fun k ok hk hok e he hbd => ?_) i o m ho hm (fun e he hbd => hr.edges i o ho e he hbd) j hb
  have := hr.edges k ok hok e he hbd
  omega
theorem eqA_eq {a b : Value} (h : eqA a b = true) : a = b := by
  unfold eqA at h
  split at h
  · simpa using h
  · simp only [Bool.and_eq_true, decide_eq_true_eq, eqI_eq] at h; rw [h.1, h.2]
  · simpa using h
  · rfl
  · simp only [Bool.and_eq_true, beq_eq, decide_eq_true_eq] at h; rw [h.1, h.2]
  · simp only [Bool.and_eq_true, beq_eq, decide_eq_true_eq] at h; rw [h.1, h.2]
  · simp only [Bool.and_eq_true, beq_eq, decide_eq_true_eq] at h; rw [h.1, h.2.1, h.2.2.1, h.2.2.2]
  · rfl
  · rename_i f a c g b d
    simp only [Bool.and_eq_true, beq_eq, decide_eq_true_eq] at h
    obtain ⟨rfl, h1, h2, h3, h4⟩ := h
    rw [Array.eq_empty_of_size_eq_zero h1, Array.eq_empty_of_size_eq_zero h2, Array.eq_empty_of_size_eq_zero h3, Array.eq_empty_of_size_eq_zero h4]
  · rename_i f a c g b d
    simp only [Bool.and_eq_true, beq_eq, decide_eq_true_eq] at h
    obtain ⟨rfl, h1, h2, h3, h4⟩ := h
    rw [Array.eq_empty_of_size_eq_zero h1, Array.eq_empty_of_size_eq_zero h2, Array.eq_empty_of_size_eq_zero h3, Array.eq_empty_of_size_eq_zero h4]
  · cases h
theorem eqAs_eq : ∀ (l r : List Value), eqAs l r = true → l = r
  | [], r, h => by
    have h' : Nat.beq r.length 0 = true := h
    exact (List.eq_nil_of_length_eq_zero (Nat.eq_of_beq_eq_true h')).symm
  | v :: l, [], h => by cases h
  | v :: l, u :: r, h => by
    have h' : bi (eqA v u) (eqAs l r) false = true := h
    rw [bi_if] at h'
    split at h'
    · rename_i e; rw [eqA_eq e, eqAs_eq l r h']
    · cases h'
theorem eqV_eq {a b : Value} (h : eqV a b = true) : a = b := by
  unfold eqV at h
  split at h
  · rw [Array.toList_inj.1 (eqAs_eq _ _ h)]
  · exact eqA_eq h
theorem sameV_eq {o : Option Value} {v : Value} (h : sameV o v = true) : o = some v := by
  cases o with
  | none => cases h
  | some u => rw [eqV_eq (a := u) (b := v) h]

end Ev
end Go.Proofs.Ytagpaoglcjcaeaa
