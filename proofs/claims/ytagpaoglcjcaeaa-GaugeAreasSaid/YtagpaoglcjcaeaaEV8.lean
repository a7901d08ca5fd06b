import Derived.Test.YtagpaoglcjcaeaaEV7
set_option linter.unusedSimpArgs false
set_option linter.unusedVariables false
namespace Go.Proofs.Ytagpaoglcjcaeaa
namespace Ev

section
variable {P : Program} {B : Nat} {M : Mp} {e : Operand → Option Value} {ρ : Operand → Value} {o : Oper} {hp : T AObj} {nid : Nat} {w : World} {r : OR}

theorem ok_call {c : Call} (ho : o.op = .call c) (h : oCall c P e o hp nid = some r) (he : ERel M e ρ) (hh : HRel P B M hp.get w) (hB : B ≤ w.heap.size) (hn : nid < topOf nid r → M nid = none) :
    NOk P B M hp nid w ((execOp ρ o).run P w) r := by
  have h1 : evCall P e o c hp nid = some r := h
  clear h
  obtain ⟨callee, args, at_⟩ := c
  have hsel : ∀ cs b, o.op ≠ .select cs b := fun cs b hx => by rw [ho] at hx; cases hx
  unfold evCall at h1
  split at h1
  · rename_i f hf
    simp only at hf
    subst hf
    exact ok_callV ho h1 he
  · cases h1
  · rename_i hf
    simp only at hf
    subst hf
    replace h1 := ob_some h1
    obtain ⟨s, hs, h1⟩ := h1
    replace h1 := ob_some h1
    obtain ⟨x, hx, h1⟩ := h1
    replace h1 := ob_some h1
    obtain ⟨sv, hsv, h1⟩ := h1
    replace h1 := ob_some h1
    obtain ⟨xv, hxv, h1⟩ := h1
    replace h1 := ck_some h1
    obtain ⟨hl, h1⟩ := h1
    have hl := Nat.eq_of_beq_eq_true hl
    have hargs : args = #[s, x] := by
      apply Array.ext'
      apply List.ext_getElem?
      intro k
      match k with
      | 0 => simpa using hs
      | 1 => simpa using hx
      | k + 2 => rw [List.getElem?_eq_none (by simp at hl ⊢; omega)]; simp
    subst hargs
    have := ok_append (ty := o.type) h1 (he s _ hsv) (he x _ hxv) hh hB hn
    unfold execOp
    rw [ho]
    simp only [resolve, Sem.run_bind, Sem.run_pure, Result.andThen_ok, invoke, builtin, List.map_toArray, List.map_cons, List.map_nil]
    simpa only [Sem.run_bind, Sem.run_pure] using this
  · rename_i hf
    simp only at hf
    subst hf
    exact ok_len ho h1 he
  · exact ok_flat hsel h1 he

/-- a bound that is told, or what stands for it -/
def OptRel (x : Option Value) (d n : Nat) : Prop := x = none ∧ n = d ∨ x = some (.int .i64 (n : Int))
theorem optN_rel {x : Option Operand} {d n : Nat} (h : optN e x d = some n) (he : ERel M e ρ) : OptRel (x.map ρ) d n ∧ (x.map ρ).isSome = x.isSome ∧ (x.map ρ).isNone = x.isNone := by
  cases x with
  | none => cases h; exact ⟨.inl ⟨rfl, rfl⟩, rfl, rfl⟩
  | some x =>
    have h : (ob (e x) fun v => withNat v fun n => some n) = some n := h
    obtain ⟨v, hv, h⟩ := ob_some h
    obtain ⟨k, rfl, h⟩ := withNat_some h
    cases h
    have hr := he x _ hv
    refine ⟨.inr ?_, rfl, rfl⟩
    show some (ρ x) = _
    generalize ρ x = y at hr
    cases hr
    rfl
theorem run_sliceBounds {s : Bool} {n c l h m : Nat} {lo hi mx : Option Value} (h1 : OptRel lo 0 l) (h2 : OptRel hi n h) (h3 : OptRel mx c m) (hx : (hi.isSome || mx.isNone) = true) (a : l ≤ h) (b : h ≤ m) (d : m ≤ c) :
    (Instr.sliceBounds s n c lo hi mx).run P w = .ok (l, h, m) w := by
  have bound : ∀ (x y : Nat) (cd : BoundsCode), x ≤ y → (Instr.sliceBound (.int .i64 (x : Int)) y cd).run P w = .ok x w := fun x y cd hxy => by
    have h0 : (0 : Int) ≤ (x : Int) ∧ (x : Int) ≤ (y : Int) := by omega
    simp [Instr.sliceBound, asIntOf, h0]
  rcases h3 with ⟨rfl, rfl⟩ | rfl
  · rcases h2 with ⟨rfl, rfl⟩ | rfl
    · rcases h1 with ⟨rfl, rfl⟩ | rfl
      · simp [Instr.sliceBounds]
      · simp [Instr.sliceBounds, Sem.run_bind, bound l h _ a]
    · rcases h1 with ⟨rfl, rfl⟩ | rfl
      · simp [Instr.sliceBounds, Sem.run_bind, bound h m _ b]
      · simp [Instr.sliceBounds, Sem.run_bind, bound h m _ b, bound l h _ a]
  · rcases h2 with ⟨rfl, rfl⟩ | rfl
    · cases hx
    · rcases h1 with ⟨rfl, rfl⟩ | rfl
      · simp [Instr.sliceBounds, Sem.run_bind, bound m c _ d, bound h m _ b]
      · simp [Instr.sliceBounds, Sem.run_bind, bound m c _ d, bound h m _ b, bound l h _ a]
theorem run_cutArr {t el : TypeId} {n sz l h m : Nat} {b off : Nat} {lo hi mx : Option Value} (hu : P.underlying t = some (.array n el)) (hn : sizeT P el = some sz) (hb : (Instr.sliceBounds false n n lo hi mx).run P w = .ok (l, h, m) w) :
    (Instr.sliceAt t (.pointer (some ⟨b, off, none⟩)) lo hi mx).run P w = .ok (.slice (some ⟨b, bi (Nat.beq m l) off (off + l * sz), none⟩) (h - l) (m - l)) w := by
  simp only [Instr.sliceAt, Sem.run_bind, run_underlying hu w, Result.andThen_ok, Instr.sureAddr, Sem.run_pure, hb, run_sizeT hn, bi_if, beq_eq, decide_eq_true_eq]
  by_cases e : m = l <;> simp [e, Addr.add_lit]
theorem run_cutSl {t el : TypeId} {n c sz l h m : Nat} {b off : Nat} {lo hi mx : Option Value} (hu : P.underlying t = some (.slice el)) (hn : sizeT P el = some sz) (hb : (Instr.sliceBounds true n c lo hi mx).run P w = .ok (l, h, m) w) :
    (Instr.sliceAt t (.slice (some ⟨b, off, none⟩) n c) lo hi mx).run P w = .ok (.slice (some ⟨b, bi (Nat.beq m l) off (off + l * sz), none⟩) (h - l) (m - l)) w := by
  simp only [Instr.sliceAt, Instr.slice, Sem.run_bind, run_underlying hu w, Result.andThen_ok, Sem.run_pure, hb, run_sizeT hn, bi_if, beq_eq, decide_eq_true_eq]
  by_cases e : m = l <;> simp [e, Addr.add_lit]
theorem ok_slice {t : TypeId} {x : Operand} {lo hi mx : Option Operand} (ho : o.op = .slice t x lo hi mx) (h : oSlice t x lo hi mx P e o hp nid = some r) (he : ERel M e ρ) : NOk P B M hp nid w ((execOp ρ o).run P w) r := by
  have h : evSlice P e o t x lo hi mx = some r := h
  obtain ⟨v, hv, h⟩ := ob_some h
  rcases bi_some h with ⟨_, h2⟩ | ⟨_, h2⟩ <;> clear h
  · exact ok_flat (by rw [ho]; intro cs b hx; cases hx) h2 he
  obtain ⟨l, hl, h3⟩ := ob_some h2
  obtain ⟨hx, h4⟩ := ck_some h3
  obtain ⟨r1, _, _⟩ := optN_rel hl he
  have hr := he x _ hv
  unfold execOp
  rw [ho]
  simp only
  cases ha : arrT P t with
  | some a =>
    rw [ha] at h4
    have h4 : cutAr P e v hi mx l a = some r := h4
    obtain ⟨sz, hsz, h5⟩ := ob_some h4
    obtain ⟨b, off, rfl, h6⟩ := withPtr_some h5
    obtain ⟨h, hh, h7⟩ := ob_some h6
    obtain ⟨m, hm, h8⟩ := ob_some h7
    obtain ⟨hck, h9⟩ := ck_some h8
    cases h9
    simp only [Bool.and_eq_true] at hck
    have c1 := Nat.le_of_ble_eq_true hck.1
    have c2 := Nat.le_of_ble_eq_true hck.2.1
    have c3 := Nat.le_of_ble_eq_true hck.2.2.1
    have c4 := Nat.le_of_ble_eq_true hck.2.2.2
    obtain ⟨r2, i2, _⟩ := optN_rel hh he
    obtain ⟨r3, _, i3⟩ := optN_rel hm he
    generalize ρ x = y at hr
    cases hr with
    | @ptr _ b' rr _ hb =>
      have hrun := run_cutArr (b := b') (off := off) (arrT_some ha) hsz (run_sliceBounds (w := w) r1 r2 r3 (by rw [i2, i3]; exact hx) c1 c2 c3)
      refine ⟨_, by rw [Sem.run_bind, hrun]; rfl, .slc hb ?_⟩
      show m - l ≠ OPEN
      simp only [OPEN]; omega
  | none =>
    rw [ha] at h4
    have h4 : cutSl P e t v hi mx l = some r := h4
    obtain ⟨el, hel, h4⟩ := ob_some h4
    obtain ⟨sz, hsz, h5⟩ := ob_some h4
    rcases withSlc_some h5 with ⟨_, _, _, h6⟩ | ⟨b, off, n, c, rfl, h6⟩
    · cases h6
    obtain ⟨h, hh, h7⟩ := ob_some h6
    obtain ⟨m, hm, h8⟩ := ob_some h7
    obtain ⟨r2, i2, _⟩ := optN_rel hh he
    obtain ⟨r3, _, i3⟩ := optN_rel hm he
    have hu := elemT_some hel
    rcases bi_some h8 with ⟨ho1, h9⟩ | ⟨ho1, h9⟩
    · obtain ⟨hck, h10⟩ := ck_some h9
      cases h10
      simp only [Bool.and_eq_true] at hck ho1
      have c1 := Nat.eq_of_beq_eq_true hck.1
      have c2 := Nat.eq_of_beq_eq_true hck.2.1
      have c3 := Nat.le_of_ble_eq_true hck.2.2
      have c4 := Nat.eq_of_beq_eq_true ho1.1
      subst c1 c2 c4
      have hmn : mx.map ρ = none := by cases mx with
        | none => rfl
        | some z => cases ho1.2
      generalize ρ x = y at hr
      cases hr with
      | slc _ hne => exact absurd rfl hne
      | @slo _ b' rr _ hb hnr =>
        have hrun := run_cutSl (b := b') (off := 0) (c := rr) (n := n) hu hsz (run_sliceBounds (w := w) (m := rr) r1 r2 (.inl ⟨hmn, rfl⟩) (by rw [i2, i3]; exact hx) (Nat.zero_le _) (Nat.le_trans c3 hnr) (Nat.le_refl _))
        have e0 : bi (Nat.beq rr 0) 0 (0 + 0 * sz) = 0 := by rw [bi_if]; simp
        rw [e0] at hrun
        exact ⟨_, by rw [Sem.run_bind, hrun]; rfl, .slo hb (Nat.le_trans c3 hnr)⟩
    · obtain ⟨hck, h10⟩ := ck_some h9
      cases h10
      simp only [Bool.and_eq_true] at hck
      have c1 := Nat.le_of_ble_eq_true hck.1
      have c2 := Nat.le_of_ble_eq_true hck.2.1
      have c3 := Nat.le_of_ble_eq_true hck.2.2.1
      have c4 := Nat.le_of_ble_eq_true hck.2.2.2
      have hne : m - l ≠ OPEN := by simp only [OPEN]; omega
      generalize ρ x = y at hr
      cases hr with
      | @slc _ b' rr _ _ _ hb hc =>
        have c3 : m ≤ c := by
          rw [beq_eq, decide_eq_false hc] at c3
          exact c3
        have hrun := run_cutSl (b := b') (off := off) hu hsz (run_sliceBounds (w := w) r1 r2 r3 (by rw [i2, i3]; exact hx) c1 c2 c3)
        exact ⟨_, by rw [Sem.run_bind, hrun]; rfl, .slc hb hne⟩
      | @slo _ b' rr _ hb hnr =>
        have c3 : m ≤ n := c3
        have r3' : OptRel (mx.map ρ) rr m := by
          cases mx with
          | none => exact absurd ho1 (by simp [beq_eq])
          | some z => exact r3.elim (fun q => by cases q.1) .inr
        have hrun := run_cutSl (b := b') (off := 0) (c := rr) (n := n) hu hsz (run_sliceBounds (w := w) r1 r2 r3' (by rw [i2, i3]; exact hx) c1 c2 (Nat.le_trans c3 hnr))
        exact ⟨_, by rw [Sem.run_bind, hrun]; rfl, .slc hb hne⟩

theorem ok_op (h : evOp P e o hp nid = some r) (he : ERel M e ρ) (hh : HRel P B M hp.get w) (hB : B ≤ w.heap.size) (hn : nid < topOf nid r → M nid = none) :
    NOk P B M hp nid w ((execOp ρ o).run P w) r := by
  have h1 : opSel o.op P e o hp nid = some r := h
  clear h
  have hnew : ∀ v ob, r = .new v ob → M nid = none := fun v ob hr => hn (by rw [hr]; simp [topOf])
  have hx : ∀ op, o.op = op → opSel op P e o hp nid = some r → NOk P B M hp nid w ((execOp ρ o).run P w) r := by
    intro op ho h1
    cases op
    case select cs b => cases h1
    case move x => unfold execOp; rw [ho]; exact ok_move (o := o) h1 he
    case assign x => unfold execOp; rw [ho]; exact ok_move (o := o) h1 he
    case extract x ix => unfold execOp; rw [ho]; exact ok_extract (o := o) h1 he
    case field s x f => unfold execOp; rw [ho]; exact ok_field (o := o) h1 he
    case load t x => unfold execOp; rw [ho]; exact ok_load (o := o) h1 he hh
    case store t x y => unfold execOp; rw [ho]; exact ok_store (o := o) h1 he hh
    case alloc t =>
      have h2 : oAlloc t P e o hp nid = some r := h1
      have hM : M nid = none := by
        obtain ⟨v, _, h3⟩ := ob_some h2
        cases h3
        exact hnew _ _ rfl
      unfold execOp; rw [ho]; exact ok_alloc (o := o) (e := e) h1 hM
    case box t x =>
      have h2 : oBox t x P e o hp nid = some r := h1
      have hM : M nid = none := by
        obtain ⟨v, _, h3⟩ := ob_some h2
        obtain ⟨_, h4⟩ := ck_some h3
        cases h4
        exact hnew _ _ rfl
      unfold execOp; rw [ho]; exact ok_box (o := o) h1 he hM
    case build t parts => unfold execOp; rw [ho]; exact ok_build (o := o) h1 he
    case buildSlice t len parts =>
      have h2 : oBuildSlice t len parts P e o hp nid = some r := h1
      have hM : M nid = none := by
        obtain ⟨_, _, h3⟩ := ob_some h2
        obtain ⟨_, _, h3⟩ := ob_some h3
        obtain ⟨_, _, h3⟩ := ob_some h3
        obtain ⟨_, _, h3⟩ := ob_some h3
        obtain ⟨_, h3⟩ := ck_some h3
        obtain ⟨_, _, h3⟩ := ob_some h3
        obtain ⟨_, h3⟩ := ck_some h3
        cases h3
        exact hnew _ _ rfl
      unfold execOp; rw [ho]; exact ok_buildSlice (o := o) h1 he hM
    case makeSlice t l c =>
      have h2 : oMakeSlice t l c P e o hp nid = some r := h1
      have hM : M nid = none := by
        obtain ⟨_, _, h3⟩ := ob_some h2
        obtain ⟨_, _, h3⟩ := ob_some h3
        obtain ⟨_, _, h3⟩ := ob_some h3
        obtain ⟨_, _, h3⟩ := ob_some h3
        obtain ⟨_, _, h3⟩ := withNat_some h3
        obtain ⟨_, _, h3⟩ := withNat_some h3
        obtain ⟨_, _, h3⟩ := ob_some h3
        obtain ⟨_, h3⟩ := ck_some h3
        cases h3
        exact hnew _ _ rfl
      unfold execOp; rw [ho]; exact ok_makeSlice (o := o) h1 he hM
    case fieldAddr s x f => unfold execOp; rw [ho]; exact ok_fieldAddr (o := o) h1 he
    case indexAddr t x ix => unfold execOp; rw [ho]; exact ok_indexAddr (o := o) h1 he
    case nilCheck x => exact ok_nilCheck ho h1 he
    case makeFunc fn first captured => unfold execOp; rw [ho]; exact ok_makeFunc (o := o) h1 he
    case call c => exact ok_call ho h1 he hh hB hn
    case slice t x lo hi mx => exact ok_slice ho h1 he
    case binOp op t x y yt => exact ok_bin ho h1 he
    all_goals exact ok_flat (by rw [ho]; intro cs b hx; cases hx) h1 he
  exact hx o.op rfl h1
end
end Ev
end Go.Proofs.Ytagpaoglcjcaeaa
