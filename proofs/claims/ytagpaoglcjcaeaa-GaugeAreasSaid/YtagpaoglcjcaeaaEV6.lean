import Derived.Test.YtagpaoglcjcaeaaEV5
import Derived.IntWalk
set_option linter.unusedSimpArgs false
set_option linter.unusedVariables false
namespace Go.Proofs.Ytagpaoglcjcaeaa
namespace Ev

section
variable {P : Program} {B : Nat} {M : Mp} {e : Operand → Option Value} {ρ : Operand → Value} {o : Oper} {hp : T AObj} {nid : Nat} {w : World} {r : OR}

set_option maxRecDepth 100000 in
theorem ok_makeSlice {t : TypeId} {l c : Operand} (h : oMakeSlice t l c P e o hp nid = some r) (he : ERel M e ρ) (hnid : M nid = none) :
    NOk P B M hp nid w (((do pure (.value (← Instr.makeSlice t (ρ l) (ρ c)))) : Sem Next).run P w) r := by
  obtain ⟨el, hel, h⟩ := ob_some h
  obtain ⟨i, hi, h⟩ := ob_some h
  obtain ⟨lv, hl, h⟩ := ob_some h
  obtain ⟨cv, hc, h⟩ := ob_some h
  obtain ⟨ln, h1l, h⟩ := withNat_some h
  obtain ⟨cn, h1c, h⟩ := withNat_some h
  subst h1l
  subst h1c
  obtain ⟨z, hz, h⟩ := ob_some h
  obtain ⟨hck, h⟩ := ck_some h
  cases h
  simp only [Bool.and_eq_true] at hck
  obtain ⟨k1, k2, k3, k4, k5⟩ := hck
  have k1 : z.cells.size = i.1 := by simpa using Nat.eq_of_beq_eq_true k1
  have k2 := Nat.le_of_ble_eq_true k2
  have k3 := Nat.le_of_ble_eq_true k3
  have k4 := Nat.le_of_ble_eq_true k4
  have k5 := Nat.le_of_ble_eq_true k5
  obtain ⟨ti, h1, h2, h3⟩ := infoT_some hi
  have hu := elemT_some hel
  have hlr := he l _ hl
  have hcr := he c _ hc
  generalize ρ l = y1 at hlr
  generalize ρ c = y2 at hcr
  cases hlr
  cases hcr
  have hzat := zeroV_atoms hz
  have w1 : IntKind.i64.wrap (ln : Int) = ln := IntWalk.i64_in _ (by omega)
  have w2 : IntKind.i64.wrap (cn : Int) = cn := IntWalk.i64_in _ (by omega)
  have hb : (ti.bytes : Int) * cn ≤ 2 ^ 48 := by
    have hm : ti.bytes * cn ≤ 100000 * 100000 := Nat.mul_le_mul (by omega) k5
    have h4 : ((ti.bytes * cn : Nat) : Int) ≤ ((100000 * 100000 : Nat) : Int) := Int.ofNat_le.2 hm
    rw [Int.natCast_mul] at h4
    have h5 : ((100000 * 100000 : Nat) : Int) ≤ 2 ^ 48 := by decide
    exact Int.le_trans h4 h5
  have hsz : (sizeOf el).run P w = .ok i.1 w := by simp [sizeOf, typeInfo, h1, h2]
  refine ⟨.slice (some ⟨w.heap.size, 0, none⟩) ln cn, .cells (zerosOf z.cells.toList cn).toArray el, ?_, .slc (Mp.upd_self _ _ _ _) (by simp only [OPEN]; omega),
    ⟨_, rfl, fun v hv => ?_, fun _ => LRel.same fun v hv => atom_same M (hzat v (zerosOf_mem _ _ _ hv)), fun hx => by cases hx⟩⟩
  · have hn1 : ¬ ((cn : Int) < 0) := by omega
    have hn2 : ¬ ((2 : Int) ^ 48 < ti.bytes * (cn : Int)) := by omega
    have hn3 : ¬ ((ln : Int) < 0) := by omega
    have hn4 : ¬ ((cn : Int) < ln) := by omega
    simp only [Instr.makeSlice, Sem.run_bind, run_underlying hu w, Result.andThen_ok, asInt, asIntOf, Sem.run_pure, typeInfo, run_program, h1, w1, w2]
    simp only [gt_iff_lt, hn1, hn2, hn3, hn4, decide_false, Bool.or_self, Bool.false_eq_true, if_false, Sem.run_bind, run_askRoom, Result.andThen_ok, hsz, Int.toNat_natCast]
    by_cases h0 : cn * i.1 = 0
    · have hc0 : cn = 0 := by
        rcases Nat.mul_eq_zero.1 h0 with h | h
        · exact h
        · omega
      subst hc0
      have e0 : ∀ f : Nat → Value, (Array.range 0).map f = #[] := fun f => by simp
      simp only [Nat.zero_mul, if_true, Sem.run_pure, Result.andThen_ok, newRow, Sem.run_bind, run_newObj, e0, zerosOf]
    · have hz0 := zerosOf_eq z.cells (by omega) cn (cn * i.1) (by rw [k1])
      rw [k1] at hz0
      simp only [if_neg h0, Sem.run_bind, run_zeroV hz, Result.andThen_ok, Sem.run_pure, k1, hz0, newRow, run_newObj]
  · have := hzat v (zerosOf_mem _ _ _ hv)
    cases v <;> first | rfl | simp [atom] at this

theorem ok_nilCheck {x : Operand} (ho : o.op = .nilCheck x) (h : oNilCheck x P e o hp nid = some r) (he : ERel M e ρ) : NOk P B M hp nid w ((execOp ρ o).run P w) r := by
  obtain ⟨v, hv, h⟩ := ob_some h
  obtain ⟨u, hu, rfl⟩ := oval_some h
  have hr := he x _ hv
  unfold execOp
  rw [ho]
  simp only
  generalize ρ x = y at hr
  unfold nilChecked at hu
  split at hu <;> cases hu
  · cases hr with
    | ptr hb => exact ⟨_, rfl, .ptr hb⟩
  · cases hr with
    | func _ ha h1 hc h2 => exact ⟨_, rfl, .func _ ha h1 hc h2⟩
theorem ok_makeFunc {fn : Fn} {first captured : Array Operand} (h : oMakeFunc fn first captured P e o hp nid = some r) (he : ERel M e ρ) :
    NOk P B M hp nid w (((do pure (.value (← Instr.makeFunc fn (first.map ρ) (captured.map ρ)))) : Sem Next).run P w) r := by
  have h : evMakeFunc e fn first captured = some r := h
  unfold evMakeFunc at h
  split at h
  · obtain ⟨a, ha, h⟩ := ob_some h
    obtain ⟨b, hb, h⟩ := ob_some h
    cases h
    have r1 := evs_rel he _ _ ha
    have r2 := evs_rel he _ _ hb
    have r1 : LRel M a.toArray.toList (first.map ρ).toList := by simpa using r1
    have r2 : LRel M b.toArray.toList (captured.map ρ).toList := by simpa using r2
    exact ⟨_, rfl, .func _ (lrel_arr.1 r1).1 (lrel_arr.1 r1).2 (lrel_arr.1 r2).1 (lrel_arr.1 r2).2⟩
  · cases h

theorem bodyOf_some {f : FuncId} {x : Func × Code} (h : bodyOf P f = some x) : P.funcs[f]? = some x.1 ∧ x.1.body = some x.2 := by
  unfold bodyOf at h
  split at h
  · rename_i fn hf
    split at h
    · rename_i c hc; cases h; exact ⟨hf, hc⟩
    · cases h
  · cases h
theorem run_callFunc {f : FuncId} {args : Array Value} (h : callable P f = true) : (callFunc f args).run P w = .ok (.enter f args) w := by
  unfold callable at h
  split at h
  · rename_i x hx
    obtain ⟨h1, h2⟩ := bodyOf_some hx
    have hne : (x.1.name == "runtime.NumGoroutine") = false := by simpa using h
    simp only [callFunc, Sem.run_bind, run_program, Result.andThen_ok, h1, hne, Bool.false_eq_true, if_false, h2, Option.isNone_some, Sem.run_pure]
  · cases h
theorem ok_callV {f : Operand} {args : Array Operand} {at_ : Array TypeId} (ho : o.op = .call { callee := .value f, args, argTypes := at_ }) (h : evCallV P e f args = some r) (he : ERel M e ρ) :
    NOk P B M hp nid w ((execOp ρ o).run P w) r := by
  replace h := ob_some h
  obtain ⟨fv, hf, h⟩ := h
  have hr := he f _ hf
  unfold execOp
  rw [ho]
  simp only [resolve]
  rcases withFn_some h with ⟨g, first, captured, ev, h1⟩ | ⟨l, first, captured, ev, h1⟩ <;> clear h <;> subst ev
  · replace h1 := ob_some h1
    obtain ⟨vs, hl, h1⟩ := h1
    obtain ⟨hc, h2⟩ := ck_some h1
    cases h2
    have hc : callable P g = true := hc
    have hlr := evs_rel he _ _ hl
    generalize ρ f = y at hr
    cases hr with
    | func g ha h1 hc1 h2 =>
      rename_i a' c'
      refine ⟨a' ++ args.map ρ ++ c', ?_, ?_, hc⟩
      · have r1 : LRel M first.toList a'.toList := lrel_arr.2 ⟨ha, h1⟩
        have r2 : LRel M captured.toList c'.toList := lrel_arr.2 ⟨hc1, h2⟩
        simp only [Array.toList_append, Array.toList_map, List.append_assoc]
        exact r1.append (hlr.append r2)
      · simp only [Deferred.ofValue, Sem.run_bind, Sem.run_pure, Result.andThen_ok, invoke, run_callFunc hc]
  · replace h1 := ob_some h1
    obtain ⟨vs, hl, h1⟩ := h1
    obtain ⟨_, h2⟩ := ck_some h1
    cases h2
    have hlr := evs_rel he _ _ hl
    generalize ρ f = y at hr
    cases hr with
    | yld hl' =>
      refine ⟨args.map ρ, ?_, _, _, hl', ?_⟩
      · simp only [Array.toList_map]
        show LRel M ([] ++ (vs ++ [])) _
        simpa using hlr
      · simp only [Deferred.ofValue, Sem.run_bind, Sem.run_pure, Result.andThen_ok, invoke, Array.empty_append]

theorem prun_run {α : Type} : ∀ (s : Sem α) (a : α), prun P s = some a → s.run P w = .ok a w
  | .pure x, a, h => by simp only [prun] at h; cases h; rfl
  | .program k, a, h => by simp only [prun] at h; exact prun_run (k P) a h
  | .load .., a, h => by simp [prun] at h
  | .store .., a, h => by simp [prun] at h
  | .new .., a, h => by simp [prun] at h
  | .shape .., a, h => by simp [prun] at h
  | .freeze .., a, h => by simp [prun] at h
  | .frozen .., a, h => by simp [prun] at h
  | .getObj .., a, h => by simp [prun] at h
  | .setObj .., a, h => by simp [prun] at h
  | .choose .., a, h => by simp [prun] at h
  | .sys .., a, h => by simp [prun] at h
  | .mark .., a, h => by simp [prun] at h
  | .halt .., a, h => by simp [prun] at h
theorem ok_flat (hs : ∀ cs b, o.op ≠ .select cs b) (h : evFlat P e o = some r) (he : ERel M e ρ) : NOk P B M hp nid w ((execOp ρ o).run P w) r := by
  obtain ⟨hf, h⟩ := ck_some h
  obtain ⟨v, hv, h⟩ := ob_some h
  obtain ⟨hfl, h⟩ := ck_some h
  cases h
  have hsame : execOp ρ o = execOp (totX e) o := by
    refine execOp_congr o hs fun x hx => ?_
    simp only [List.all_eq_true] at hf
    have h1 := hf x (by simpa using hx)
    unfold flatX at h1
    cases hex : e x with
    | none => rw [hex] at h1; cases h1
    | some u =>
      rw [hex] at h1
      have : totX e x = u := by unfold totX; rw [hex]
      rw [this]
      exact flat_eq h1 (he x u hex)
  rw [hsame]
  unfold onVal at hv
  split at hv
  · rename_i u hu
    cases hv
    exact ⟨_, prun_run _ _ hu, flat_same M hfl⟩
  · cases hv

theorem ok_len {args : Array Operand} {at_ : Array TypeId} (ho : o.op = .call { callee := .builtin .len, args, argTypes := at_ }) (h : evLen P e o args at_ = some r) (he : ERel M e ρ) :
    NOk P B M hp nid w ((execOp ρ o).run P w) r := by
  rcases bi_some h with ⟨hc, h⟩ | ⟨_, h⟩
  · obtain ⟨el, hel⟩ := Option.isSome_iff_exists.1 hc
    obtain ⟨t, ht, hel⟩ := ob_some hel
    have hu := elemT_some hel
    obtain ⟨x, hx, h⟩ := ob_some h
    obtain ⟨v, hv, h⟩ := ob_some h
    obtain ⟨hck, h⟩ := ck_some h
    have hr := he x _ hv
    have hρ : (args.map ρ)[0]? = some (ρ x) := by rw [Array.getElem?_map, hx]; rfl
    unfold execOp
    rw [ho]
    simp only [resolve, Sem.run_bind, Sem.run_pure, Result.andThen_ok, invoke, builtin, Builtin.len_, ht, hρ]
    rcases withSlc_some h with ⟨n, c, rfl, h⟩ | ⟨b, off, n, c, rfl, h⟩
    · cases h
      generalize ρ x = y at hr
      cases hr
      exact ⟨_, by simp [run_underlying hu w, goInt], .int .i64 n⟩
    · cases h
      generalize ρ x = y at hr
      cases hr
      · exact ⟨_, by simp [run_underlying hu w, goInt], .int .i64 n⟩
      · exact ⟨_, by simp [run_underlying hu w, goInt], .int .i64 n⟩
  · exact ok_flat (by rw [ho]; intro cs b hx; cases hx) h he

theorem blt_dec (a b : Nat) : Nat.blt a b = decide (a < b) := by
  cases h : Nat.blt a b with
  | true => simp [Nat.blt_eq ▸ h]
  | false =>
    have : ¬ a < b := fun hl => by rw [← Nat.blt_eq] at hl; rw [hl] at h; cases h
    simp [this]
theorem ltI_eq : ∀ a b : Int, ltI a b = decide (a < b)
  | .ofNat a, .ofNat b => by
    rw [ltI, blt_dec]
    have : (Int.ofNat a < Int.ofNat b) ↔ a < b := Int.ofNat_lt
    simp only [this]
  | .ofNat a, .negSucc b => by
    have : ¬ Int.ofNat a < Int.negSucc b := by rw [Int.negSucc_eq]; simp only [Int.ofNat_eq_natCast]; omega
    simp only [ltI, this, decide_false]
  | .negSucc a, .ofNat b => by
    have : Int.negSucc a < Int.ofNat b := by rw [Int.negSucc_eq]; simp only [Int.ofNat_eq_natCast]; omega
    simp only [ltI, this, decide_true]
  | .negSucc a, .negSucc b => by
    rw [ltI, blt_dec]
    have : (Int.negSucc a < Int.negSucc b) ↔ b < a := by rw [Int.negSucc_eq, Int.negSucc_eq]; omega
    simp only [this]
theorem eqI_eq (a b : Int) : eqI a b = decide (a = b) := by
  cases a with
  | ofNat a => cases b with
    | ofNat b =>
      rw [eqI, beq_eq]
      have : (Int.ofNat a = Int.ofNat b) ↔ a = b := ⟨fun h => by cases h; rfl, fun h => by rw [h]⟩
      simp only [this]
    | negSucc b =>
      have : ¬ Int.ofNat a = Int.negSucc b := fun h => by cases h
      simp only [eqI, this, decide_false]
  | negSucc a => cases b with
    | ofNat b =>
      have : ¬ Int.negSucc a = Int.ofNat b := fun h => by cases h
      simp only [eqI, this, decide_false]
    | negSucc b =>
      rw [eqI, beq_eq]
      have : (Int.negSucc a = Int.negSucc b) ↔ a = b := ⟨fun h => by cases h; rfl, fun h => by rw [h]⟩
      simp only [this]
theorem fitI_wrap {x : Int} (h : fitI x = true) : IntKind.i64.wrap x = x := by
  cases x with
  | ofNat a =>
    have : a < 9223372036854775808 := by simpa [fitI, Nat.blt_eq] using h
    exact IntWalk.i64_in _ (by simp; omega)
  | negSucc a =>
    have : a < 9223372036854775808 := by simpa [fitI, Nat.blt_eq] using h
    exact IntWalk.i64_in _ (by omega)
end

end Ev
end Go.Proofs.Ytagpaoglcjcaeaa
