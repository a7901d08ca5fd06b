/- GaugeBooks: from the walk to the statement. -/
import Derived.Test.YtlmnhlmgbcpclaaO7
import Derived.Test.YtlmnhlmgbcpclaaBA
import Derived.ChangeOld
import Derived.Below
import Derived.ChangeMaps5
namespace Go.Proofs.Ytlmnhlmgbcpclaa.GaugeBooks
open Go.ChangeShapes Go.WideShapes Go.ChangeAt Go.RowKit Go.ChangeMaps
set_option linter.unusedVariables false

set_option maxRecDepth 100000 in
theorem read_book {H : Type} {enc : TypeId × Value → H} {w : World} {base : Nat} {spare : Nat → Bool} {held : Bool} {n : Nat} {cs : List Value} {y : DataW H × List MemPlace} (h : DataW.trod enc Try.prog w base spare held n 27 cs = some y) :
    ∃ (lo hi : Int) (B : Sy.Bk), cs = [.int .i64 lo, .int .i64 hi, B.vr, B.vm] ∧ B.lo = lo ∧ B.hi = hi ∧ B.w = w ∧ Sy.ListW (Sy.roW w) B.vr B.n 4 (fun i => (B.x i).at) ∧ Sy.ListW (Sy.roW w) B.vm B.m 4 (fun i => (B.y i).at) := by
  obtain ⟨ys, m, _, _, hl, _, _⟩ := DataW.trod_struct Try.underlying27 h
  rw [show Try.prog.cellsOf 27 = 4 by kernel_rfl] at hl
  match cs, hl, h with
  | [x0, x1, x2, x3], _, h =>
    obtain ⟨lo, rfl, _⟩ := leaf_int (j := 0) 8 3 (by kernel_rfl) Try.underlying3 h rfl
    obtain ⟨hi, rfl, _⟩ := leaf_int (j := 1) 8 3 (by kernel_rfl) Try.underlying3 h rfl
    obtain ⟨v2, m2, y2, e2, t2⟩ := leaf_read 8 (j := 2) (L := 24) (by kernel_rfl) h
    obtain ⟨v3, m3, y3, e3, t3⟩ := leaf_read 8 (j := 3) (L := 25) (by kernel_rfl) h
    obtain ⟨sa, n, cp, b, off, s, f, hv, hb, hc⟩ := slice_leaves (fun j => decide (j = 0)) Try.underlying24 (c := 4) (by kernel_rfl) (by decide) 8 (by
      intro j hj
      match j, hj with
      | 0, _ => exact ⟨9, by kernel_rfl, Try.underlying9⟩
      | 1, _ => exact ⟨3, by kernel_rfl, Try.underlying3⟩
      | 2, _ => exact ⟨3, by kernel_rfl, Try.underlying3⟩
      | 3, _ => exact ⟨3, by kernel_rfl, Try.underlying3⟩) t2
    obtain ⟨sb, n', cp', b', off', s', f', hv', hb', hc'⟩ := slice_leaves (fun j => decide (j = 1 ∨ j = 2)) Try.underlying25 (c := 4) (by kernel_rfl) (by decide) 8 (by
      intro j hj
      match j, hj with
      | 0, _ => exact ⟨3, by kernel_rfl, Try.underlying3⟩
      | 1, _ => exact ⟨9, by kernel_rfl, Try.underlying9⟩
      | 2, _ => exact ⟨9, by kernel_rfl, Try.underlying9⟩
      | 3, _ => exact ⟨3, by kernel_rfl, Try.underlying3⟩) t3
    have e2 : x2 = v2 := by simpa using e2
    have e3 : x3 = v3 := by simpa using e3
    have hv : v2 = .slice sa n cp := by simpa using hv
    have hv' : v3 = .slice sb n' cp' := by simpa using hv'
    refine ⟨lo, hi, ⟨lo, hi, n, n', fun i => ⟨s i 0, f i 1, f i 2, f i 3⟩, fun i => ⟨s' i 1, s' i 2, f' i 0, f' i 3⟩, .slice sa n cp, .slice sb n' cp', ⟨#[]⟩, w⟩, by rw [e2, e3, hv, hv'], rfl, rfl, rfl, ?_, ?_⟩
    · refine Sy.listW_of hb (by decide) (fun i j hi hj => (hc i j hi hj).trans (congrArg some ?_))
      match j, hj with
      | 0, _ => rfl
      | 1, _ => rfl
      | 2, _ => rfl
      | 3, _ => rfl
    · refine Sy.listW_of hb' (by decide) (fun i j hi hj => (hc' i j hi hj).trans (congrArg some ?_))
      match j, hj with
      | 0, _ => rfl
      | 1, _ => rfl
      | 2, _ => rfl
      | 3, _ => rfl
theorem agg_arr {P : Program} {w : World} {r : Reach} {base T n e : Nat} {v : Value} (hT : P.underlying T = some (.array n e)) (h : Value.okWide P w r base T v) : ∃ cs, v = .agg cs := by
  simp only [Value.okWide, hT] at h
  obtain ⟨cs, h1, _⟩ := h
  exact ⟨cs, h1⟩
set_option maxRecDepth 100000 in
theorem read_int2 {H : Type} {enc : TypeId × Value → H} {w : World} {base : Nat} {spare : Nat → Bool} {held : Bool} {n : Nat} {cs : List Value} {y : DataW H × List MemPlace} (h : DataW.trod enc Try.prog w base spare held n 28 cs = some y) :
    ∃ a b, cs = [.int .i64 a, .int .i64 b] ∧ (Lit.int .i64 a).wf = true ∧ (Lit.int .i64 b).wf = true := by
  obtain ⟨ys, m, _, _, hl, _, _⟩ := DataW.trod_array Try.underlying28 h
  rw [show Try.prog.cellsOf 28 = 2 by kernel_rfl] at hl
  match cs, hl, h with
  | [x0, x1], _, h =>
    obtain ⟨a, rfl, wa⟩ := leaf_int (j := 0) 8 3 (by kernel_rfl) Try.underlying3 h rfl
    obtain ⟨b, rfl, wb⟩ := leaf_int (j := 1) 8 3 (by kernel_rfl) Try.underlying3 h rfl
    exact ⟨a, b, rfl, wa, wb⟩
def Walk : Prop := ∀ (B : Sy.Bk) (i2 j2 : Int) (s1 : ByteArray), Sy.ListW (Sy.roW B.w) B.vr B.n 4 (fun i => (B.x i).at) → Sy.ListW (Sy.roW B.w) B.vm B.m 4 (fun i => (B.y i).at) → Calls Try.prog 3 #[.agg #[.int .i64 B.lo, .int .i64 B.hi, B.vr, B.vm], .string s1, .agg #[.int .i64 i2, .int .i64 j2]] B.w fun e w' => e = .returned (.bool true) ∧ Below B.w.heap.size B.w w'

set_option maxHeartbeats 2000000 in
set_option maxRecDepth 100000 in
theorem lifted (walk : Walk) (os : Os) (started : os.Started) (H : Type) (enc : TypeId × Value → H) :
    ReturnsInHanded {} Try.checked os 3 .any (Rows.gaugeBooksSpec.pre6 enc Try.prog Try.f3 Rows.gaugeBooksRow.domain false) (Rows.gaugeBooksSpec.post enc Try.prog Try.f3 false true false false) := by
  refine returnsInHanded_of_change (C := Try.checked) own started (by kernel_rfl) Try.func3
    (ChangeSpec.witness6 (enc := enc) (C := Try.checked) false ⟨#[], #[.agg #[.int .i64 0, .int .i64 0, .slice none 0 0, .slice none 0 0], .string ⟨#[]⟩, .agg #[.int .i64 0, .int .i64 0]], []⟩ 8 (by kernel_rfl) (by kernel_rfl) (by kernel_rfl) (by kernel_rfl)) ?_
  intro W base args ds gs before hval0 hW hcnd _
  have hval : ∀ (j : Nat) t v, Try.f3.params[j]? = some t → args[j]? = some v → Value.okWide Try.prog W .any base t v := hval0
  have hW' := hW
  obtain ⟨p, q, hA0, hV, rfl, hfz, hnd⟩ := hW
  have hA : DataW.TrodAll enc Try.prog W 0 (fun _ => true) true Try.f3.params.toList args.toList ds p := hA0
  rw [Try.params3] at hA hval
  obtain ⟨v0, vs0, d0, ds0, p0, q0, hargs, rfl, rfl, h0, r0⟩ := trodAll_cons hA
  obtain ⟨v1, vs1, d1, ds1, p1, q1, rfl, rfl, rfl, h1, r1⟩ := trodAll_cons r0
  obtain ⟨v2, vs2, d2, ds2, p2, q2, rfl, rfl, rfl, h2, r2⟩ := trodAll_cons r1
  obtain ⟨rfl, rfl, rfl⟩ := trodAll_nil r2
  obtain rfl : args = #[v0, v1, v2] := by cases args; simp_all
  obtain ⟨rfl, rfl⟩ := trodVars_none hV
  obtain ⟨c0, rfl⟩ := agg_of Try.underlying27 (hval 0 27 v0 rfl rfl)
  have k0 := h0
  have lt0 : ∀ x ∈ p0, x.block < W.heap.size := by obtain ⟨m, hm⟩ := k0; exact DataW.trod_lt m _ _ _ hm
  obtain ⟨m0, h0⟩ := h0
  obtain ⟨lo, hi, B, e0, rfl, rfl, rfl, lr, lm⟩ := read_book h0
  obtain rfl : c0 = #[.int .i64 B.lo, .int .i64 B.hi, B.vr, B.vm] := by cases c0; simp [Value.cells] at e0; simp [e0]
  obtain ⟨s1, rfl, rfl, rfl, w1⟩ := open_string Try.underlying9 (hval 1 9 v1 rfl rfl) h1
  obtain ⟨c2, rfl⟩ := agg_arr Try.underlying28 (hval 2 28 v2 rfl rfl)
  have k2 := h2
  have lt2 : ∀ x ∈ p2, x.block < B.w.heap.size := by obtain ⟨m, hm⟩ := k2; exact DataW.trod_lt m _ _ _ hm
  obtain ⟨m2, h2⟩ := h2
  obtain ⟨i2, j2, e2, _, _⟩ := read_int2 h2
  obtain rfl : c2 = #[.int .i64 i2, .int .i64 j2] := by cases c2; simp [Value.cells] at e2; simp [e2]
  clear hA0 hval0
  refine (walk B i2 j2 s1 lr lm).mono fun e W' ⟨he, bel⟩ => ?_
  subst he
  exact ⟨_, rfl, _, _, _, [], _, [], hW', trodAll_mk1 (shut_bool Try.underlying4 _), (trodAll_cons_mk (Below.trod laidOut (by kernel_rfl) (of_decide_eq_true (by kernel_rfl)) k0 bel lt0) (trodAll_cons_mk (shut_string Try.underlying9 w1) (trodAll_cons_mk (Below.trod laidOut (by kernel_rfl) (of_decide_eq_true (by kernel_rfl)) k2 bel lt2) trodAll_mk0))), rfl, bel.frame _, fun h => by cases h⟩

theorem over (walk : Walk) : Rows.GaugeBooksSaid :=
  OpenClaim.holds_of_wide 3 Try.f3 rfl rfl rfl rfl rfl rfl rfl ⟨rfl, rfl, rfl, rfl, rfl⟩ rfl rfl rfl rfl rfl (by kernel_rfl) Try.func3 (by kernel_rfl)
    (of_decide_eq_true (by kernel_rfl)) (by unfold Func.isWrapper; first | (rw [if_pos (by decide +kernel)]; kernel_rfl) | (rw [if_neg (by decide +kernel)]; exact ⟨rfl, rfl⟩))
    (fun os started H enc _ => lifted walk os started H enc)
end Go.Proofs.Ytlmnhlmgbcpclaa.GaugeBooks
