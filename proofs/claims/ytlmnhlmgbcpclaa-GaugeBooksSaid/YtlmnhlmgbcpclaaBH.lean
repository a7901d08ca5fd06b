/- The law GaugeBooks of any input. -/
import Derived.Test.YtlmnhlmgbcpclaaBG
import Derived.Test.YtlmnhlmgbcpclaaSE
set_option linter.unusedVariables false
set_option linter.unusedSimpArgs false
namespace Go.Proofs.Ytlmnhlmgbcpclaa
open Go.RowKit
namespace Sy
open Go.RowKit

theorem okMark : ∀ t ∈ [((32 : Nat), (2 : Nat))], ∀ (xs ys : List Int) (x y : Operand) (w : World), xs.length = t.2 → ys.length = t.2 → ((do eqGuard .eql t.1 x y (.agg (xs.map fun z => Value.int .i64 z).toArray) (.agg (ys.map fun z => Value.int .i64 z).toArray); binOp .eql t.1 (.agg (xs.map fun z => Value.int .i64 z).toArray) (.agg (ys.map fun z => Value.int .i64 z).toArray)) : Sem Value).run Try.prog w = .ok (.bool (decide (xs = ys))) w ∧
    ((do eqGuard .neq t.1 x y (.agg (xs.map fun z => Value.int .i64 z).toArray) (.agg (ys.map fun z => Value.int .i64 z).toArray); binOp .neq t.1 (.agg (xs.map fun z => Value.int .i64 z).toArray) (.agg (ys.map fun z => Value.int .i64 z).toArray)) : Sem Value).run Try.prog w = .ok (.bool (!decide (xs = ys))) w := by
  intro t ht xs ys x y w hx hy
  simp only [List.mem_singleton] at ht
  subst ht
  match xs, ys, hx, hy with
  | [a, b], [c, d], _, _ =>
    refine ⟨?_, ?_⟩
    · go_simp
      by_cases h1 : a = c <;> by_cases h2 : b = d <;> simp [h1, h2]
    · go_simp
      by_cases h1 : a = c <;> by_cases h2 : b = d <;> simp [h1, h2]
section
variable {B : Bk} {ot : Nat → Int}
theorem bk_cps (h : BkOk B) : ∀ x ∈ [((1 : Nat), (61 : Nat)), (2, 62)], x.2 < 200 ∧ ∀ n : Nat, (DB B ot nu0).int (1000 + x.1) [] = n → n ≤ 1000000 ∧ ∀ (fs : List (Nat × Nat)), famOf bookFams x.1 = some fs → ∀ (cs : Array Value) (e : TypeId) (fr : Nat × Nat),
    (∀ (k j : Nat) (f : Nat × Nat), k < n → fs[j]? = some f → cs[k * fs.length + j]? = some (formV (DB B ot nu0) f [(k : Int)])) → (DB B ot nu0).obj x.2 [] (.cells cs e fr) := by
  intro x hx
  simp only [List.mem_cons, List.not_mem_nil, or_false] at hx
  rcases hx with rfl | rfl
  · refine ⟨by decide, fun n hn => ?_⟩
    obtain ⟨sa, cap, e, _⟩ := h.r
    have hl : (DB B ot nu0).int 1001 [] = lenV B.vr := famD_len (c := 1) (by decide) []
    have hn : (DB B ot nu0).int 1001 [] = (n : Int) := hn
    have hn : (n : Int) = (B.n : Int) := by rw [← hn, hl, e]; rfl
    obtain rfl : n = B.n := by omega
    refine ⟨h.rn, fun fs hfs cs e fr hc => ?_⟩
    obtain rfl := Option.some.inj hfs
    refine ⟨cs, e, fr, rfl, fun i j hi hj => ?_⟩
    match j, hj with
    | 0, _ => exact hc i 0 _ hi rfl
    | 1, _ => exact hc i 1 _ hi rfl
    | 2, _ => exact hc i 2 _ hi rfl
    | 3, _ => exact hc i 3 _ hi rfl
  · refine ⟨by decide, fun n hn => ?_⟩
    obtain ⟨sa, cap, e, _⟩ := h.m
    have hl : (DB B ot nu0).int 1002 [] = lenV B.vm := famD_len (c := 2) (by decide) []
    have hn : (DB B ot nu0).int 1002 [] = (n : Int) := hn
    have hn : (n : Int) = (B.m : Int) := by rw [← hn, hl, e]; rfl
    obtain rfl : n = B.m := by omega
    refine ⟨h.mn, fun fs hfs cs e fr hc => ?_⟩
    obtain rfl := Option.some.inj hfs
    refine ⟨cs, e, fr, rfl, fun i j hi hj => ?_⟩
    match j, hj with
    | 0, _ => exact hc i 0 _ hi rfl
    | 1, _ => exact hc i 1 _ hi rfl
    | 2, _ => exact hc i 2 _ hi rfl
    | 3, _ => exact hc i 3 _ hi rfl
noncomputable def pgG (h : BkOk B) (ot : Nat → Int) (l : List Fact) (h1 : AllL (OkFc (DB B ot nu0)) l) : Pg :=
  { toPd := pdG l, den := DB B ot nu0, ok := h1.mem, okFam := bk_fam h, okSeq := fun t h => absurd h List.not_mem_nil, okSl := fun _ => famD_sl, okEq := okMark, okEqh := fun t h => absurd h List.not_mem_nil, okStr := fun t h => absurd h List.not_mem_nil, okExt := fun t h => absurd h List.not_mem_nil, okCps := bk_cps h }
def R0 : List Rs := []
/-- what a call is known to answer, out of a run without loops -/
theorem entG (h : BkOk B) {l : List Fact} {es : List Ent} {f : Nat} {ps : List Pt} {v : Value} (hrun : runG f l es ps = some v) (h1 : AllL (OkFc (DB B ot nu0)) l) (hes : ∀ P : Pg, P.prog = Try.prog → P.den = DB B ot nu0 → AllL (EntOk P) es) (hnw : ∀ e ∈ es, nwR e.res) (hv : noId 9 v = true) (hl : (ptObjs ps).length ≤ 3) (hnum : (ptObjs ps).all numO = true)
    {P : Pg} (hp : P.prog = Try.prog) (hd : P.den = DB B ot nu0) : EntOk P ⟨f, ps, .v v⟩ :=
  EntOk.congr (P := pgG h ot l h1) (P' := P) hd hp (run_entQ (P := pgG h ot l h1) (Q := pdG l) (m := 0) (tb := []) rfl hmB ⟨ok_spEnts (hes _ rfl rfl).mem hnw, rfl⟩ hrun hv hl hnum)
/-- the checks of NetOf -/
def netR (B : Bk) (ot : Nat → Int) : Int × Int :=
  if nameB B.c = false then (0, 4) else if numE (ot 2) 0 100000 ≠ 0 then (0, 2) else if numE (ot 3) 0 100000 ≠ 0 then (0, 2) else if ot 3 < ot 2 then (0, 9) else (netF B.y B.c (ot 2) (ot 3) B.m 0 0, 0)
/-- what the holes stand for -/
structure OtOk (B : Bk) (ot : Nat → Int) : Prop where
  bk : bookV B.lo B.hi B.n B.m B.x B.y = .tuple #[.agg #[.int .i64 (ot 11), .int .i64 (ot 12)], .int .i64 (ot 13)]
  h14 : ot 14 = unlE (nameB B.c) 4
  h15 : ot 15 = numE (ot 2) 0 100000
  h16 : ot 16 = numE (ot 3) 0 100000
  h17 : ot 17 = netF B.y B.c (ot 2) (ot 3) B.m 0 0
  h18 : ot 18 = (netR B ot).1
  h19 : ot 19 = (netR B ot).2
theorem netEs_ok (h : BkOk B) (h1 : B.n ≤ 100000) (h2 : B.m ≤ 100000) (o : OtOk B ot) (P : Pg) (hp : P.prog = Try.prog) (hd : P.den = DB B ot nu0) : AllL (EntOk P) netEs :=
  ⟨z_CBc h h1 h2 hp hd o.bk, z_Nm hp hd o.h14, z_D0 hp hd o.h15, z_D1 hp hd o.h16, z_Net h h2 hp hd o.h17, trivial⟩
theorem refEs_ok (h : BkOk B) (o : OtOk B ot) {b : Bool} (hb : nameB B.c = b) (P : Pg) (hp : P.prog = Try.prog) (hd : P.den = DB B ot nu0) : AllL (EntOk P) (refEs b) :=
  ⟨z_IN hp hd hb, z_R0 hp hd o.h15, z_R1 hp hd o.h16, ent_rnet h o.h17 hp hd, trivial⟩
theorem nwNet : ∀ e ∈ netEs, nwR e.res := fun e he => by
  simp only [netEs, List.mem_cons, List.not_mem_nil, or_false] at he
  rcases he with rfl | rfl | rfl | rfl | rfl <;> trivial
theorem nwRef (b : Bool) : ∀ e ∈ refEs b, nwR e.res := fun e he => by
  simp only [refEs, List.mem_cons, List.not_mem_nil, or_false] at he
  rcases he with rfl | rfl | rfl | rfl <;> trivial
/-! The runs. -/
theorem n_E (b : Bool) : runG fNO [nz hE, ord b] netEs psNO = some (tp (li 0) hE) := by cases b <;> kernel_rfl
theorem n_4 (b : Bool) : runG fNO [z hE, nz (ho 14), ord b] netEs psNO = some (tp (li 0) (ho 14)) := by cases b <;> kernel_rfl
theorem n_5 (b : Bool) : runG fNO [z hE, z (ho 14), nz (ho 15), ord b] netEs psNO = some (tp (li 0) (ho 15)) := by cases b <;> kernel_rfl
theorem n_6 (b : Bool) : runG fNO [z hE, z (ho 14), z (ho 15), nz (ho 16), ord b] netEs psNO = some (tp (li 0) (ho 16)) := by cases b <;> kernel_rfl
theorem n_9 : runG fNO [z hE, z (ho 14), z (ho 15), z (ho 16), ord false] netEs psNO = some (tp (li 0) (li 9)) := by kernel_rfl
theorem n_0 : runG fNO [z hE, z (ho 14), z (ho 15), z (ho 16), ord true] netEs psNO = some (tp (ho 17) (li 0)) := by kernel_rfl
theorem r_4 : runG fRN [] (refEs false) psRN = some (tp (li 0) (li 4)) := by kernel_rfl
theorem r_5 : runG fRN [nz (ho 15)] (refEs true) psRN = some (tp (li 0) (li 2)) := by kernel_rfl
theorem r_6 : runG fRN [z (ho 15), nz (ho 16)] (refEs true) psRN = some (tp (li 0) (li 2)) := by kernel_rfl
theorem r_9 : runG fRN [z (ho 15), z (ho 16), (1, h3, h2, true)] (refEs true) psRN = some (tp (li 0) (li 9)) := by kernel_rfl
theorem r_0 : runG fRN [z (ho 15), z (ho 16), (1, h3, h2, false)] (refEs true) psRN = some (tp (ho 17) (li 0)) := by kernel_rfl
def l0 : List Ent := [eFew false]
def l1 : List Ent := [eFew true]
def l2 : List Ent := [eFew true, eCBc, eNO (tp (li 0) hE), eRC]
def l3 : List Ent := [eFew true, eCBc, eNO (tp (ho 18) (ho 19)), eRC, eRN (tp (ho 18) (ho 19))]
theorem g_0 : runL [] l0 = some (.bool true) := by kernel_rfl
theorem g_1 : runL [lnC true] l1 = some (.bool true) := by kernel_rfl
theorem g_2 : runL [lnC false, same hE, nz hE] l2 = some (.bool true) := by kernel_rfl
theorem g_3 : runL [lnC false, same hE, z hE, same (ho 18), same (ho 19)] l3 = some (.bool true) := by kernel_rfl
theorem dO (o : Nat → Int) {k : Nat} (h2 : 2 ≤ k) {x : Int} (hx : o k = x) : Dv (DB B o nu0) (ho k) x := dv_ho (by
  show holB B o k = _
  unfold holB
  rw [if_neg (by omega), if_neg (by omega), hx])
theorem okOrd (o : Nat → Int) : OkFc (DB B o nu0) (ord (decide (o 2 ≤ o 3))) := ⟨_, _, dO o (by decide) rfl, dO o (by decide) rfl, rfl⟩
theorem okZ {k : Nat} (h2 : 2 ≤ k) (h : ot k = 0) : OkFc (DB B ot nu0) (z (ho k)) := eqY (dO ot h2 rfl) (dv_li 0) h
theorem okNz {k : Nat} (h2 : 2 ≤ k) (h : ot k ≠ 0) : OkFc (DB B ot nu0) (nz (ho k)) := eqN (dO ot h2 rfl) (dv_li 0) h
theorem okSame {k : Nat} (h2 : 2 ≤ k) : OkFc (DB B ot nu0) (same (ho k)) := eqY (dO ot h2 rfl) (dO ot h2 rfl) rfl
/-- the program's NetOf of a wrong book -/
theorem no_E (h : BkOk B) (h1 : B.n ≤ 100000) (h2 : B.m ≤ 100000) (o : OtOk B ot) (hE : ot 13 ≠ 0) {P : Pg} (hp : P.prog = Try.prog) (hd : P.den = DB B ot nu0) : EntOk P (eNO (tp (li 0) (ho 13))) :=
  entG (ot := ot) h (n_E _) ⟨okNz (by decide) hE, okOrd ot, trivial⟩ (netEs_ok h h1 h2 o) nwNet (by kernel_rfl) (by decide) rfl hp hd
theorem numE_2 {n : Int} (h : numE n 0 100000 ≠ 0) : numE n 0 100000 = 2 := by
  unfold numE at h ⊢
  split at h
  · exact absurd rfl h
  · rename_i h1
    rw [if_neg h1]
/-- both NetOf of a right book -/
theorem no_R (h : BkOk B) (h1 : B.n ≤ 100000) (h2 : B.m ≤ 100000) (o : OtOk B ot) (hE : ot 13 = 0) {P : Pg} (hp : P.prog = Try.prog) (hd : P.den = DB B ot nu0) : EntOk P (eNO (tp (ho 18) (ho 19))) ∧ EntOk P (eRN (tp (ho 18) (ho 19))) := by
  have d : ∀ {k : Nat} {x : Int}, 2 ≤ k → ot k = x → Dv P.den (ho k) x := fun h2 hx => dot h2 hd hx
  have o18 := o.h18
  have o19 := o.h19
  have o14 := o.h14
  have o15 := o.h15
  have o16 := o.h16
  unfold netR at o18 o19
  cases hn : nameB B.c with
  | false =>
    rw [if_pos hn] at o18 o19
    rw [hn] at o14
    have e14 : ot 14 = 4 := o14
    exact ⟨EntOk.tup2 (entG (ot := ot) h (n_4 _) ⟨okZ (by decide) hE, okNz (by decide) (by rw [e14]; decide), okOrd ot, trivial⟩ (netEs_ok h h1 h2 o) nwNet (by kernel_rfl) (by decide) rfl hp hd) (dv_li 0) (d (by decide) e14) (d (by decide) o18) (d (by decide) o19),
      EntOk.tup2 (entG (ot := ot) h r_4 trivial (refEs_ok h o hn) (nwRef _) (by kernel_rfl) (by decide) rfl hp hd) (dv_li 0) (dv_li 4) (d (by decide) o18) (d (by decide) o19)⟩
  | true =>
    rw [if_neg (by rw [hn]; decide)] at o18 o19
    rw [hn] at o14
    have e14 : ot 14 = 0 := o14
    by_cases c5 : numE (ot 2) 0 100000 = 0
    case neg =>
      rw [if_pos c5] at o18 o19
      have e15 : ot 15 = 2 := o15.trans (numE_2 c5)
      exact ⟨EntOk.tup2 (entG (ot := ot) h (n_5 _) ⟨okZ (by decide) hE, okZ (by decide) e14, okNz (by decide) (by rw [e15]; decide), okOrd ot, trivial⟩ (netEs_ok h h1 h2 o) nwNet (by kernel_rfl) (by decide) rfl hp hd) (dv_li 0) (d (by decide) e15) (d (by decide) o18) (d (by decide) o19),
        EntOk.tup2 (entG (ot := ot) h r_5 ⟨okNz (by decide) (by rw [e15]; decide), trivial⟩ (refEs_ok h o hn) (nwRef _) (by kernel_rfl) (by decide) rfl hp hd) (dv_li 0) (dv_li 2) (d (by decide) o18) (d (by decide) o19)⟩
    case pos =>
      rw [if_neg (by rw [c5]; decide)] at o18 o19
      have e15 : ot 15 = 0 := o15.trans c5
      by_cases c6 : numE (ot 3) 0 100000 = 0
      case neg =>
        rw [if_pos c6] at o18 o19
        have e16 : ot 16 = 2 := o16.trans (numE_2 c6)
        exact ⟨EntOk.tup2 (entG (ot := ot) h (n_6 _) ⟨okZ (by decide) hE, okZ (by decide) e14, okZ (by decide) e15, okNz (by decide) (by rw [e16]; decide), okOrd ot, trivial⟩ (netEs_ok h h1 h2 o) nwNet (by kernel_rfl) (by decide) rfl hp hd) (dv_li 0) (d (by decide) e16) (d (by decide) o18) (d (by decide) o19),
          EntOk.tup2 (entG (ot := ot) h r_6 ⟨okZ (by decide) e15, okNz (by decide) (by rw [e16]; decide), trivial⟩ (refEs_ok h o hn) (nwRef _) (by kernel_rfl) (by decide) rfl hp hd) (dv_li 0) (dv_li 2) (d (by decide) o18) (d (by decide) o19)⟩
      case pos =>
        rw [if_neg (by rw [c6]; decide)] at o18 o19
        have e16 : ot 16 = 0 := o16.trans c6
        by_cases c9 : ot 3 < ot 2
        · rw [if_pos c9] at o18 o19
          exact ⟨EntOk.tup2 (entG (ot := ot) h n_9 ⟨okZ (by decide) hE, okZ (by decide) e14, okZ (by decide) e15, okZ (by decide) e16, leN (dO ot (by decide) rfl) (dO ot (by decide) rfl) (by omega), trivial⟩ (netEs_ok h h1 h2 o) nwNet (by kernel_rfl) (by decide) rfl hp hd) (dv_li 0) (dv_li 9) (d (by decide) o18) (d (by decide) o19),
            EntOk.tup2 (entG (ot := ot) h r_9 ⟨okZ (by decide) e15, okZ (by decide) e16, ltY (dO ot (by decide) rfl) (dO ot (by decide) rfl) c9, trivial⟩ (refEs_ok h o hn) (nwRef _) (by kernel_rfl) (by decide) rfl hp hd) (dv_li 0) (dv_li 9) (d (by decide) o18) (d (by decide) o19)⟩
        · rw [if_neg c9] at o18 o19
          exact ⟨EntOk.tup2 (entG (ot := ot) h n_0 ⟨okZ (by decide) hE, okZ (by decide) e14, okZ (by decide) e15, okZ (by decide) e16, leY (dO ot (by decide) rfl) (dO ot (by decide) rfl) (by omega), trivial⟩ (netEs_ok h h1 h2 o) nwNet (by kernel_rfl) (by decide) rfl hp hd) (d (by decide) o.h17) (dv_li 0) (d (by decide) o18) (d (by decide) o19),
            EntOk.tup2 (entG (ot := ot) h r_0 ⟨okZ (by decide) e15, okZ (by decide) e16, ltN (dO ot (by decide) rfl) (dO ot (by decide) rfl) c9, trivial⟩ (refEs_ok h o hn) (nwRef _) (by kernel_rfl) (by decide) rfl hp hd) (d (by decide) o.h17) (dv_li 0) (d (by decide) o18) (d (by decide) o19)⟩
/-- the law, out of a run -/
theorem finG (h : BkOk B) {l : List Fact} (h1 : AllL (OkFc (DB B ot nu0)) l) {es : List Ent} (hes : ∀ P : Pg, P.prog = Try.prog → P.den = DB B ot nu0 → AllL (EntOk P) es) (hnw : ∀ e ∈ es, nwR e.res) (hrun : runL l es = some (.bool true)) :
    Calls Try.prog fGB #[.agg #[.int .i64 B.lo, .int .i64 B.hi, B.vr, B.vm], .string B.c, .agg #[.int .i64 (ot 2), .int .i64 (ot 3)]] B.w fun e w' => e = .returned (.bool true) ∧ Below B.w.heap.size B.w w' := by
  have hsp : CallOk (pgG h ot l h1) (spOr (spTrue 7) (spEnts es)) := ok_spOr (ok_spTrue awake04) (ok_spEnts (hes _ rfl rfl).mem hnw)
  have he : EntOk (pgG h ot l h1) ⟨fGB, psRN, .v (.bool true)⟩ := run_entQ (P := pgG h ot l h1) (Q := pdG l) (m := 0) (tb := []) rfl hmB ⟨hsp, rfl⟩ hrun rfl (by decide) rfl
  have hI : IsB B nu0 (pgG h ot l h1) := ⟨rfl, rfl, rfl, rfl, rfl, rfl⟩
  refine ent_calls (P := pgG h ot l h1) (args := #[.agg #[.int .i64 B.lo, .int .i64 B.hi, B.vr, B.vm], .string B.c, .agg #[.int .i64 (ot 2), .int .i64 (ot 3)]]) (w := B.w) he ?_ rel_bool
  refine show _ ∧ _ from ⟨bk_pts h hI rfl rfl, show _ ∧ _ from ⟨fun M => ?_, show _ ∧ _ from ⟨fun M => ?_, roOk_of rfl⟩⟩⟩
  · exact SDen.rel (P := pgG h ot l h1) (c := 9) (DvL.nil _)
  · exact LRel.agg (LRel.cons (Dv.vrel (P := pgG h ot l h1) (dO ot (by decide) rfl)) (LRel.cons (Dv.vrel (P := pgG h ot l h1) (dO ot (by decide) rfl)) (LRel.nil M)))
theorem dLn (o : Nat → Int) : Dv (DB B o nu0) (slenS 9 []) (B.c.size : Int) := by
  have := Dv.apL (D := DB B o nu0) (t := 2009) (by decide) (DvL.nil _)
  rwa [show (DB B o nu0).int 2009 [] = ((DB B o nu0).str 9 []).size from famD_sl 9 []] at this
theorem books_any (h : BkOk B) (d0 d1 : Int) : Calls Try.prog fGB #[.agg #[.int .i64 B.lo, .int .i64 B.hi, B.vr, B.vm], .string B.c, .agg #[.int .i64 d0, .int .i64 d1]] B.w fun e w' => e = .returned (.bool true) ∧ Below B.w.heap.size B.w w' := by
  obtain ⟨u, v, e, hbk⟩ := bookV_some B.lo B.hi B.n B.m B.x B.y
  obtain ⟨ot0, hot0⟩ : ∃ ot0 : Nat → Int, ot0 = fun k => if k = 2 then d0 else if k = 3 then d1 else 0 := ⟨_, rfl⟩
  obtain ⟨ot, hot⟩ : ∃ ot : Nat → Int, ot = fun k => if k = 2 then d0 else if k = 3 then d1 else if k = 11 then u else if k = 12 then v else if k = 13 then e else if k = 14 then unlE (nameB B.c) 4 else if k = 15 then numE d0 0 100000 else if k = 16 then numE d1 0 100000 else if k = 17 then netF B.y B.c d0 d1 B.m 0 0 else if k = 18 then (netR B ot0).1 else if k = 19 then (netR B ot0).2 else 0 := ⟨_, rfl⟩
  have e2 : ot 2 = d0 := by rw [hot]; rfl
  have e3 : ot 3 = d1 := by rw [hot]; rfl
  have eR : netR B ot = netR B ot0 := by
    unfold netR
    rw [e2, e3, show ot0 2 = d0 by rw [hot0]; rfl, show ot0 3 = d1 by rw [hot0]; rfl]
  have o : OtOk B ot := ⟨by rw [hbk, hot]; rfl, by rw [hot]; rfl, by rw [e2, hot]; rfl, by rw [e3, hot]; rfl, by rw [e2, e3, hot]; rfl, by rw [eR, hot]; rfl, by rw [eR, hot]; rfl⟩
  rw [← e2, ← e3]
  cases hf : (fewN B.n B.m && (fewR B.x B.n && fewM B.y B.m)) with
  | false =>
    refine finG h (ot := ot) (l := []) (es := l0) trivial (fun P hp hd => ⟨z_Few h hp hd hf, trivial⟩) (fun e he => ?_) g_0
    rcases List.mem_singleton.1 he with rfl
    trivial
  | true =>
    have hfn : fewN B.n B.m = true := (Bool.and_eq_true_iff.1 hf).1
    have hsm : B.n ≤ 100000 ∧ B.m ≤ 100000 := by
      unfold fewN at hfn
      simp only [Bool.and_eq_true, Bool.or_eq_true, decide_eq_true_eq] at hfn
      omega
    by_cases hc : (20 : Int) < (B.c.size : Int)
    · refine finG h (ot := ot) (l := [lnC true]) (es := l1) ⟨ltY (dv_li 20) (dLn ot) hc, trivial⟩ (fun P hp hd => ⟨z_Few h hp hd hf, trivial⟩) (fun e he => ?_) g_1
      rcases List.mem_singleton.1 he with rfl
      trivial
    have hl : OkFc (DB B ot nu0) (lnC false) := ltN (dv_li 20) (dLn ot) hc
    by_cases hE : ot 13 = 0
    · refine finG h (ot := ot) (l := [lnC false, same Sy.hE, z Sy.hE, same (ho 18), same (ho 19)]) (es := l3) ⟨hl, okSame (by decide), okZ (by decide) hE, okSame (by decide), okSame (by decide), trivial⟩
        (fun P hp hd => ⟨z_Few h hp hd hf, z_CBc h hsm.1 hsm.2 hp hd o.bk, (no_R h hsm.1 hsm.2 o hE hp hd).1, z_RC h hp hd o.bk, (no_R h hsm.1 hsm.2 o hE hp hd).2, trivial⟩) (fun e he => ?_) g_3
      simp only [l3, List.mem_cons, List.not_mem_nil, or_false] at he
      rcases he with rfl | rfl | rfl | rfl | rfl <;> trivial
    · refine finG h (ot := ot) (l := [lnC false, same Sy.hE, nz Sy.hE]) (es := l2) ⟨hl, okSame (by decide), okNz (by decide) hE, trivial⟩
        (fun P hp hd => ⟨z_Few h hp hd hf, z_CBc h hsm.1 hsm.2 hp hd o.bk, no_E h hsm.1 hsm.2 o hE hp hd, z_RC h hp hd o.bk, trivial⟩) (fun e he => ?_) g_2
      simp only [l2, List.mem_cons, List.not_mem_nil, or_false] at he
      rcases he with rfl | rfl | rfl | rfl <;> trivial
end
end Sy
end Go.Proofs.Ytlmnhlmgbcpclaa
