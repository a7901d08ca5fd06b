/- The law PlanYears: runs. -/
import Derived.Test.YtdejmleboflopaaGreatYG0
set_option linter.unusedVariables false
set_option linter.unusedSimpArgs false
namespace Go.Proofs.YtdejmleboflopaaGreat
open Go.RowKit
namespace Sy
open Go.RowKit

def RunL (Y : Yr) (l : List Fact) (L : List Ent) (ps : List Pt) : Prop := ∀ ok, fstO (evDS (pgL Y l ok) (spW_ L) 2000 60 (.fn 3) (ptVals 0 ps) (memT (ptObjs ps)) 3) = some (.bool true)
def same (v : Value) : Fact := (0, v, v, true)
def q1 : List Fact := [(2, hLs, iP 6, false)]
def q2 : List Fact := [(2, hLs, iP 6, true), (1, iP 6, hLb, true)]
def q3 : List Fact := qPre ++ [(1, iP 6, hLd, true), (2, hLd, iP 30, true)]
def q4 : List Fact := qPre ++ [(1, iP 6, hLd, true), (2, hLd, iP 30, false), (1, iP 32, hLd, true)]
def l1 (s b d : Pt) : List Ent := [eCS s, eCb b, eCD d, eAA (.v (nilE hE)), eFS (.tuple #[zz, hE]), eGN (.tuple #[iP 0, hE]), eSE s hE]
def f1 (q : List Fact) : List Fact := q ++ [(0, hE, iP 0, false), same hE]
def l2 (b d : Pt) : List Ent := [eCS sO, eCb b, eCD d, eAA (.v (nilE hA)), eFS (.tuple #[zz, hA]), eGN (.tuple #[iP 0, hA]), eSE sO (iP 0), eAE sO b hA]
def f2 (q : List Fact) : List Fact := q ++ [(0, hA, iP 0, false), same hA]
/-- GreatestNow: none, some -/
def gP (g : Bool) : Value := if g = true then .tuple #[hGn, iP 0] else .tuple #[iP 0, iP 12]
def gR (g : Bool) : Value := if g = true then hGn else iP (-1)
def gF (g : Bool) : List Fact := if g = true then [(1, hGn, iP 0, false), (2, iP 0, hGn, true), same hGn] else []
def l3 (d : Pt) (g : Bool) : List Ent := [eCS sO, eCb bO, eCD d, eAA (.v (nilE hDe)), eFS (.tuple #[zz, hDe]), eGN (gP g), eSE sO (iP 0), eAE sO bO (iP 0), eRG (gR g), eDE d hDe]
def f3 (q : List Fact) (g : Bool) : List Fact := q ++ (gF g ++ [(0, hDe, iP 0, false), same hDe])
def l4 (d : Pt) (g : Bool) : List Ent := [eCS sO, eCb bO, eCD d, eAA (.v (nilE hYe)), eFS (.tuple #[zz, hYe]), eGN (gP g), eSE sO (iP 0), eAE sO bO (iP 0), eRG (gR g), eDE d (iP 0), eRA d (.v (nilE hYe)), eRS d (.tuple #[zz, hYe])]
def f4 (g : Bool) : List Fact := qSm ++ (gF g ++ [same hYe])
def l5 (d : Pt) (g : Bool) (K : Nat) : List Ent := [eCS sO, eCb bO, eCD d, eAA (endR K), eFS fyi, eGN (gP g), eSE sO (iP 0), eAE sO bO (iP 0), eRG (gR g), eDE d (iP 0), eRA d (endR K), eRS d fyi, eRn K]
def f5 (g : Bool) : List Fact := qSm ++ (gF g ++ [same hFe, same hFy, same hFi])
section
variable (Y : Yr)
theorem rq1 : RunL Y (q1) ([]) [sN, bN, dN] := fun ok => by kernel_rfl
theorem rq2 : RunL Y (q2) ([]) [sN, bN, dN] := fun ok => by kernel_rfl
theorem rq3 : RunL Y (q3) ([]) [sN, bN, dN] := fun ok => by kernel_rfl
theorem rq4 : RunL Y (q4) ([]) [sN, bN, dN] := fun ok => by kernel_rfl
theorem r1OOOS : RunL Y (f1 qSm) (l1 sO bO dOr) [sO, bO, dOr] := fun ok => by kernel_rfl
theorem r1OOOB : RunL Y (f1 qBg) (l1 sO bO dOr) [sO, bO, dOr] := fun ok => by kernel_rfl
theorem r1OONS : RunL Y (f1 qSm) (l1 sO bO dN) [sO, bO, dN] := fun ok => by kernel_rfl
theorem r1OONB : RunL Y (f1 qBg) (l1 sO bO dN) [sO, bO, dN] := fun ok => by kernel_rfl
theorem r1ONOS : RunL Y (f1 qSm) (l1 sO bN dOr) [sO, bN, dOr] := fun ok => by kernel_rfl
theorem r1ONOB : RunL Y (f1 qBg) (l1 sO bN dOr) [sO, bN, dOr] := fun ok => by kernel_rfl
theorem r1ONNS : RunL Y (f1 qSm) (l1 sO bN dN) [sO, bN, dN] := fun ok => by kernel_rfl
theorem r1ONNB : RunL Y (f1 qBg) (l1 sO bN dN) [sO, bN, dN] := fun ok => by kernel_rfl
theorem r1NOOS : RunL Y (f1 qSm) (l1 sN bO dOr) [sN, bO, dOr] := fun ok => by kernel_rfl
theorem r1NOOB : RunL Y (f1 qBg) (l1 sN bO dOr) [sN, bO, dOr] := fun ok => by kernel_rfl
theorem r1NONS : RunL Y (f1 qSm) (l1 sN bO dN) [sN, bO, dN] := fun ok => by kernel_rfl
theorem r1NONB : RunL Y (f1 qBg) (l1 sN bO dN) [sN, bO, dN] := fun ok => by kernel_rfl
theorem r1NNOS : RunL Y (f1 qSm) (l1 sN bN dOr) [sN, bN, dOr] := fun ok => by kernel_rfl
theorem r1NNOB : RunL Y (f1 qBg) (l1 sN bN dOr) [sN, bN, dOr] := fun ok => by kernel_rfl
theorem r1NNNS : RunL Y (f1 qSm) (l1 sN bN dN) [sN, bN, dN] := fun ok => by kernel_rfl
theorem r1NNNB : RunL Y (f1 qBg) (l1 sN bN dN) [sN, bN, dN] := fun ok => by kernel_rfl
theorem r2OOS : RunL Y (f2 qSm) (l2 bO dOr) [sO, bO, dOr] := fun ok => by kernel_rfl
theorem r2OOB : RunL Y (f2 qBg) (l2 bO dOr) [sO, bO, dOr] := fun ok => by kernel_rfl
theorem r2ONS : RunL Y (f2 qSm) (l2 bO dN) [sO, bO, dN] := fun ok => by kernel_rfl
theorem r2ONB : RunL Y (f2 qBg) (l2 bO dN) [sO, bO, dN] := fun ok => by kernel_rfl
theorem r2NOS : RunL Y (f2 qSm) (l2 bN dOr) [sO, bN, dOr] := fun ok => by kernel_rfl
theorem r2NOB : RunL Y (f2 qBg) (l2 bN dOr) [sO, bN, dOr] := fun ok => by kernel_rfl
theorem r2NNS : RunL Y (f2 qSm) (l2 bN dN) [sO, bN, dN] := fun ok => by kernel_rfl
theorem r2NNB : RunL Y (f2 qBg) (l2 bN dN) [sO, bN, dN] := fun ok => by kernel_rfl
theorem r3OSf : RunL Y (f3 qSm false) (l3 dOr false) [sO, bO, dOr] := fun ok => by kernel_rfl
theorem r3OSt : RunL Y (f3 qSm true) (l3 dOr true) [sO, bO, dOr] := fun ok => by kernel_rfl
theorem r3OBf : RunL Y (f3 qBg false) (l3 dOr false) [sO, bO, dOr] := fun ok => by kernel_rfl
theorem r3OBt : RunL Y (f3 qBg true) (l3 dOr true) [sO, bO, dOr] := fun ok => by kernel_rfl
theorem r3NSf : RunL Y (f3 qSm false) (l3 dN false) [sO, bO, dN] := fun ok => by kernel_rfl
theorem r3NSt : RunL Y (f3 qSm true) (l3 dN true) [sO, bO, dN] := fun ok => by kernel_rfl
theorem r3NBf : RunL Y (f3 qBg false) (l3 dN false) [sO, bO, dN] := fun ok => by kernel_rfl
theorem r3NBt : RunL Y (f3 qBg true) (l3 dN true) [sO, bO, dN] := fun ok => by kernel_rfl
theorem r4Of : RunL Y (f4 false) (l4 dOr false) [sO, bO, dOr] := fun ok => by kernel_rfl
theorem r4Ot : RunL Y (f4 true) (l4 dOr true) [sO, bO, dOr] := fun ok => by kernel_rfl
theorem r4Nf : RunL Y (f4 false) (l4 dN false) [sO, bO, dN] := fun ok => by kernel_rfl
theorem r4Nt : RunL Y (f4 true) (l4 dN true) [sO, bO, dN] := fun ok => by kernel_rfl
theorem r5_0Of : RunL Y (f5 false) (l5 dOr false 0) [sO, bO, dOr] := fun ok => by kernel_rfl
theorem r5_0Ot : RunL Y (f5 true) (l5 dOr true 0) [sO, bO, dOr] := fun ok => by kernel_rfl
theorem r5_0Nf : RunL Y (f5 false) (l5 dN false 0) [sO, bO, dN] := fun ok => by kernel_rfl
theorem r5_0Nt : RunL Y (f5 true) (l5 dN true 0) [sO, bO, dN] := fun ok => by kernel_rfl
theorem r5_1Of : RunL Y (f5 false) (l5 dOr false 1) [sO, bO, dOr] := fun ok => by kernel_rfl
theorem r5_1Ot : RunL Y (f5 true) (l5 dOr true 1) [sO, bO, dOr] := fun ok => by kernel_rfl
theorem r5_1Nf : RunL Y (f5 false) (l5 dN false 1) [sO, bO, dN] := fun ok => by kernel_rfl
theorem r5_1Nt : RunL Y (f5 true) (l5 dN true 1) [sO, bO, dN] := fun ok => by kernel_rfl
theorem r5_2Of : RunL Y (f5 false) (l5 dOr false 2) [sO, bO, dOr] := fun ok => by kernel_rfl
theorem r5_2Ot : RunL Y (f5 true) (l5 dOr true 2) [sO, bO, dOr] := fun ok => by kernel_rfl
theorem r5_2Nf : RunL Y (f5 false) (l5 dN false 2) [sO, bO, dN] := fun ok => by kernel_rfl
theorem r5_2Nt : RunL Y (f5 true) (l5 dN true 2) [sO, bO, dN] := fun ok => by kernel_rfl
theorem r5_3Of : RunL Y (f5 false) (l5 dOr false 3) [sO, bO, dOr] := fun ok => by kernel_rfl
theorem r5_3Ot : RunL Y (f5 true) (l5 dOr true 3) [sO, bO, dOr] := fun ok => by kernel_rfl
theorem r5_3Nf : RunL Y (f5 false) (l5 dN false 3) [sO, bO, dN] := fun ok => by kernel_rfl
theorem r5_3Nt : RunL Y (f5 true) (l5 dN true 3) [sO, bO, dN] := fun ok => by kernel_rfl
theorem r5_4Of : RunL Y (f5 false) (l5 dOr false 4) [sO, bO, dOr] := fun ok => by kernel_rfl
theorem r5_4Ot : RunL Y (f5 true) (l5 dOr true 4) [sO, bO, dOr] := fun ok => by kernel_rfl
theorem r5_4Nf : RunL Y (f5 false) (l5 dN false 4) [sO, bO, dN] := fun ok => by kernel_rfl
theorem r5_4Nt : RunL Y (f5 true) (l5 dN true 4) [sO, bO, dN] := fun ok => by kernel_rfl
theorem r5_5Of : RunL Y (f5 false) (l5 dOr false 5) [sO, bO, dOr] := fun ok => by kernel_rfl
theorem r5_5Ot : RunL Y (f5 true) (l5 dOr true 5) [sO, bO, dOr] := fun ok => by kernel_rfl
theorem r5_5Nf : RunL Y (f5 false) (l5 dN false 5) [sO, bO, dN] := fun ok => by kernel_rfl
theorem r5_5Nt : RunL Y (f5 true) (l5 dN true 5) [sO, bO, dN] := fun ok => by kernel_rfl
theorem r5_6Of : RunL Y (f5 false) (l5 dOr false 6) [sO, bO, dOr] := fun ok => by kernel_rfl
theorem r5_6Ot : RunL Y (f5 true) (l5 dOr true 6) [sO, bO, dOr] := fun ok => by kernel_rfl
theorem r5_6Nf : RunL Y (f5 false) (l5 dN false 6) [sO, bO, dN] := fun ok => by kernel_rfl
theorem r5_6Nt : RunL Y (f5 true) (l5 dN true 6) [sO, bO, dN] := fun ok => by kernel_rfl
variable {Y}
theorem r1_any {s b d : Pt} {q : List Fact} (hs : s = sO ∨ s = sN) (hb : b = bO ∨ b = bN) (hd : d = dOr ∨ d = dN) (hq : q = qSm ∨ q = qBg) : RunL Y (f1 q) (l1 s b d) [s, b, d] := by
  rcases hs with rfl | rfl <;> rcases hb with rfl | rfl <;> rcases hd with rfl | rfl <;> rcases hq with rfl | rfl
  · exact r1OOOS Y
  · exact r1OOOB Y
  · exact r1OONS Y
  · exact r1OONB Y
  · exact r1ONOS Y
  · exact r1ONOB Y
  · exact r1ONNS Y
  · exact r1ONNB Y
  · exact r1NOOS Y
  · exact r1NOOB Y
  · exact r1NONS Y
  · exact r1NONB Y
  · exact r1NNOS Y
  · exact r1NNOB Y
  · exact r1NNNS Y
  · exact r1NNNB Y
theorem r2_any {b d : Pt} {q : List Fact} (hb : b = bO ∨ b = bN) (hd : d = dOr ∨ d = dN) (hq : q = qSm ∨ q = qBg) : RunL Y (f2 q) (l2 b d) [sO, b, d] := by
  rcases hb with rfl | rfl <;> rcases hd with rfl | rfl <;> rcases hq with rfl | rfl
  · exact r2OOS Y
  · exact r2OOB Y
  · exact r2ONS Y
  · exact r2ONB Y
  · exact r2NOS Y
  · exact r2NOB Y
  · exact r2NNS Y
  · exact r2NNB Y
theorem r3_any {d : Pt} {q : List Fact} {g : Bool} (hd : d = dOr ∨ d = dN) (hq : q = qSm ∨ q = qBg) : RunL Y (f3 q g) (l3 d g) [sO, bO, d] := by
  rcases hd with rfl | rfl <;> rcases hq with rfl | rfl <;> cases g
  · exact r3OSf Y
  · exact r3OSt Y
  · exact r3OBf Y
  · exact r3OBt Y
  · exact r3NSf Y
  · exact r3NSt Y
  · exact r3NBf Y
  · exact r3NBt Y
theorem r4_any {d : Pt} {g : Bool} (hd : d = dOr ∨ d = dN) : RunL Y (f4 g) (l4 d g) [sO, bO, d] := by
  rcases hd with rfl | rfl <;> cases g
  · exact r4Of Y
  · exact r4Ot Y
  · exact r4Nf Y
  · exact r4Nt Y
theorem r5_any {d : Pt} {g : Bool} {K : Nat} (hK : K ≤ 6) (hd : d = dOr ∨ d = dN) : RunL Y (f5 g) (l5 d g K) [sO, bO, d] := by
  obtain rfl | rfl | rfl | rfl | rfl | rfl | rfl : K = 0 ∨ K = 1 ∨ K = 2 ∨ K = 3 ∨ K = 4 ∨ K = 5 ∨ K = 6 := by omega
  · rcases hd with rfl | rfl <;> cases g
    · exact r5_0Of Y
    · exact r5_0Ot Y
    · exact r5_0Nf Y
    · exact r5_0Nt Y
  · rcases hd with rfl | rfl <;> cases g
    · exact r5_1Of Y
    · exact r5_1Ot Y
    · exact r5_1Nf Y
    · exact r5_1Nt Y
  · rcases hd with rfl | rfl <;> cases g
    · exact r5_2Of Y
    · exact r5_2Ot Y
    · exact r5_2Nf Y
    · exact r5_2Nt Y
  · rcases hd with rfl | rfl <;> cases g
    · exact r5_3Of Y
    · exact r5_3Ot Y
    · exact r5_3Nf Y
    · exact r5_3Nt Y
  · rcases hd with rfl | rfl <;> cases g
    · exact r5_4Of Y
    · exact r5_4Ot Y
    · exact r5_4Nf Y
    · exact r5_4Nt Y
  · rcases hd with rfl | rfl <;> cases g
    · exact r5_5Of Y
    · exact r5_5Ot Y
    · exact r5_5Nf Y
    · exact r5_5Nt Y
  · rcases hd with rfl | rfl <;> cases g
    · exact r5_6Of Y
    · exact r5_6Ot Y
    · exact r5_6Nf Y
    · exact r5_6Nt Y
end
/-! base.Ranges of two lists of the same. -/
theorem okRangeY : ∀ t ∈ [((74 : Nat), (2 : Nat))], ∀ (xs ys : List Int) (x y : Operand) (w : World), xs.length = t.2 → ys.length = t.2 → ((do eqGuard .eql t.1 x y (.agg (xs.map fun z => Value.int .i64 z).toArray) (.agg (ys.map fun z => Value.int .i64 z).toArray); binOp .eql t.1 (.agg (xs.map fun z => Value.int .i64 z).toArray) (.agg (ys.map fun z => Value.int .i64 z).toArray)) : Sem Value).run Tryz.prog w = .ok (.bool (decide (xs = ys))) w ∧
    ((do eqGuard .neq t.1 x y (.agg (xs.map fun z => Value.int .i64 z).toArray) (.agg (ys.map fun z => Value.int .i64 z).toArray); binOp .neq t.1 (.agg (xs.map fun z => Value.int .i64 z).toArray) (.agg (ys.map fun z => Value.int .i64 z).toArray)) : Sem Value).run Tryz.prog w = .ok (.bool (!decide (xs = ys))) w := by
  intro t ht xs ys x y w hx hy
  simp only [List.mem_singleton] at ht
  subst ht
  match xs, ys, hx, hy with
  | [a, b], [c, d], _, _ =>
    refine ⟨?_, ?_⟩
    · go_simp
      by_cases h1 : a = c <;> by_cases h2 : b = d <;> simp [h1, h2]
    · go_simp
      by_cases h1 : a = c <;> by_cases h2 : b = d <;> simp [h1, h2]
noncomputable def pgR (bg : Nat → Int) : Pg := { prog := Tryz.prog, den := DSy 0 (fun _ => 0) bg (ot1 0), facts := [], ok := nil_ok, eqs := [(74, 2)], okEq := okRangeY }
section
variable (bg : Nat → Int)
theorem rnR1 : fstO (evDS (pgR bg) spNone 2000 60 (.fn 19) (ptVals 0 [pB 1, pB 1]) (memT (ptObjs [pB 1, pB 1])) 3) = some (.bool true) := by kernel_rfl
theorem rnR2 : fstO (evDS (pgR bg) spNone 2000 60 (.fn 19) (ptVals 0 [pB 2, pB 2]) (memT (ptObjs [pB 2, pB 2])) 3) = some (.bool true) := by kernel_rfl
theorem rnR3 : fstO (evDS (pgR bg) spNone 2000 60 (.fn 19) (ptVals 0 [pB 3, pB 3]) (memT (ptObjs [pB 3, pB 3])) 3) = some (.bool true) := by kernel_rfl
theorem rnR4 : fstO (evDS (pgR bg) spNone 2000 60 (.fn 19) (ptVals 0 [pB 4, pB 4]) (memT (ptObjs [pB 4, pB 4])) 3) = some (.bool true) := by kernel_rfl
end
theorem rn_key {bg : Nat → Int} {N ga oa ca gb ob cb : Nat} {w : World} (hN : 1 ≤ N ∧ N ≤ 4) (ha : WinP ga oa (2 * N) bg w) (hb : WinP gb ob (2 * N) bg w) :
    Calls Tryz.prog 19 #[.slice (some ⟨ga, oa, none⟩) N ca, .slice (some ⟨gb, ob, none⟩) N cb] w fun e w' => Below w.heap.size w w' ∧ e = .returned (.bool true) := by
  have hr : fstO (evDS (pgR bg) spNone 2000 60 (.fn 19) (ptVals 0 [pB N, pB N]) (memT (ptObjs [pB N, pB N])) 3) = some (.bool true) := by
    obtain rfl | rfl | rfl | rfl : N = 1 ∨ N = 2 ∨ N = 3 ∨ N = 4 := by omega
    · exact rnR1 bg
    · exact rnR2 bg
    · exact rnR3 bg
    · exact rnR4 bg
  have pb : ∀ {g o c : Nat}, WinP g o (2 * N) bg w → PtR (pgR bg) w (pB N) (.slice (some ⟨g, o, none⟩) N c) := fun hw => by
    obtain ⟨ob, h1, h2⟩ := winP_at.1 hw
    exact pt_lst (P := pgR bg) (.lit (N : Int)) h1 (at_win (P := pgR bg) (fun _ => trivial) (by simpa [rowB] using h2) (rowB_dv hN.2))
  refine Calls.mono (run_ent (P := pgR bg) (pats := [pB N, pB N]) (by kernel_rfl) ok_spNone (by show 2 ≤ 3; decide) (by show (numO (.win (rowB N)) && (numO (.win (rowB N)) && true)) = true; rw [numOw numB]; rfl) (by kernel_rfl) hr #[.slice (some ⟨ga, oa, none⟩) N ca, .slice (some ⟨gb, ob, none⟩) N cb] w ⟨pb ha, pb hb, trivial⟩) ?_
  rintro e w' ⟨hbl, v', rfl, hv⟩
  refine ⟨hbl, ?_⟩
  have h := hv fun _ => none
  cases h
  rfl
end Sy
end Go.Proofs.YtdejmleboflopaaGreat
