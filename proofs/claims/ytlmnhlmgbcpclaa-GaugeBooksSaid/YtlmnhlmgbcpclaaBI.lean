/- The law GaugeBooks of books too long to try. -/
import Derived.Test.YtlmnhlmgbcpclaaBH
set_option linter.unusedVariables false
set_option linter.unusedSimpArgs false
namespace Go.Proofs.Ytlmnhlmgbcpclaa
open Go.RowKit
namespace Sy
open Go.RowKit

section
variable {B : Bk} {ot : Nat → Int}
theorem bk_fam0 {D : Dn} (hD : D = DB B ot nu0) (hr : ListW (roW B.w) B.vr B.n 4 (fun i => (B.x i).at)) (hm : ListW (roW B.w) B.vm B.m 4 (fun i => (B.y i).at)) : ∀ x ∈ bookFams, ∀ xs : List Int, ∃ (sa : Option Addr) (n cap : Nat), D.slc x.1 xs = .slice sa n cap ∧ D.int (1000 + x.1) xs = n ∧ (0 < n → ∃ (b r : Nat) (cs : Array Value), sa = some ⟨b, r, none⟩ ∧ D.ro b = some cs ∧
    ∀ (k j : Nat) (f : Nat × Nat), k < n → x.2[j]? = some f → cs[r + k * x.2.length + j]? = some (formV D f (xs ++ [(k : Int)]))) := by
  subst hD
  intro x hx
  simp only [bookFams, List.mem_cons, List.not_mem_nil, or_false] at hx
  rcases hx with rfl | rfl
  · refine fam_ok fun xs => ⟨famD_len (by decide) xs, ?_⟩
    match xs with
    | [] =>
      refine ⟨B.n, _, hr, fun i j f hi hj => ?_⟩
      match j, hj with
      | 0, hj => cases hj; rfl
      | 1, hj => cases hj; rfl
      | 2, hj => cases hj; rfl
      | 3, hj => cases hj; rfl
    | _ :: _ => exact ⟨0, fun _ _ => .nilIface, listW_none _ _ _, fun i j f hi => by omega⟩
  · refine fam_ok fun xs => ⟨famD_len (by decide) xs, ?_⟩
    match xs with
    | [] =>
      refine ⟨B.m, _, hm, fun i j f hi hj => ?_⟩
      match j, hj with
      | 0, hj => cases hj; rfl
      | 1, hj => cases hj; rfl
      | 2, hj => cases hj; rfl
      | 3, hj => cases hj; rfl
    | _ :: _ => exact ⟨0, fun _ _ => .nilIface, listW_none _ _ _, fun i j f hi => by omega⟩
noncomputable def pgN (ot : Nat → Int) (hr : ListW (roW B.w) B.vr B.n 4 (fun i => (B.x i).at)) (hm : ListW (roW B.w) B.vm B.m 4 (fun i => (B.y i).at)) : Pg :=
  { toPd := pdB [] [], den := DB B ot nu0, ok := fun t h => absurd h List.not_mem_nil, okFam := bk_fam0 rfl hr hm, okSeq := fun t h => absurd h List.not_mem_nil, okSl := fun _ => famD_sl, okEq := fun t h => absurd h List.not_mem_nil, okEqh := fun t h => absurd h List.not_mem_nil, okStr := fun t h => absurd h List.not_mem_nil, okExt := fun t h => absurd h List.not_mem_nil, okCps := fun t h => absurd h List.not_mem_nil }
theorem z_FewN {P : Pg} {sr sm : Option Addr} {cr cm : Nat} (e1 : B.vr = .slice sr B.n cr) (e2 : B.vm = .slice sm B.m cm) (hp : P.prog = Try.prog) (hd : P.den = DB B ot nu0) (hf : fewN B.n B.m = false) : EntOk P (eFew false) := EntOk.bool1 fun args' w k => by
  obtain ⟨a, rfl, k1, k2⟩ := ptsA1 k
  obtain rfl := bk_inv hd k1
  rw [hp, e1, e2]
  exact few_no B.lo B.hi sr sm 0 0 B.n cr 0 0 B.m cm B.x B.y w hf
noncomputable def runN : Option Value := fstO ((evE (spOr (spTrue 7) (spEnts l0)) 2000 60 (pdB [] []) []).1 (.fn fGB) (ptVals 0 psRN) (memT (ptObjs psRN)) 3)
theorem g_N : runN = some (.bool true) := by kernel_rfl
theorem books_far (hr : ListW (roW B.w) B.vr B.n 4 (fun i => (B.x i).at)) (hm : ListW (roW B.w) B.vm B.m 4 (fun i => (B.y i).at)) (hf : fewN B.n B.m = false) :
    Calls Try.prog fGB #[.agg #[.int .i64 B.lo, .int .i64 B.hi, B.vr, B.vm], .string B.c, .agg #[.int .i64 (ot 2), .int .i64 (ot 3)]] B.w fun e w' => e = .returned (.bool true) ∧ Below B.w.heap.size B.w w' := by
  obtain ⟨sr, cr, e1, _⟩ := id hr
  obtain ⟨sm, cm, e2, _⟩ := id hm
  have hent : AllL (EntOk (pgN ot hr hm)) l0 := ⟨z_FewN e1 e2 rfl rfl hf, trivial⟩
  have hsp : CallOk (pgN ot hr hm) (spOr (spTrue 7) (spEnts l0)) := ok_spOr (ok_spTrue awake04) (ok_spEnts hent.mem (fun e he => by rcases List.mem_singleton.1 he with rfl; trivial))
  have he : EntOk (pgN ot hr hm) ⟨fGB, psRN, .v (.bool true)⟩ := run_entQ (P := pgN ot hr hm) (Q := pdB [] []) (m := 0) (tb := []) rfl hmB ⟨hsp, rfl⟩ g_N rfl (by decide) rfl
  have hI : IsB B nu0 (pgN ot hr hm) := ⟨rfl, rfl, rfl, rfl, rfl, rfl⟩
  refine ent_calls (P := pgN ot hr hm) (args := #[.agg #[.int .i64 B.lo, .int .i64 B.hi, B.vr, B.vm], .string B.c, .agg #[.int .i64 (ot 2), .int .i64 (ot 3)]]) (w := B.w) he ?_ rel_bool
  refine show _ ∧ _ from ⟨fun M => ?_, show _ ∧ _ from ⟨fun M => ?_, show _ ∧ _ from ⟨fun M => ?_, roOk_of rfl⟩⟩⟩
  · have v1 : VRel (pgN ot hr hm) M fR B.vr := by
      rw [e1]
      exact slc_rel (DvL.nil _) e1
    have v2 : VRel (pgN ot hr hm) M fM B.vm := by
      rw [e2]
      exact slc_rel (DvL.nil _) e2
    exact LRel.agg (LRel.cons (dv_ho (k := 0) (x := B.lo) rfl).vrel (LRel.cons (dv_ho (k := 1) (x := B.hi) rfl).vrel (LRel.cons v1 (LRel.cons v2 (LRel.nil M)))))
  · exact SDen.rel (P := pgN ot hr hm) (c := 9) (DvL.nil _)
  · exact LRel.agg (LRel.cons (Dv.vrel (P := pgN ot hr hm) (dO ot (by decide) rfl)) (LRel.cons (Dv.vrel (P := pgN ot hr hm) (dO ot (by decide) rfl)) (LRel.nil M)))
/-- the law, of any input -/
theorem books_all (hr : ListW (roW B.w) B.vr B.n 4 (fun i => (B.x i).at)) (hm : ListW (roW B.w) B.vm B.m 4 (fun i => (B.y i).at)) (d0 d1 : Int) :
    Calls Try.prog fGB #[.agg #[.int .i64 B.lo, .int .i64 B.hi, B.vr, B.vm], .string B.c, .agg #[.int .i64 d0, .int .i64 d1]] B.w fun e w' => e = .returned (.bool true) ∧ Below B.w.heap.size B.w w' := by
  by_cases h1 : B.n ≤ 1000000 ∧ B.m ≤ 1000000
  · exact books_any ⟨hr, hm, h1.1, h1.2⟩ d0 d1
  · refine books_far (ot := fun k => if k = 2 then d0 else d1) hr hm ?_
    unfold fewN
    simp only [Bool.and_eq_false_iff, Bool.or_eq_false_iff, decide_eq_false_iff_not]
    omega
end
end Sy
end Go.Proofs.Ytlmnhlmgbcpclaa
