/- The reference's net of any book. -/
import Derived.Test.YtlmnhlmgbcpclaaBE
import Derived.Test.YtlmnhlmgbcpclaaJ15
set_option linter.unusedVariables false
set_option linter.unusedSimpArgs false
namespace Go.Proofs.Ytlmnhlmgbcpclaa
open Go.RowKit
namespace Sy
open Go.RowKit

def hN : Value := ho 50
def hZ : Value := ho 51
def inM : List Fact := [(2, li 0, hN, true), (1, hN, nM, true)]
def nxt (v : Value) : List (Nat × Value) := [(10, bn 1 hN (li 1)), (9, v)]
def dIn : List Fact := inM ++ [(2, mD hN, h2, false), (1, h3, mD hN, false)]
def netWays : List Wy := [
  ⟨inM ++ [(2, mD hN, h2, true)], [], nxt hZ⟩,
  ⟨inM ++ [(2, mD hN, h2, false), (1, h3, mD hN, true)], [], nxt hZ⟩,
  ⟨dIn, [(mB hN, sC, true), (mA hN, sC, true)], nxt (bn 2 (bn 1 hZ (mV hN)) (mV hN))⟩,
  ⟨dIn, [(mB hN, sC, true), (mA hN, sC, false)], nxt (bn 1 hZ (mV hN))⟩,
  ⟨dIn, [(mB hN, sC, false), (mA hN, sC, true)], nxt (bn 2 hZ (mV hN))⟩,
  ⟨dIn, [(mB hN, sC, false), (mA hN, sC, false)], nxt hZ⟩]
def fRt : Nat := 52
def netL : LSpec := .mk fRt 4 [(10, 50), (9, 51)] [li 0, li 0] netWays [nM, ho 17] []
def psNet : List Pt := [.v bkV, .v sC, .v h2, .v h3]
theorem net_run : fstO ((evE spNone 2000 60 (pdB [(1, nM, nM, false)] []) [netL]).1 (.fn fRt) (ptVals 0 psNet) (memT (ptObjs psNet)) 3) = some (ho 17) := by kernel_rfl
section
variable {B : Bk} {nu : Nat → List Int → Int} {P : Pg}
theorem b1 (x y : Int) : binN 1 x y = wrap64 (x + y) := IntWalk.i64_left _
theorem b2 (x y : Int) : binN 2 x y = wrap64 (x - y) := IntWalk.i64_left _
theorem semNet (h : BkOk B) (hP : IsB B nu P) (hc : cleanF P.toPd [50, 51] = true) {lo hi : Int} (d2 : Dv P.den h2 lo) (d3 : Dv P.den h3 hi) (d17 : Dv P.den (ho 17) (netF B.y B.c lo hi B.m 0 0)) : LoopSem P netL (fun P' => GoodE spNone 0 P' []) := by
  have hmn := h.mn
  refine loopSem_of (x := netL) (⟨ok_spNone, rfl⟩ : GoodE spNone 0 P []) (show [50, 51].Nodup by decide) hc (fun xs => ∃ (i : Nat) (z : Int), xs = [(i : Int), z] ∧ i ≤ B.m ∧ netF B.y B.c lo hi (B.m - i) i z = netF B.y B.c lo hi B.m 0 0) (fun xs => match xs with | [x, _] => B.m - x.toNat | _ => 0) [0, 0] [(B.m : Int), netF B.y B.c lo hi B.m 0 0]
    ⟨0, 0, rfl, Nat.zero_le _, rfl⟩ (DvL.cons (dv_li 0) (DvL.cons (dv_li 0) (DvL.nil _))) (DvL.cons (dv_nM hP.int h) (DvL.cons d17 (DvL.nil _))) (fun xs P' hI hp hd => (⟨ok_spNone, rfl⟩ : GoodE spNone 0 P' [])) ?_
  rintro xs ⟨i, z, rfl, hi', hR⟩
  by_cases he : i = B.m
  · refine .inl ?_
    rw [he, Nat.sub_self] at hR
    rw [he, ← hR]
    rfl
  have hlt : i < B.m := by omega
  refine .inr ?_
  rw [netF_step B.y B.c lo hi B.m i z hlt] at hR
  obtain ⟨D, hD⟩ : ∃ D, D = updD P.den (netL.hs.map fun h => h.2) [(i : Int), z] := ⟨_, rfl⟩
  rw [← hD]
  have hint : D.int = (DB B (fun _ => 0) nu).int := by rw [hD]; exact hP.int
  have hstr : D.str = strB B := by rw [hD]; exact hP.str
  have dI : Dv D hN (i : Nat) := by rw [hD]; exact dv_ho rfl
  have dZ : Dv D hZ z := by rw [hD]; exact dv_ho rfl
  have dM : Dv D nM (B.m : Int) := dv_nM hint h
  have dl : Dv D h2 lo := by rw [hD]; exact d2.upd (by kernel_rfl)
  have dh : Dv D h3 hi := by rw [hD]; exact d3.upd (by kernel_rfl)
  have dd : Dv D (mD hN) (B.y i).d := dvB (t := 120) hint (by decide) (by decide) dI rfl
  have dv : Dv D (mV hN) (B.y i).v := dvB (t := 121) hint (by decide) (by decide) dI rfl
  have sA : SDen D (mA hN) (B.y i).a := sdB hstr dI rfl
  have sB : SDen D (mB hN) (B.y i).b := sdB hstr dI rfl
  have sc : SDen D sC B.c := sdC hstr
  have dNx : Dv D (bn 1 hN (li 1)) ((i + 1 : Nat) : Int) := by
    have := dv_bn (t := 1) (by decide) dI (dv_li 1)
    rwa [b1w (by omega)] at this
  have fI : AllL (OkFc D) inM := ⟨leY (dv_li 0) dI (by omega), ltY dI dM (by omega), trivial⟩
  have go : ∀ {v : Value} {z' : Int}, Dv D v z' → mvN (B.y i) B.c lo hi z = z' → ∃ ys : List Int, (∃ (j : Nat) (u : Int), ys = [(j : Int), u] ∧ j ≤ B.m ∧ netF B.y B.c lo hi (B.m - j) j u = netF B.y B.c lo hi B.m 0 0) ∧ (match ys with | [x, _] => B.m - x.toNat | _ => 0) < (match [(i : Int), z] with | [x, _] => B.m - x.toNat | _ => 0) ∧ PostsOk D (nxt v) netL.hs ys := fun {v z'} dz e =>
    ⟨[((i + 1 : Nat) : Int), z'], ⟨i + 1, z', rfl, by omega, by rw [← e]; exact hR⟩, by show B.m - ((i + 1 : Nat) : Int).toNat < B.m - ((i : Nat) : Int).toNat; omega, ⟨_, List.mem_cons_self, dNx⟩, ⟨_, List.mem_cons_of_mem _ List.mem_cons_self, dz⟩, trivial⟩
  by_cases c1 : (B.y i).d ≤ lo
  · exact ⟨_, List.mem_cons_self, AllL.app fI ⟨leY dd dl c1, trivial⟩, trivial, go dZ (by unfold mvN; rw [if_pos c1])⟩
  by_cases c2 : hi < (B.y i).d
  · exact ⟨_, List.mem_cons_of_mem _ List.mem_cons_self, AllL.app fI ⟨leN dd dl c1, ltY dh dd c2, trivial⟩, trivial, go dZ (by unfold mvN; rw [if_neg c1, if_pos c2])⟩
  have fD : AllL (OkFc D) dIn := AllL.app fI ⟨leN dd dl c1, ltN dh dd c2, trivial⟩
  have mv : ∀ {p q : Bool}, decide ((B.y i).b = B.c) = p → decide ((B.y i).a = B.c) = q → mvN (B.y i) B.c lo hi z = midN p q (B.y i).v z := fun {p q} e1 e2 => by
    unfold mvN
    rw [if_neg c1, if_neg c2, bytes_beq, bytes_beq, e1, e2]
  by_cases c3 : (B.y i).b = B.c <;> by_cases c4 : (B.y i).a = B.c
  · exact ⟨_, List.mem_cons_of_mem _ (List.mem_cons_of_mem _ List.mem_cons_self), fD, ⟨sqY sB sc c3, sqY sA sc c4, trivial⟩, go (dv_bn (t := 2) (by decide) (dv_bn (t := 1) (by decide) dZ dv) dv) (by rw [mv (decide_eq_true c3) (decide_eq_true c4), b2, b1]; rfl)⟩
  · exact ⟨_, List.mem_cons_of_mem _ (List.mem_cons_of_mem _ (List.mem_cons_of_mem _ List.mem_cons_self)), fD, ⟨sqY sB sc c3, sqN sA sc c4, trivial⟩, go (dv_bn (t := 1) (by decide) dZ dv) (by rw [mv (decide_eq_true c3) (decide_eq_false c4), b1]; rfl)⟩
  · exact ⟨_, List.mem_cons_of_mem _ (List.mem_cons_of_mem _ (List.mem_cons_of_mem _ (List.mem_cons_of_mem _ List.mem_cons_self))), fD, ⟨sqN sB sc c3, sqY sA sc c4, trivial⟩, go (dv_bn (t := 2) (by decide) dZ dv) (by rw [mv (decide_eq_false c3) (decide_eq_true c4), b2]; rfl)⟩
  · exact ⟨_, List.mem_cons_of_mem _ (List.mem_cons_of_mem _ (List.mem_cons_of_mem _ (List.mem_cons_of_mem _ (List.mem_cons_of_mem _ List.mem_cons_self)))), fD, ⟨sqN sB sc c3, sqN sA sc c4, trivial⟩, go dZ (by rw [mv (decide_eq_false c3) (decide_eq_false c4)]; rfl)⟩
theorem ent_rnet (h : BkOk B) {ot : Nat → Int} (h17 : ot 17 = netF B.y B.c (ot 2) (ot 3) B.m 0 0) (hp : P.prog = Try.prog) (hd : P.den = DB B ot nu0) : EntOk P eRNt := by
  have f0 : AllL (OkFc (DB B ot nu0)) [(1, nM, nM, false)] := ⟨ltN (dv_nM (B := B) (nu := nu0) rfl h) (dv_nM (B := B) (nu := nu0) rfl h) (by omega), trivial⟩
  have hg : GoodE spNone 1 (pgB h ot nu0 [(1, nM, nM, false)] [] f0 trivial) [netL] := ⟨ok_spNone, fun x hx => (by
    rcases List.mem_singleton.1 hx with rfl
    exact semNet h isB_pg (by kernel_rfl) (dv_ho (x := ot 2) rfl) (dv_ho (x := ot 3) rfl) (by rw [← h17]; exact dv_ho rfl))⟩
  exact EntOk.congr (P := pgB h ot nu0 [(1, nM, nM, false)] [] f0 trivial) (P' := P) hd hp (run_entQ (Q := pdB [(1, nM, nM, false)] []) (pats := psNet) rfl hmB hg net_run (by kernel_rfl) (Nat.zero_le _) rfl)
end
end Sy
end Go.Proofs.Ytlmnhlmgbcpclaa
