import Derived.Test.YtpidgcmdimjkoaaVW
import Derived.Test.YtpidgcmdimjkoaaDZ
/- The law GaugeDips, reckoned with symbols. -/
set_option linter.unusedVariables false
set_option linter.unusedSimpArgs false
namespace Go.Proofs.Ytpidgcmdimjkoaa
open Go.RowKit
namespace Sy
open Go.RowKit

def volN : Value := .iface 103 (.tuple #[hDip, .int .i64 0, .int .i64 100000])
def volV : Value := .iface 104 (.tuple #[.int .i64 0, volN])
def volB (N : Nat) : Value := .iface 104 (.tuple #[errV N, volN])
def pGood (N : Nat) (no : Bool) : List Fact := [(0, errV N, .int .i64 0, true), (2, .int .i64 0, hDip, true), (2, hDip, .int .i64 100000, true), (1, seekV 123 N hDip, seekV 122 N hDip, no)]
def pLow (N : Nat) : List Fact := [(0, errV N, .int .i64 0, true), (0, volV, .int .i64 0, false), (2, .int .i64 0, hDip, false), (0, volV, .int .i64 2, true)]
def pHigh (N : Nat) : List Fact := [(0, errV N, .int .i64 0, true), (0, volV, .int .i64 0, false), (2, .int .i64 0, hDip, true), (2, hDip, .int .i64 100000, false), (0, volV, .int .i64 2, true)]
def pBad (N : Nat) : List Fact := [(0, errV N, .int .i64 0, false), (0, volB N, .int .i64 0, false), (0, volB N, errV N, true)]
noncomputable def spPG (N : Nat) (no : Bool) : CallF := spOr (spDB N) (spOr (spDip 14 N hDip no) (spOr (spSeek 37 122 N hDip) (spSeek 38 123 N hDip)))
noncomputable def spPB (N : Nat) : CallF := spOr (spDB N) (spOr (spNum numsT) (spOr (spList 29 104) (spCask 52 isName0)))
noncomputable def spPD (N : Nat) : CallF := spOr (spPB N) (spAreas 41 (radiiV N))
section
variable (s : ByteArray) (bung dip : Int) (xs : List Int) (O : Obj → Prop)
theorem pRunA2 (ok) : fstW (evDS (pgE s bung dip xs O (pGood 2 true) ok) (spPG 2 true) 2000 60 (.fn 4) [winV 2, hDip] (hpW 2) 1) = some (.bool true, some (.win (rowV 2))) := by kernel_rfl
theorem pRunB2 (ok) : fstW (evDS (pgE s bung dip xs O (pGood 2 false) ok) (spPG 2 false) 2000 60 (.fn 4) [winV 2, hDip] (hpW 2) 1) = some (.bool true, some (.win (rowV 2))) := by kernel_rfl
theorem pLow2_run (ok) : fstW (evDS (pgE s bung dip xs O (pLow 2) ok) (spPD 2) 2000 60 (.fn 4) [winV 2, hDip] (hpW 2) 1) = some (.bool true, some (.win (rowV 2))) := by kernel_rfl
theorem pHigh2_run (ok) : fstW (evDS (pgE s bung dip xs O (pHigh 2) ok) (spPD 2) 2000 60 (.fn 4) [winV 2, hDip] (hpW 2) 1) = some (.bool true, some (.win (rowV 2))) := by kernel_rfl
theorem pRunA3 (ok) : fstW (evDS (pgE s bung dip xs O (pGood 3 true) ok) (spPG 3 true) 2000 60 (.fn 4) [winV 3, hDip] (hpW 3) 1) = some (.bool true, some (.win (rowV 3))) := by kernel_rfl
theorem pRunB3 (ok) : fstW (evDS (pgE s bung dip xs O (pGood 3 false) ok) (spPG 3 false) 2000 60 (.fn 4) [winV 3, hDip] (hpW 3) 1) = some (.bool true, some (.win (rowV 3))) := by kernel_rfl
theorem pLow3_run (ok) : fstW (evDS (pgE s bung dip xs O (pLow 3) ok) (spPD 3) 2000 60 (.fn 4) [winV 3, hDip] (hpW 3) 1) = some (.bool true, some (.win (rowV 3))) := by kernel_rfl
theorem pHigh3_run (ok) : fstW (evDS (pgE s bung dip xs O (pHigh 3) ok) (spPD 3) 2000 60 (.fn 4) [winV 3, hDip] (hpW 3) 1) = some (.bool true, some (.win (rowV 3))) := by kernel_rfl
theorem pRunA4 (ok) : fstW (evDS (pgE s bung dip xs O (pGood 4 true) ok) (spPG 4 true) 2000 60 (.fn 4) [winV 4, hDip] (hpW 4) 1) = some (.bool true, some (.win (rowV 4))) := by kernel_rfl
theorem pRunB4 (ok) : fstW (evDS (pgE s bung dip xs O (pGood 4 false) ok) (spPG 4 false) 2000 60 (.fn 4) [winV 4, hDip] (hpW 4) 1) = some (.bool true, some (.win (rowV 4))) := by kernel_rfl
theorem pLow4_run (ok) : fstW (evDS (pgE s bung dip xs O (pLow 4) ok) (spPD 4) 2000 60 (.fn 4) [winV 4, hDip] (hpW 4) 1) = some (.bool true, some (.win (rowV 4))) := by kernel_rfl
theorem pHigh4_run (ok) : fstW (evDS (pgE s bung dip xs O (pHigh 4) ok) (spPD 4) 2000 60 (.fn 4) [winV 4, hDip] (hpW 4) 1) = some (.bool true, some (.win (rowV 4))) := by kernel_rfl
theorem pBad1_run (ok) : fstW (evDS (pgE s bung dip xs O (pBad 1) ok) (spPB 1) 2000 60 (.fn 4) [winV 1, hDip] (hpW 1) 1) = some (.bool true, some (.win (rowV 1))) := by kernel_rfl
theorem pBad2_run (ok) : fstW (evDS (pgE s bung dip xs O (pBad 2) ok) (spPB 2) 2000 60 (.fn 4) [winV 2, hDip] (hpW 2) 1) = some (.bool true, some (.win (rowV 2))) := by kernel_rfl
theorem pBad3_run (ok) : fstW (evDS (pgE s bung dip xs O (pBad 3) ok) (spPB 3) 2000 60 (.fn 4) [winV 3, hDip] (hpW 3) 1) = some (.bool true, some (.win (rowV 3))) := by kernel_rfl
theorem pBad4_run (ok) : fstW (evDS (pgE s bung dip xs O (pBad 4) ok) (spPB 4) 2000 60 (.fn 4) [winV 4, hDip] (hpW 4) 1) = some (.bool true, some (.win (rowV 4))) := by kernel_rfl
theorem pBad13_run (ok) : fstW (evDS (pgE s bung dip xs O (pBad 13) ok) (spPB 13) 2000 60 (.fn 4) [winV 13, hDip] (hpW 13) 1) = some (.bool true, some (.win (rowV 13))) := by kernel_rfl
theorem pBad14_run (ok) : fstW (evDS (pgE s bung dip xs O (pBad 14) ok) (spPB 14) 2000 60 (.fn 4) [winV 14, hDip] (hpW 14) 1) = some (.bool true, some (.win (rowV 14))) := by kernel_rfl
end
def argsPY : List Value := [c3, hN 4]
noncomputable def spYP : CallF := spOr spYE (spOr (spCopyY 13) (spOr (spNum numsT) (spOr (spList 29 104) (spCask 52 isName0))))
def volY : Value := .iface 104 (.tuple #[errV 0, .iface 103 (.tuple #[hN 4, .int .i64 0, .int .i64 100000])])
def yBadP : List Fact := [(0, errV 0, .int .i64 0, false), (0, volY, .int .i64 0, false), (0, volY, errV 0, true)]
theorem pBig_run (s : ByteArray) (bung : Int) (v : Value) (is : List Int) (ok) : fstO (evDS (pgY s bung v is [] ok) (spYS false) 2000 60 (.fn 4) argsPY .leaf 0) = some (.bool true) := by kernel_rfl
theorem pNone_run (s : ByteArray) (bung : Int) (v : Value) (is : List Int) (ok) : fstO (evDS (pgY s bung v is yBadP ok) spYP 2000 60 (.fn 4) argsPY .leaf 0) = some (.bool true) := by kernel_rfl
end Sy
end Go.Proofs.Ytpidgcmdimjkoaa

/- GaugeDips of any cask and volume. -/
set_option linter.unusedVariables false
set_option linter.unusedSimpArgs false
namespace Go.Proofs.Ytpidgcmdimjkoaa
open Go.RowKit
namespace Sy
open Go.RowKit

section
variable {s : ByteArray} {bung dip : Int} {xs : List Int} {O : Obj → Prop} {N : Nat}
theorem okPG {l ok} {no : Bool} (hs : smallB s N bung = true) (hN : N = 2 ∨ N = 3 ∨ N = 4) (hl : xs.length = N * 3) (hz : (caskS s bung xs).2 = 0) (v0 : 0 ≤ dip) (v1 : dip ≤ 100000) (hno : decide ((tmS bung xs N dip : Int) ≤ enS bung xs N dip) = no) : CallOk (pgE s bung dip xs O l ok) (spPG N no) := by
  have hc := caskS_ok hl hz
  have hlN : xs.length / 3 = N := by omega
  refine ok_spOr (okDB hs) (ok_spOr (ok_spDip rfl rfl hN hl dDip hz v0 v1 hno) (ok_spOr (ok_spSeek rfl rfl (by decide) hl dDip fun gs os cap w hw => ?_) (ok_spSeek rfl rfl (by decide) hl dDip fun gs os cap w hw => ?_)))
  · have h := least_any (s := s) (cap := cap) hN hl hc dip w hw
    rw [show (enS bung xs N dip : Int) = intG s 122 (bung :: dip :: xs) from by show _ = (enS bung xs (xs.length / 3) dip : Int); rw [hlN]] at h
    exact h
  · have h := most_any (s := s) (cap := cap) hN hl hc dip w hw
    rw [moS_eq hc v0, show (tmS bung xs N dip : Int) - 1 = intG s 123 (bung :: dip :: xs) from by show _ = (tmS bung xs (xs.length / 3) dip : Int) - 1; rw [hlN]] at h
    exact h
theorem okPB {l ok} (hs : smallB s N bung = true) : CallOk (pgE s bung dip xs O l ok) (spPB N) :=
  ok_spOr (okDB hs) (ok_spOr (ok_spNum (ok_numsT rfl rfl)) (ok_spOr (ok_spList (ok_listG rfl rfl)) (ok_spCask rfl rfl (isName0_rel rfl rfl))))
theorem okPD {l ok} (hs : smallB s N bung = true) (hc : CaskOk bung xs N) : CallOk (pgE s bung dip xs O l ok) (spPD N) := ok_spOr (okPB hs) (ok_spAreas rfl rfl (radii_ok hc))
theorem dVolV : Dv (D0 s bung dip xs O) volV (numE dip 0 100000) := by
  have h : Dv (D0 s bung dip xs O) volV (firstL [0, numE dip 0 100000]) := app2 (t := 104) (by decide) (.lit 0) (app3 (t := 103) (by decide) dDip (.lit 0) (.lit 100000))
  rw [firstL_cons0 rfl] at h
  by_cases e : numE dip 0 100000 = 0
  · rw [e] at h ⊢; exact h
  · rw [firstL_cons1 e] at h; exact h
theorem okPGood {no : Bool} (hl : xs.length = N * 3) (hz : (caskS s bung xs).2 = 0) (v0 : 0 ≤ dip) (v1 : dip ≤ 100000) (hno : decide ((tmS bung xs N dip : Int) ≤ enS bung xs N dip) = no) : ∀ f ∈ pGood N no, OkF (D0 s bung dip xs O) f := by
  have hlN : xs.length / 3 = N := by omega
  have d1 := dSeek (s := s) (bung := bung) (dip := dip) (O := O) hl dDip 122 (by decide)
  have d2 := dSeek (s := s) (bung := bung) (dip := dip) (O := O) hl dDip 123 (by decide)
  have f1 : intG s 122 (bung :: dip :: xs) = (enS bung xs N dip : Int) := by show (enS bung xs (xs.length / 3) dip : Int) = _; rw [hlN]
  have f2 : intG s 123 (bung :: dip :: xs) = (tmS bung xs N dip : Int) - 1 := by show (tmS bung xs (xs.length / 3) dip : Int) - 1 = _; rw [hlN]
  rw [f1] at d1
  rw [f2] at d2
  intro f hf
  simp only [pGood, List.mem_cons, List.not_mem_nil, or_false] at hf
  rcases hf with rfl | rfl | rfl | rfl
  · exact eq_yes (dErr hl) (.lit 0) hz
  · exact le_yes (.lit 0) dDip v0
  · exact le_yes dDip (.lit 100000) v1
  · cases no with
    | true => exact lt_yes d2 d1 (by have := of_decide_eq_true hno; omega)
    | false => exact lt_no d2 d1 (by have := of_decide_eq_false hno; omega)
theorem okPLow (hl : xs.length = N * 3) (hz : (caskS s bung xs).2 = 0) (v0 : ¬ 0 ≤ dip) : ∀ f ∈ pLow N, OkF (D0 s bung dip xs O) f := by
  have e := numE_no (n := dip) (lo := 0) (hi := 100000) (by omega)
  intro f hf
  simp only [pLow, List.mem_cons, List.not_mem_nil, or_false] at hf
  rcases hf with rfl | rfl | rfl | rfl
  · exact eq_yes (dErr hl) (.lit 0) hz
  · exact eq_no dVolV (.lit 0) (by rw [e]; decide)
  · exact le_no (.lit 0) dDip v0
  · exact eq_yes dVolV (.lit 2) e
theorem okPHigh (hl : xs.length = N * 3) (hz : (caskS s bung xs).2 = 0) (v0 : 0 ≤ dip) (v1 : ¬ dip ≤ 100000) : ∀ f ∈ pHigh N, OkF (D0 s bung dip xs O) f := by
  have e := numE_no (n := dip) (lo := 0) (hi := 100000) (by omega)
  intro f hf
  simp only [pHigh, List.mem_cons, List.not_mem_nil, or_false] at hf
  rcases hf with rfl | rfl | rfl | rfl | rfl
  · exact eq_yes (dErr hl) (.lit 0) hz
  · exact eq_no dVolV (.lit 0) (by rw [e]; decide)
  · exact le_yes (.lit 0) dDip v0
  · exact le_no dDip (.lit 100000) v1
  · exact eq_yes dVolV (.lit 2) e
theorem okPBad (hl : xs.length = N * 3) (hz : (caskS s bung xs).2 ≠ 0) : ∀ f ∈ pBad N, OkF (D0 s bung dip xs O) f := by
  have h : Dv (D0 s bung dip xs O) (volB N) (firstL [(caskS s bung xs).2, numE dip 0 100000]) := app2 (t := 104) (by decide) (dErr hl) (app3 (t := 103) (by decide) dDip (.lit 0) (.lit 100000))
  rw [firstL_cons1 hz] at h
  intro f hf
  simp only [pBad, List.mem_cons, List.not_mem_nil, or_false] at hf
  rcases hf with rfl | rfl | rfl
  · exact eq_no (dErr hl) (.lit 0) hz
  · exact eq_no h (.lit 0) hz
  · exact eq_yes h (dErr hl) rfl
theorem okYP {sa : Option Addr} {cap : Nat} {is : List Int} {l ok} (hs : smallB s 0 bung = true) : CallOk (pgY s bung (.slice sa 0 cap) is l ok) spYP :=
  ok_spOr (okYE hs) (ok_spOr (ok_spCopyY rfl rfl) (ok_spOr (ok_spNum (ok_numsT rfl rfl)) (ok_spOr (ok_spList (ok_listG rfl rfl)) (ok_spCask rfl rfl (isName0_rel rfl rfl)))))
theorem okYBadP {sa : Option Addr} {cap : Nat} {is : List Int} : ∀ f ∈ yBadP, OkF (DY s bung (.slice sa 0 cap) is) f := by
  have db : Dv (DY s bung (.slice sa 0 cap) is) hBung bung := .hole rfl
  have de : Dv (DY s bung (.slice sa 0 cap) is) (errV 0) (caskS s bung []).2 := app1 (t := 121) (by decide) db
  have hne := caskS0_ne s bung
  have h : Dv (DY s bung (.slice sa 0 cap) is) volY (firstL [(caskS s bung []).2, numE (is.getD 0 0) 0 100000]) := app2 (t := 104) (by decide) de (app3 (t := 103) (by decide) (.hole rfl) (.lit 0) (.lit 100000))
  rw [firstL_cons1 hne] at h
  intro f hf
  simp only [yBadP, List.mem_cons, List.not_mem_nil, or_false] at hf
  rcases hf with rfl | rfl | rfl
  · exact eq_no de (.lit 0) hne
  · exact eq_no h (.lit 0) hne
  · exact eq_yes h de rfl
end
theorem dips_win (s : ByteArray) (bung dip : Int) (xs : List Int) (N gs os cap : Nat) (w : World) (hN : N = 1 ∨ N = 2 ∨ N = 3 ∨ N = 4 ∨ N = 13 ∨ N = 14) (hl : xs.length = N * 3) (hw : WinAt gs os xs w) (hs : smallB s N bung = true) :
    Calls Try.prog 4 #[.agg #[.string s, .int .i64 bung, .slice (some ⟨gs, os, none⟩) N cap], .int .i64 dip] w fun e w' => e = .returned (.bool true) ∧ Below w.heap.size w w' := by
  obtain ⟨ob, hob⟩ : ∃ ob, w.heap[gs]? = some ob := by obtain ⟨c, e, f, h, _⟩ := hw; exact ⟨_, h⟩
  by_cases hz : (caskS s bung xs).2 = 0
  · have hc := caskS_ok hl hz
    have h2 := hc.two
    have h12 := hc.twelve
    have hN : N = 2 ∨ N = 3 ∨ N = 4 := by omega
    by_cases h0 : 0 ≤ dip
    · by_cases h1 : dip ≤ 100000
      · cases hno : decide ((tmS bung xs N dip : Int) ≤ enS bung xs N dip) with
        | true =>
          rcases hN with rfl | rfl | rfl
          · exact law_win hl hw hob (okPG hs (by omega) hl hz h0 h1 hno) (pRunA2 s bung dip xs _ (okPGood hl hz h0 h1 hno))
          · exact law_win hl hw hob (okPG hs (by omega) hl hz h0 h1 hno) (pRunA3 s bung dip xs _ (okPGood hl hz h0 h1 hno))
          · exact law_win hl hw hob (okPG hs (by omega) hl hz h0 h1 hno) (pRunA4 s bung dip xs _ (okPGood hl hz h0 h1 hno))
        | false =>
          rcases hN with rfl | rfl | rfl
          · exact law_win hl hw hob (okPG hs (by omega) hl hz h0 h1 hno) (pRunB2 s bung dip xs _ (okPGood hl hz h0 h1 hno))
          · exact law_win hl hw hob (okPG hs (by omega) hl hz h0 h1 hno) (pRunB3 s bung dip xs _ (okPGood hl hz h0 h1 hno))
          · exact law_win hl hw hob (okPG hs (by omega) hl hz h0 h1 hno) (pRunB4 s bung dip xs _ (okPGood hl hz h0 h1 hno))
      · rcases hN with rfl | rfl | rfl
        · exact law_win hl hw hob (okPD hs hc) (pHigh2_run s bung dip xs _ (okPHigh hl hz h0 h1))
        · exact law_win hl hw hob (okPD hs hc) (pHigh3_run s bung dip xs _ (okPHigh hl hz h0 h1))
        · exact law_win hl hw hob (okPD hs hc) (pHigh4_run s bung dip xs _ (okPHigh hl hz h0 h1))
    · rcases hN with rfl | rfl | rfl
      · exact law_win hl hw hob (okPD hs hc) (pLow2_run s bung dip xs _ (okPLow hl hz h0))
      · exact law_win hl hw hob (okPD hs hc) (pLow3_run s bung dip xs _ (okPLow hl hz h0))
      · exact law_win hl hw hob (okPD hs hc) (pLow4_run s bung dip xs _ (okPLow hl hz h0))
  · rcases hN with rfl | rfl | rfl | rfl | rfl | rfl
    · exact law_win hl hw hob (okPB hs) (pBad1_run s bung dip xs _ (okPBad hl hz))
    · exact law_win hl hw hob (okPB hs) (pBad2_run s bung dip xs _ (okPBad hl hz))
    · exact law_win hl hw hob (okPB hs) (pBad3_run s bung dip xs _ (okPBad hl hz))
    · exact law_win hl hw hob (okPB hs) (pBad4_run s bung dip xs _ (okPBad hl hz))
    · exact law_win hl hw hob (okPB hs) (pBad13_run s bung dip xs _ (okPBad hl hz))
    · exact law_win hl hw hob (okPB hs) (pBad14_run s bung dip xs _ (okPBad hl hz))
theorem argsPY_rel {P : Pg} {s : ByteArray} {bung dip : Int} {sa : Option Addr} {N cap : Nat} (hd : P.den = DY s bung (.slice sa N cap) [dip]) (M : Mp) : LRel P M argsPY [.agg #[.string s, .int .i64 bung, .slice sa N cap], .int .i64 dip] :=
  LRel.cons (c3_relY hd M) (LRel.cons (dY hd M 0) (LRel.nil _))
theorem dips_any (s : ByteArray) (bung dip : Int) (sa : Option Addr) (N cap b off : Nat) (f : Nat → Nat → Int) (w : World) (hs : 0 < N → sa = some ⟨b, off, none⟩) (hx : ∀ i j, i < N → j < 3 → w.cell? ⟨b, off + i * 3 + j, none⟩ = some (.int .i64 (f i j))) :
    Calls Try.prog 4 #[.agg #[.string s, .int .i64 bung, .slice sa N cap], .int .i64 dip] w fun e w' => e = .returned (.bool true) ∧ Below w.heap.size w w' := by
  cases hsm : smallB s N bung with
  | false => exact run_true (P := pgY s bung (.slice sa N cap) [dip] [] ok_none) rfl (by kernel_rfl) (okYS hsm) (pBig_run s bung (.slice sa N cap) [dip] ok_none) (fun M => argsPY_rel (N := N) rfl M) w
  | true =>
    have hN := small_N hsm
    by_cases h0 : N = 0
    · subst h0
      exact run_true (P := pgY s bung (.slice sa 0 cap) [dip] yBadP okYBadP) rfl (by kernel_rfl) (okYP hsm) (pNone_run s bung (.slice sa 0 cap) [dip] okYBadP) (fun M => argsPY_rel (N := 0) rfl M) w
    · rw [hs (by omega)]
      refine dips_win s bung dip ((List.range (N * 3)).map fun k => f (k / 3) (k % 3)) N b off cap w (by omega) (by simp) (winAt_of (by omega) fun k hk => ?_) hsm
      have := hx (k / 3) (k % 3) (by omega) (by omega)
      rwa [show off + k / 3 * 3 + k % 3 = off + k by omega] at this
end Sy
end Go.Proofs.Ytpidgcmdimjkoaa
