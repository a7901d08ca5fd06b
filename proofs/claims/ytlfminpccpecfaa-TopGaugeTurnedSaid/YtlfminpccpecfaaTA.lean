/- The law TopGaugeTurned, reckoned with symbols. -/
import Derived.Test.YtlfminpccpecfaaRJ
import Derived.Test.YtlfminpccpecfaaRK
import Derived.Test.YtlfminpccpecfaaMA
set_option linter.unusedVariables false
set_option linter.unusedSimpArgs false
namespace Go.Proofs.Ytlfminpccpecfaa
open Go.RowKit
namespace Sy
open Go.RowKit

set_option maxRecDepth 100000 in
theorem awakeT_run : fstO (evDS (pg0 Try.prog) spNone 2000 60 (.fn 4) [] .leaf 0) = some (.bool true) := by kernel_rfl
theorem awakeT (w : World) : Calls Try.prog 4 #[] w fun e w' => e = .returned (.bool true) ∧ Below w.heap.size w w' :=
  run_true rfl (by kernel_rfl) ok_spNone awakeT_run (fun M => LRel.nil M) w
def dip2 : Value := .iface 2 (.tuple #[topV, hDip])
def lv2T : Value := .iface 2 (.tuple #[dip2, hBung])
def lv3T : Value := .iface 2 (.tuple #[topV, hBung])
def dipW (d : Value) : Value := .iface 104 (.tuple #[.int .i64 0, .iface 103 (.tuple #[d, .int .i64 0, topV])])
def loW (lv : Value) : Nat → Value
  | 0 => .int .i64 0
  | k + 1 => .iface 1 (.tuple #[loW lv k, .iface 3 (.tuple #[.iface 2 (.tuple #[hSt (k + 1) 0, hSt k 0]), .iface 101 (.tuple #[.iface 4 (.tuple #[hSt k 1, hSt (k + 1) 1]), lv])])])
def hiW (lv : Value) : Nat → Value
  | 0 => .int .i64 0
  | k + 1 => .iface 1 (.tuple #[hiW lv k, .iface 3 (.tuple #[.iface 2 (.tuple #[hSt (k + 1) 0, hSt k 0]), .iface 102 (.tuple #[.iface 5 (.tuple #[hSt k 2, hSt (k + 1) 2]), lv])])])
def fLo (lv : Value) (N : Nat) : Value := .iface 105 (.tuple #[loW lv (N - 1)])
def fHi (lv : Value) (N : Nat) : Value := .iface 106 (.tuple #[hiW lv (N - 1)])
def xT (N : Nat) : Value := .iface 2 (.tuple #[.iface 2 (.tuple #[fLo lv3T N, fLo lvV N]), fLo lv2T N])
def yT (N : Nat) : Value := .iface 2 (.tuple #[.iface 1 (.tuple #[fHi lvV N, fHi lv2T N]), fHi lv3T N])
def tGood (N : Nat) : List Fact := [(0, errV N, .int .i64 0, true), (2, .int .i64 0, hDip, true), (2, hDip, topV, true), (0, dipW hDip, .int .i64 0, true), (0, dipW dip2, .int .i64 0, true), (0, dipW topV, .int .i64 0, true), (2, .int .i64 0, xT N, true), (2, xT N, .int .i64 1, true), (2, .int .i64 0, yT N, true), (2, yT N, .int .i64 1, true)]
def tBad (N : Nat) : List Fact := [(0, errV N, .int .i64 0, false)]
def tLow (N : Nat) : List Fact := [(0, errV N, .int .i64 0, true), (2, .int .i64 0, hDip, false)]
def tHigh (N : Nat) : List Fact := [(0, errV N, .int .i64 0, true), (2, .int .i64 0, hDip, true), (2, hDip, topV, false)]
def numsT : List NumSp := [(20, 103, 3, []), (49, 105, 1, [100000]), (50, 106, 1, [100000])]
theorem ok_numsT {P : Pg} (hp : P.prog = Try.prog) {s : ByteArray} {hole : Nat → Value} {O : Obj → Prop} (hd : P.den = denG s hole O) : ∀ x ∈ numsT, NumOk P x := by
  intro x hx
  simp only [numsT, List.mem_cons, List.not_mem_nil, or_false] at hx
  rcases hx with rfl | rfl | rfl
  · refine ⟨by decide, fun xs w hl => ?_⟩
    match xs, hl with
    | [n, lo, hi], _ => rw [hp, hd]; exact numS n lo hi w
  · refine ⟨by decide, fun xs w hl => ?_⟩
    match xs, hl with
    | [n], _ => rw [hp, hd]; exact still_call (floorP_any n w)
  · refine ⟨by decide, fun xs w hl => ?_⟩
    match xs, hl with
    | [n], _ => rw [hp, hd]; exact still_call (ceilP_any n w)
noncomputable def spTB (N : Nat) : CallF := spOr (spTrue 4) (spOr (spSmall 5 N true) (spCaskR 15 isName0))
noncomputable def spT (N : Nat) : CallF := spOr (spTB N) (spOr (spNum numsT) (spOr (spList 17 104) (spOr (spCask 32 isName0) (spOr (spAreas 21 (radiiV N)) (spOr (spUp 22 lvV) (spOr (spUp 22 lv2T) (spUp 22 lv3T)))))))
section
variable (s : ByteArray) (bung dip : Int) (xs : List Int) (O : Obj → Prop)
theorem tRun2 (ok) : fstW (evDS (pgE s bung dip xs O (tGood 2) ok) (spT 2) 2000 60 (.fn 3) [winV 2, hDip] (hpW 2) 1) = some (.bool true, some (.win (rowV 2))) := by kernel_rfl
theorem tLow2_run (ok) : fstW (evDS (pgE s bung dip xs O (tLow 2) ok) (spTB 2) 2000 60 (.fn 3) [winV 2, hDip] (hpW 2) 1) = some (.bool true, some (.win (rowV 2))) := by kernel_rfl
theorem tHigh2_run (ok) : fstW (evDS (pgE s bung dip xs O (tHigh 2) ok) (spTB 2) 2000 60 (.fn 3) [winV 2, hDip] (hpW 2) 1) = some (.bool true, some (.win (rowV 2))) := by kernel_rfl
theorem tRun3 (ok) : fstW (evDS (pgE s bung dip xs O (tGood 3) ok) (spT 3) 2000 60 (.fn 3) [winV 3, hDip] (hpW 3) 1) = some (.bool true, some (.win (rowV 3))) := by kernel_rfl
theorem tLow3_run (ok) : fstW (evDS (pgE s bung dip xs O (tLow 3) ok) (spTB 3) 2000 60 (.fn 3) [winV 3, hDip] (hpW 3) 1) = some (.bool true, some (.win (rowV 3))) := by kernel_rfl
theorem tHigh3_run (ok) : fstW (evDS (pgE s bung dip xs O (tHigh 3) ok) (spTB 3) 2000 60 (.fn 3) [winV 3, hDip] (hpW 3) 1) = some (.bool true, some (.win (rowV 3))) := by kernel_rfl
theorem tRun4 (ok) : fstW (evDS (pgE s bung dip xs O (tGood 4) ok) (spT 4) 2000 60 (.fn 3) [winV 4, hDip] (hpW 4) 1) = some (.bool true, some (.win (rowV 4))) := by kernel_rfl
theorem tLow4_run (ok) : fstW (evDS (pgE s bung dip xs O (tLow 4) ok) (spTB 4) 2000 60 (.fn 3) [winV 4, hDip] (hpW 4) 1) = some (.bool true, some (.win (rowV 4))) := by kernel_rfl
theorem tHigh4_run (ok) : fstW (evDS (pgE s bung dip xs O (tHigh 4) ok) (spTB 4) 2000 60 (.fn 3) [winV 4, hDip] (hpW 4) 1) = some (.bool true, some (.win (rowV 4))) := by kernel_rfl
theorem tBad1_run (ok) : fstW (evDS (pgE s bung dip xs O (tBad 1) ok) (spTB 1) 2000 60 (.fn 3) [winV 1, hDip] (hpW 1) 1) = some (.bool true, some (.win (rowV 1))) := by kernel_rfl
theorem tBad2_run (ok) : fstW (evDS (pgE s bung dip xs O (tBad 2) ok) (spTB 2) 2000 60 (.fn 3) [winV 2, hDip] (hpW 2) 1) = some (.bool true, some (.win (rowV 2))) := by kernel_rfl
theorem tBad3_run (ok) : fstW (evDS (pgE s bung dip xs O (tBad 3) ok) (spTB 3) 2000 60 (.fn 3) [winV 3, hDip] (hpW 3) 1) = some (.bool true, some (.win (rowV 3))) := by kernel_rfl
theorem tBad4_run (ok) : fstW (evDS (pgE s bung dip xs O (tBad 4) ok) (spTB 4) 2000 60 (.fn 3) [winV 4, hDip] (hpW 4) 1) = some (.bool true, some (.win (rowV 4))) := by kernel_rfl
theorem tBad13_run (ok) : fstW (evDS (pgE s bung dip xs O (tBad 13) ok) (spTB 13) 2000 60 (.fn 3) [winV 13, hDip] (hpW 13) 1) = some (.bool true, some (.win (rowV 13))) := by kernel_rfl
theorem tBad14_run (ok) : fstW (evDS (pgE s bung dip xs O (tBad 14) ok) (spTB 14) 2000 60 (.fn 3) [winV 14, hDip] (hpW 14) 1) = some (.bool true, some (.win (rowV 14))) := by kernel_rfl
end
noncomputable def spTZ : CallF := spOr (spTrue 4) (spOr (spSmall0 5) (spCaskR0 15))
theorem tNone_run (s : ByteArray) (bung dip : Int) (sa : Option Addr) (cap : Nat) (ok) : fstO (evDS (pgZ s bung dip sa cap (tBad 0) ok) spTZ 2000 60 (.fn 3) [c3, hDip] .leaf 0) = some (.bool true) := by kernel_rfl
section
variable {s : ByteArray} {bung dip : Int} {xs : List Int} {O : Obj → Prop} {N : Nat}
theorem okTB {l ok} (hs : smallB s N bung = true) : CallOk (pgE s bung dip xs O l ok) (spTB N) :=
  ok_spOr (ok_spTrue awakeT) (ok_spOr (ok_spSmall rfl rfl hs) (ok_spCaskR rfl rfl (isName0_rel rfl rfl)))
theorem dDip2 (hc : CaskOk bung xs N) (h0 : 0 ≤ dip) (h1 : dip ≤ 2 * bung) : Dv (D0 s bung dip xs O) dip2 (2 * bung - dip) := by
  have h8 := hc.hi
  have h : Dv (D0 s bung dip xs O) dip2 (binN 2 (2 * bung) dip) := .bin (t := 2) (by decide) (dTopV hc) dDip
  rwa [show binN 2 (2 * bung) dip = 2 * bung - dip from IntWalk.i64_in _ (by omega)] at h
theorem dLvA (hc : CaskOk bung xs N) (h0 : 0 ≤ dip) (h1 : dip ≤ 2 * bung) : Dv (D0 s bung dip xs O) lvV (dip - bung) := by
  have h8 := hc.hi
  have h := dLv (s := s) (bung := bung) (dip := dip) (xs := xs) (O := O)
  rwa [show IntKind.i64.wrap (dip - bung) = dip - bung from IntWalk.i64_in _ (by omega)] at h
theorem dLv2T (hc : CaskOk bung xs N) (h0 : 0 ≤ dip) (h1 : dip ≤ 2 * bung) : Dv (D0 s bung dip xs O) lv2T (-(dip - bung)) := by
  have h8 := hc.hi
  have h : Dv (D0 s bung dip xs O) lv2T (binN 2 (2 * bung - dip) bung) := .bin (t := 2) (by decide) (dDip2 hc h0 h1) dBung
  rwa [show binN 2 (2 * bung - dip) bung = -(dip - bung) from by show IntKind.i64.wrap (2 * bung - dip - bung) = _; rw [IntWalk.i64_in _ (by omega)]; omega] at h
theorem dLv3T (hc : CaskOk bung xs N) : Dv (D0 s bung dip xs O) lv3T bung := by
  have h8 := hc.hi
  have h10 := hc.lo
  have h : Dv (D0 s bung dip xs O) lv3T (binN 2 (2 * bung) bung) := .bin (t := 2) (by decide) (dTopV hc) dBung
  rwa [show binN 2 (2 * bung) bung = bung from by show IntKind.i64.wrap (2 * bung - bung) = bung; rw [IntWalk.i64_in _ (by omega)]; omega] at h
theorem okT {l ok} (hs : smallB s N bung = true) (hc : CaskOk bung xs N) (h0 : 0 ≤ dip) (h1 : dip ≤ 2 * bung) : CallOk (pgE s bung dip xs O l ok) (spT N) := by
  have h8 := hc.hi
  have h10 := hc.lo
  exact ok_spOr (okTB hs) (ok_spOr (ok_spNum (ok_numsT rfl rfl)) (ok_spOr (ok_spList (ok_listG rfl rfl)) (ok_spOr (ok_spCask rfl rfl (isName0_rel rfl rfl)) (ok_spOr (ok_spAreas rfl rfl (radii_ok hc))
    (ok_spOr (ok_spUp rfl rfl (dLvA hc h0 h1) (by omega) (by omega)) (ok_spOr (ok_spUp rfl rfl (dLv2T hc h0 h1) (by omega) (by omega)) (ok_spUp rfl rfl (dLv3T hc) (by omega) (by omega))))))))
theorem dDipW (hc : CaskOk bung xs N) {d : Value} {z : Int} (hd : Dv (D0 s bung dip xs O) d z) (h0 : 0 ≤ z) (h1 : z ≤ 2 * bung) : Dv (D0 s bung dip xs O) (dipW d) 0 := by
  have h : Dv (D0 s bung dip xs O) (dipW d) (firstL [0, numE z 0 (2 * bung)]) := app2 (t := 104) (by decide) (.lit 0) (app3 (t := 103) (by decide) hd (.lit 0) (dTopV hc))
  rw [firstL_cons0 rfl, firstL_cons0 (numE_yes h0 h1)] at h
  exact h
theorem dLoW {lv : Value} {L : Int} (h : Dv (D0 s bung dip xs O) lv L) : ∀ k, Dv (D0 s bung dip xs O) (loW lv k) (loZ L xs k)
  | 0 => .lit 0
  | k + 1 => .bin (t := 1) (by decide) (dLoW h k) (.bin (t := 3) (by decide) (.bin (t := 2) (by decide) (dSt (k + 1) 0) (dSt k 0)) (app2 (by decide) (.bin (t := 4) (by decide) (dSt k 1) (dSt (k + 1) 1)) h))
theorem dHiW {lv : Value} {L : Int} (h : Dv (D0 s bung dip xs O) lv L) : ∀ k, Dv (D0 s bung dip xs O) (hiW lv k) (hiZ L xs k)
  | 0 => .lit 0
  | k + 1 => .bin (t := 1) (by decide) (dHiW h k) (.bin (t := 3) (by decide) (.bin (t := 2) (by decide) (dSt (k + 1) 0) (dSt k 0)) (app2 (by decide) (.bin (t := 5) (by decide) (dSt k 2) (dSt (k + 1) 2)) h))
theorem dFLo {lv : Value} {L : Int} (h : Dv (D0 s bung dip xs O) lv L) : Dv (D0 s bung dip xs O) (fLo lv N) (floorP (loZ L xs (N - 1))) := app1 (t := 105) (by decide) (dLoW h (N - 1))
theorem dFHi {lv : Value} {L : Int} (h : Dv (D0 s bung dip xs O) lv L) : Dv (D0 s bung dip xs O) (fHi lv N) (ceilP (hiZ L xs (N - 1))) := app1 (t := 106) (by decide) (dHiW h (N - 1))
theorem ends_bd {bung : Int} {xs : List Int} {N : Nat} (hc : CaskOk bung xs N) (L : Int) : (0 ≤ floorP (loZ L xs (N - 1)) ∧ floorP (loZ L xs (N - 1)) ≤ 1000000) ∧ (0 ≤ ceilP (hiZ L xs (N - 1)) ∧ ceilP (hiZ L xs (N - 1)) ≤ 1000000) := by
  have h2 := hc.two
  have h12 := hc.twelve
  obtain ⟨⟨e1, e2⟩, p, q⟩ := sums_bd (L := L) hc (N - 1) (by omega)
  rw [e1, e2, floorP_eq (by omega) (by omega), ceilP_eq (by omega) (by omega)]
  omega
theorem okTGood (hl : xs.length = N * 3) (hz : (caskS s bung xs).2 = 0) (hc : CaskOk bung xs N) (h0 : 0 ≤ dip) (h1 : dip ≤ 2 * bung) : ∀ f ∈ tGood N, OkF (D0 s bung dip xs O) f := by
  intro f hf
  have h8 := hc.hi
  have h10 := hc.lo
  have e1 := ends_bd hc (dip - bung)
  have e2 := ends_bd hc (-(dip - bung))
  have e3 := ends_bd hc bung
  obtain ⟨t1, t2⟩ := ends_turn (L := dip - bung) hc
  have dx : Dv (D0 s bung dip xs O) (xT N) (floorP (loZ bung xs (N - 1)) - floorP (loZ (dip - bung) xs (N - 1)) - floorP (loZ (-(dip - bung)) xs (N - 1))) := by
    have h : Dv (D0 s bung dip xs O) (xT N) (binN 2 (binN 2 (floorP (loZ bung xs (N - 1))) (floorP (loZ (dip - bung) xs (N - 1)))) (floorP (loZ (-(dip - bung)) xs (N - 1)))) :=
      .bin (t := 2) (by decide) (.bin (t := 2) (by decide) (dFLo (dLv3T hc)) (dFLo (dLvA hc h0 h1))) (dFLo (dLv2T hc h0 h1))
    rwa [show binN 2 (binN 2 (floorP (loZ bung xs (N - 1))) (floorP (loZ (dip - bung) xs (N - 1)))) (floorP (loZ (-(dip - bung)) xs (N - 1))) = floorP (loZ bung xs (N - 1)) - floorP (loZ (dip - bung) xs (N - 1)) - floorP (loZ (-(dip - bung)) xs (N - 1)) from by
      show IntKind.i64.wrap (IntKind.i64.wrap (_ - _) - _) = _
      rw [IntWalk.i64_in (floorP (loZ bung xs (N - 1)) - _) (by omega), IntWalk.i64_in _ (by omega)]] at h
  have dy : Dv (D0 s bung dip xs O) (yT N) (ceilP (hiZ (dip - bung) xs (N - 1)) + ceilP (hiZ (-(dip - bung)) xs (N - 1)) - ceilP (hiZ bung xs (N - 1))) := by
    have h : Dv (D0 s bung dip xs O) (yT N) (binN 2 (binN 1 (ceilP (hiZ (dip - bung) xs (N - 1))) (ceilP (hiZ (-(dip - bung)) xs (N - 1)))) (ceilP (hiZ bung xs (N - 1)))) :=
      .bin (t := 2) (by decide) (.bin (t := 1) (by decide) (dFHi (dLvA hc h0 h1)) (dFHi (dLv2T hc h0 h1))) (dFHi (dLv3T hc))
    rwa [show binN 2 (binN 1 (ceilP (hiZ (dip - bung) xs (N - 1))) (ceilP (hiZ (-(dip - bung)) xs (N - 1)))) (ceilP (hiZ bung xs (N - 1))) = ceilP (hiZ (dip - bung) xs (N - 1)) + ceilP (hiZ (-(dip - bung)) xs (N - 1)) - ceilP (hiZ bung xs (N - 1)) from by
      show IntKind.i64.wrap (IntKind.i64.wrap (_ + _) - _) = _
      rw [IntWalk.i64_in (ceilP (hiZ (dip - bung) xs (N - 1)) + _) (by omega), IntWalk.i64_in _ (by omega)]] at h
  simp only [tGood, List.mem_cons, List.not_mem_nil, or_false] at hf
  rcases hf with rfl | rfl | rfl | rfl | rfl | rfl | rfl | rfl | rfl | rfl
  · exact eq_yes (dErr hl) (.lit 0) hz
  · exact le_yes (.lit 0) dDip h0
  · exact le_yes dDip (dTopV hc) h1
  · exact eq_yes (dDipW hc dDip h0 h1) (.lit 0) rfl
  · exact eq_yes (dDipW hc (dDip2 hc h0 h1) (by omega) (by omega)) (.lit 0) rfl
  · exact eq_yes (dDipW hc (dTopV hc) (by omega) (by omega)) (.lit 0) rfl
  · exact le_yes (.lit 0) dx t1.1
  · exact le_yes dx (.lit 1) t1.2
  · exact le_yes (.lit 0) dy t2.1
  · exact le_yes dy (.lit 1) t2.2
theorem okTBad (hl : xs.length = N * 3) (hz : (caskS s bung xs).2 ≠ 0) : ∀ f ∈ tBad N, OkF (D0 s bung dip xs O) f := by
  intro f hf
  simp only [tBad, List.mem_cons, List.not_mem_nil, or_false] at hf
  subst hf
  exact eq_no (dErr hl) (.lit 0) hz
theorem okTLow (hl : xs.length = N * 3) (hz : (caskS s bung xs).2 = 0) (h0 : ¬ 0 ≤ dip) : ∀ f ∈ tLow N, OkF (D0 s bung dip xs O) f := by
  intro f hf
  simp only [tLow, List.mem_cons, List.not_mem_nil, or_false] at hf
  rcases hf with rfl | rfl
  · exact eq_yes (dErr hl) (.lit 0) hz
  · exact le_no (.lit 0) dDip h0
theorem okTHigh (hl : xs.length = N * 3) (hz : (caskS s bung xs).2 = 0) (hc : CaskOk bung xs N) (h0 : 0 ≤ dip) (h1 : ¬ dip ≤ 2 * bung) : ∀ f ∈ tHigh N, OkF (D0 s bung dip xs O) f := by
  intro f hf
  simp only [tHigh, List.mem_cons, List.not_mem_nil, or_false] at hf
  rcases hf with rfl | rfl | rfl
  · exact eq_yes (dErr hl) (.lit 0) hz
  · exact le_yes (.lit 0) dDip h0
  · exact le_no dDip (dTopV hc) h1
end
theorem turn_win (s : ByteArray) (bung dip : Int) (xs : List Int) (N gs os cap : Nat) (w : World) (hN : N = 1 ∨ N = 2 ∨ N = 3 ∨ N = 4 ∨ N = 13 ∨ N = 14) (hl : xs.length = N * 3) (hw : WinAt gs os xs w) (hs : smallB s N bung = true) :
    Calls Try.prog 3 #[.agg #[.string s, .int .i64 bung, .slice (some ⟨gs, os, none⟩) N cap], .int .i64 dip] w fun e w' => e = .returned (.bool true) ∧ Below w.heap.size w w' := by
  obtain ⟨ob, hob⟩ : ∃ ob, w.heap[gs]? = some ob := by obtain ⟨c, e, f, h, _⟩ := hw; exact ⟨_, h⟩
  by_cases hz : (caskS s bung xs).2 = 0
  · have hc := caskS_ok hl hz
    have h2 := hc.two
    have h12 := hc.twelve
    have hN : N = 2 ∨ N = 3 ∨ N = 4 := by omega
    by_cases h0 : 0 ≤ dip
    · by_cases h1 : dip ≤ 2 * bung
      · rcases hN with rfl | rfl | rfl
        · exact law_win hl hw hob (okT hs hc h0 h1) (tRun2 s bung dip xs _ (okTGood hl hz hc h0 h1))
        · exact law_win hl hw hob (okT hs hc h0 h1) (tRun3 s bung dip xs _ (okTGood hl hz hc h0 h1))
        · exact law_win hl hw hob (okT hs hc h0 h1) (tRun4 s bung dip xs _ (okTGood hl hz hc h0 h1))
      · rcases hN with rfl | rfl | rfl
        · exact law_win hl hw hob (okTB hs) (tHigh2_run s bung dip xs _ (okTHigh hl hz hc h0 h1))
        · exact law_win hl hw hob (okTB hs) (tHigh3_run s bung dip xs _ (okTHigh hl hz hc h0 h1))
        · exact law_win hl hw hob (okTB hs) (tHigh4_run s bung dip xs _ (okTHigh hl hz hc h0 h1))
    · rcases hN with rfl | rfl | rfl
      · exact law_win hl hw hob (okTB hs) (tLow2_run s bung dip xs _ (okTLow hl hz h0))
      · exact law_win hl hw hob (okTB hs) (tLow3_run s bung dip xs _ (okTLow hl hz h0))
      · exact law_win hl hw hob (okTB hs) (tLow4_run s bung dip xs _ (okTLow hl hz h0))
  · rcases hN with rfl | rfl | rfl | rfl | rfl | rfl
    · exact law_win hl hw hob (okTB hs) (tBad1_run s bung dip xs _ (okTBad hl hz))
    · exact law_win hl hw hob (okTB hs) (tBad2_run s bung dip xs _ (okTBad hl hz))
    · exact law_win hl hw hob (okTB hs) (tBad3_run s bung dip xs _ (okTBad hl hz))
    · exact law_win hl hw hob (okTB hs) (tBad4_run s bung dip xs _ (okTBad hl hz))
    · exact law_win hl hw hob (okTB hs) (tBad13_run s bung dip xs _ (okTBad hl hz))
    · exact law_win hl hw hob (okTB hs) (tBad14_run s bung dip xs _ (okTBad hl hz))
theorem okTNone {s : ByteArray} {bung dip : Int} {sa : Option Addr} {cap : Nat} : ∀ f ∈ tBad 0, OkF (DZ s bung dip sa cap) f := by
  have db : Dv (DZ s bung dip sa cap) hBung bung := .hole rfl
  have de : Dv (DZ s bung dip sa cap) (errV 0) (caskS s bung []).2 := app1 (t := 121) (by decide) db
  intro f hf
  simp only [tBad, List.mem_cons, List.not_mem_nil, or_false] at hf
  subst hf
  exact eq_no de (.lit 0) (caskS0_ne s bung)
theorem turn_none (s : ByteArray) (bung dip : Int) (sa : Option Addr) (cap : Nat) (w : World) (hs : smallB s 0 bung = true) :
    Calls Try.prog 3 #[.agg #[.string s, .int .i64 bung, .slice sa 0 cap], .int .i64 dip] w fun e w' => e = .returned (.bool true) ∧ Below w.heap.size w w' := by
  have hsl : VRel (pgZ s bung dip sa cap (tBad 0) okTNone) (fun _ => none) hNone (.slice sa 0 cap) := by
    cases sa <;> exact .hol (P := pgZ s bung dip _ cap (tBad 0) okTNone) (n := 3) rfl rfl (fun _ => rfl)
  exact run_true (P := pgZ s bung dip sa cap (tBad 0) okTNone) rfl (by kernel_rfl) (ok_spOr (ok_spTrue awakeT) (ok_spOr (ok_spSmall0 rfl rfl hs) (ok_spCaskR0 rfl rfl))) (tNone_run s bung dip sa cap okTNone)
    (fun M => LRel.cons (LRel.agg (LRel.cons (.hol (P := pgZ s bung dip sa cap (tBad 0) okTNone) (n := 0) rfl rfl (fun _ => rfl)) (LRel.cons (Dv.vrel (P := pgZ s bung dip sa cap (tBad 0) okTNone) (.hole rfl)) (LRel.cons (hsl.ext fun _ _ h => by cases h) (LRel.nil _))))) (LRel.cons (Dv.vrel (P := pgZ s bung dip sa cap (tBad 0) okTNone) (.hole rfl)) (LRel.nil _))) w
end Sy
end Go.Proofs.Ytlfminpccpecfaa
