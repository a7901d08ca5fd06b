/- The law GaugeCasks, reckoned with symbols. -/
import Derived.Test.YtagpaoglcjcaeaaRK
set_option linter.unusedVariables false
set_option linter.unusedSimpArgs false
namespace Go.Proofs.Ytagpaoglcjcaeaa
open Go.RowKit
namespace Sy
open Go.RowKit

def idxV (N : Nat) : Value := .iface 120 (.tuple (hBung :: rowV N).toArray)
def lvC : Value := .iface 2 (.tuple #[topV, hBung])
def dipC : Value := .iface 104 (.tuple #[.int .i64 0, .iface 103 (.tuple #[topV, .int .i64 0, topV])])
def badC (N : Nat) : Value := .iface 104 (.tuple #[errV N, .iface 103 (.tuple #[topV, .int .i64 0, .int .i64 0])])
def cGood (N : Nat) : List Fact := [(0, errV N, .int .i64 0, true), (0, errV N, errV N, true), (0, idxV N, idxV N, true), (0, .int .i64 0, errV N, true), (0, dipC, .int .i64 0, true)]
def cBad (N : Nat) : List Fact := [(0, errV N, .int .i64 0, false), (0, errV N, errV N, true), (0, idxV N, idxV N, true), (0, badC N, .int .i64 0, false), (0, badC N, errV N, true)]
noncomputable def spC (N : Nat) : CallF := spOr (spD N) (spOr (spUp 75 lvC) (spAreaR 71 (radiiV N) lvC))
section
variable (s : ByteArray) (bung dip : Int) (xs : List Int) (O : Obj → Prop)
theorem cRun2 (ok) : fstW (evDS (pgE s bung dip xs O (cGood 2) ok) (spC 2) 2000 60 (.fn 3) [winV 2] (hpW 2) 1) = some (.bool true, some (.win (rowV 2))) := by kernel_rfl
theorem cRun3 (ok) : fstW (evDS (pgE s bung dip xs O (cGood 3) ok) (spC 3) 2000 60 (.fn 3) [winV 3] (hpW 3) 1) = some (.bool true, some (.win (rowV 3))) := by kernel_rfl
theorem cRun4 (ok) : fstW (evDS (pgE s bung dip xs O (cGood 4) ok) (spC 4) 2000 60 (.fn 3) [winV 4] (hpW 4) 1) = some (.bool true, some (.win (rowV 4))) := by kernel_rfl
theorem cBad1_run (ok) : fstW (evDS (pgE s bung dip xs O (cBad 1) ok) (spB 1) 2000 60 (.fn 3) [winV 1] (hpW 1) 1) = some (.bool true, some (.win (rowV 1))) := by kernel_rfl
theorem cBad2_run (ok) : fstW (evDS (pgE s bung dip xs O (cBad 2) ok) (spB 2) 2000 60 (.fn 3) [winV 2] (hpW 2) 1) = some (.bool true, some (.win (rowV 2))) := by kernel_rfl
theorem cBad3_run (ok) : fstW (evDS (pgE s bung dip xs O (cBad 3) ok) (spB 3) 2000 60 (.fn 3) [winV 3] (hpW 3) 1) = some (.bool true, some (.win (rowV 3))) := by kernel_rfl
theorem cBad4_run (ok) : fstW (evDS (pgE s bung dip xs O (cBad 4) ok) (spB 4) 2000 60 (.fn 3) [winV 4] (hpW 4) 1) = some (.bool true, some (.win (rowV 4))) := by kernel_rfl
theorem cBad13_run (ok) : fstW (evDS (pgE s bung dip xs O (cBad 13) ok) (spB 13) 2000 60 (.fn 3) [winV 13] (hpW 13) 1) = some (.bool true, some (.win (rowV 13))) := by kernel_rfl
theorem cBad14_run (ok) : fstW (evDS (pgE s bung dip xs O (cBad 14) ok) (spB 14) 2000 60 (.fn 3) [winV 14] (hpW 14) 1) = some (.bool true, some (.win (rowV 14))) := by kernel_rfl
end
theorem cNone_run (s : ByteArray) (bung dip : Int) (sa : Option Addr) (cap : Nat) (ok) : fstO (evDS (pgZ s bung dip sa cap (cBad 0) ok) spZ 2000 60 (.fn 3) [c3] .leaf 0) = some (.bool true) := by kernel_rfl
section
variable {s : ByteArray} {bung dip : Int} {xs : List Int} {O : Obj → Prop} {N : Nat}
theorem dIdx {N : Nat} (hl : xs.length = N * 3) : Dv (D0 s bung dip xs O) (idxV N) (caskS s bung xs).1 :=
  .app (t := 120) (xs := bung :: xs) (by decide) (by simp [rowV, hl]) (fun i v x hv hx => by
    cases i with
    | zero => simp at hv hx; subst hv hx; exact dBung
    | succ i => exact rowV_den i v x (by simpa using hv) (by simpa using hx))
theorem dBadC (hl : xs.length = N * 3) (hz : (caskS s bung xs).2 ≠ 0) : Dv (D0 s bung dip xs O) (badC N) (caskS s bung xs).2 := by
  have h : Dv (D0 s bung dip xs O) (badC N) (firstL [(caskS s bung xs).2, numE (binN 3 2 bung) 0 0]) := app2 (t := 104) (by decide) (dErr hl) (app3 (t := 103) (by decide) (.bin (t := 3) (by decide) (.lit 2) dBung) (.lit 0) (.lit 0))
  rwa [firstL_cons1 hz] at h
theorem dDipC (hc : CaskOk bung xs N) : Dv (D0 s bung dip xs O) dipC 0 := by
  have h8 := hc.hi
  have h10 := hc.lo
  have h : Dv (D0 s bung dip xs O) dipC (firstL [0, numE (2 * bung) 0 (2 * bung)]) := app2 (t := 104) (by decide) (.lit 0) (app3 (t := 103) (by decide) (dTopV hc) (.lit 0) (dTopV hc))
  rw [firstL_cons0 rfl, firstL_cons0 (numE_yes (by omega) (by omega))] at h
  exact h
theorem okCBad (hl : xs.length = N * 3) (hz : (caskS s bung xs).2 ≠ 0) : ∀ f ∈ cBad N, OkF (D0 s bung dip xs O) f := by
  intro f hf
  simp only [cBad, List.mem_cons, List.not_mem_nil, or_false] at hf
  rcases hf with rfl | rfl | rfl | rfl | rfl
  · exact eq_no (dErr hl) (.lit 0) hz
  · exact eq_yes (dErr hl) (dErr hl) rfl
  · exact eq_yes (dIdx hl) (dIdx hl) rfl
  · exact eq_no (dBadC hl hz) (.lit 0) hz
  · exact eq_yes (dBadC hl hz) (dErr hl) rfl
theorem okCGood (hl : xs.length = N * 3) (hz : (caskS s bung xs).2 = 0) (hc : CaskOk bung xs N) : ∀ f ∈ cGood N, OkF (D0 s bung dip xs O) f := by
  intro f hf
  simp only [cGood, List.mem_cons, List.not_mem_nil, or_false] at hf
  rcases hf with rfl | rfl | rfl | rfl | rfl
  · exact eq_yes (dErr hl) (.lit 0) hz
  · exact eq_yes (dErr hl) (dErr hl) rfl
  · exact eq_yes (dIdx hl) (dIdx hl) rfl
  · exact eq_yes (.lit 0) (dErr hl) hz.symm
  · exact eq_yes (dDipC hc) (.lit 0) rfl
theorem okC {l ok} (hs : smallB s N bung = true) (hc : CaskOk bung xs N) : CallOk (pgE s bung dip xs O l ok) (spC N) := by
  have h8 := hc.hi
  have h10 := hc.lo
  have hlv : Dv (D0 s bung dip xs O) lvC bung := by
    have h : Dv (D0 s bung dip xs O) lvC (binN 2 (2 * bung) bung) := .bin (t := 2) (by decide) (dTopV hc) dBung
    rwa [show binN 2 (2 * bung) bung = bung from by show IntKind.i64.wrap (2 * bung - bung) = bung; rw [IntWalk.i64_in _ (by omega)]; omega] at h
  exact ok_spOr (okD hs hc) (ok_spOr (ok_spUp rfl rfl hlv (by omega) (by omega)) (ok_spAreaR rfl rfl (radii_ok hc) hlv (by omega) (by omega)))
end
theorem law_winC {s : ByteArray} {bung dip : Int} {xs : List Int} {N gs os cap f : Nat} {w : World} {ob : Obj} (hl : xs.length = N * 3) (hw : WinAt gs os xs w) (hob : w.heap[gs]? = some ob) {l : List Fact} {ok} {sp : CallF} (hsp : CallOk (pgE s bung dip xs (fun o => o = ob) l ok) sp)
    (hrun : fstW (evDS (pgE s bung dip xs (fun o => o = ob) l ok) sp 2000 60 (.fn f) [winV N] (hpW N) 1) = some (.bool true, some (.win (rowV N)))) :
    Calls Try.prog f #[.agg #[.string s, .int .i64 bung, .slice (some ⟨gs, os, none⟩) N cap]] w fun e w' => e = .returned (.bool true) ∧ Below w.heap.size w w' := by
  refine Calls.mono (run_win (P := pgE s bung dip xs (fun o => o = ob) l ok) rfl (by kernel_rfl) hsp (by rw [rowV_len, hl]) rowV_den hrun (args' := #[.agg #[.string s, .int .i64 bung, .slice (some ⟨gs, os, none⟩) N cap]])
    (LRel.cons (LRel.agg (LRel.cons (.hol (P := pgE s bung dip xs (fun o => o = ob) l ok) (n := 0) rfl rfl (fun _ => rfl)) (LRel.cons (Dv.vrel (P := pgE s bung dip xs (fun o => o = ob) l ok) dBung) (LRel.cons (.osl rfl (.lit (N : Int))) (LRel.nil _))))) (LRel.nil _)) hw hob rfl) ?_
  rintro e' w' ⟨M', v', rfl, hvr, hwb⟩
  cases hvr
  exact ⟨rfl, hwb⟩
theorem casks_win (s : ByteArray) (bung : Int) (xs : List Int) (N gs os cap : Nat) (w : World) (hN : N = 1 ∨ N = 2 ∨ N = 3 ∨ N = 4 ∨ N = 13 ∨ N = 14) (hl : xs.length = N * 3) (hw : WinAt gs os xs w) (hs : smallB s N bung = true) :
    Calls Try.prog 3 #[.agg #[.string s, .int .i64 bung, .slice (some ⟨gs, os, none⟩) N cap]] w fun e w' => e = .returned (.bool true) ∧ Below w.heap.size w w' := by
  obtain ⟨ob, hob⟩ : ∃ ob, w.heap[gs]? = some ob := by obtain ⟨c, e, f, h, _⟩ := hw; exact ⟨_, h⟩
  by_cases hz : (caskS s bung xs).2 = 0
  · have hc := caskS_ok hl hz
    have h2 := hc.two
    have h12 := hc.twelve
    have hN : N = 2 ∨ N = 3 ∨ N = 4 := by omega
    rcases hN with rfl | rfl | rfl
    · exact law_winC hl hw hob (okC hs hc) (cRun2 s bung 0 xs _ (okCGood hl hz hc))
    · exact law_winC hl hw hob (okC hs hc) (cRun3 s bung 0 xs _ (okCGood hl hz hc))
    · exact law_winC hl hw hob (okC hs hc) (cRun4 s bung 0 xs _ (okCGood hl hz hc))
  · rcases hN with rfl | rfl | rfl | rfl | rfl | rfl
    · exact law_winC hl hw hob (okB hs) (cBad1_run s bung 0 xs _ (okCBad hl hz))
    · exact law_winC hl hw hob (okB hs) (cBad2_run s bung 0 xs _ (okCBad hl hz))
    · exact law_winC hl hw hob (okB hs) (cBad3_run s bung 0 xs _ (okCBad hl hz))
    · exact law_winC hl hw hob (okB hs) (cBad4_run s bung 0 xs _ (okCBad hl hz))
    · exact law_winC hl hw hob (okB hs) (cBad13_run s bung 0 xs _ (okCBad hl hz))
    · exact law_winC hl hw hob (okB hs) (cBad14_run s bung 0 xs _ (okCBad hl hz))
theorem okCNone {s : ByteArray} {bung dip : Int} {sa : Option Addr} {cap : Nat} : ∀ f ∈ cBad 0, OkF (DZ s bung dip sa cap) f := by
  have db : Dv (DZ s bung dip sa cap) hBung bung := .hole rfl
  have de : Dv (DZ s bung dip sa cap) (errV 0) (caskS s bung []).2 := app1 (t := 121) (by decide) db
  have di : Dv (DZ s bung dip sa cap) (idxV 0) (caskS s bung []).1 := app1 (t := 120) (by decide) db
  have hz := caskS0_ne s bung
  have dv : Dv (DZ s bung dip sa cap) (badC 0) (caskS s bung []).2 := by
    have h : Dv (DZ s bung dip sa cap) (badC 0) (firstL [(caskS s bung []).2, numE (binN 3 2 bung) 0 0]) := app2 (t := 104) (by decide) de (app3 (t := 103) (by decide) (.bin (t := 3) (by decide) (.lit 2) db) (.lit 0) (.lit 0))
    rwa [firstL_cons1 hz] at h
  intro f hf
  simp only [cBad, List.mem_cons, List.not_mem_nil, or_false] at hf
  rcases hf with rfl | rfl | rfl | rfl | rfl
  · exact eq_no de (.lit 0) hz
  · exact eq_yes de de rfl
  · exact eq_yes di di rfl
  · exact eq_no dv (.lit 0) hz
  · exact eq_yes dv de rfl
theorem casks_none (s : ByteArray) (bung : Int) (sa : Option Addr) (cap : Nat) (w : World) (hs : smallB s 0 bung = true) :
    Calls Try.prog 3 #[.agg #[.string s, .int .i64 bung, .slice sa 0 cap]] w fun e w' => e = .returned (.bool true) ∧ Below w.heap.size w w' := by
  have hsl : VRel (pgZ s bung 0 sa cap (cBad 0) okCNone) (fun _ => none) hNone (.slice sa 0 cap) := by
    cases sa <;> exact .hol (P := pgZ s bung 0 _ cap (cBad 0) okCNone) (n := 3) rfl rfl (fun _ => rfl)
  exact run_true (P := pgZ s bung 0 sa cap (cBad 0) okCNone) rfl (by kernel_rfl) (okZ hs) (cNone_run s bung 0 sa cap okCNone)
    (fun M => LRel.cons (LRel.agg (LRel.cons (.hol (P := pgZ s bung 0 sa cap (cBad 0) okCNone) (n := 0) rfl rfl (fun _ => rfl)) (LRel.cons (Dv.vrel (P := pgZ s bung 0 sa cap (cBad 0) okCNone) (.hole rfl)) (LRel.cons (hsl.ext fun _ _ h => by cases h) (LRel.nil _))))) (LRel.nil _)) w
set_option maxRecDepth 100000 in
set_option maxHeartbeats 4000000 in
theorem casks_big (s : ByteArray) (bung : Int) (sa : Option Addr) (N cap : Nat) (w : World) (hs : smallB s N bung = false) :
    Calls Try.prog 3 #[.agg #[.string s, .int .i64 bung, .slice sa N cap]] w fun e w' => e = .returned (.bool true) ∧ Below w.heap.size w w' := by
  have HA := Lib.hid awake04
  have HS := Lib.hid (fun w => small_any s bung sa N cap w)
  rw [hs] at HS
  clear hs
  go_enter Try.func3, Try.ntmps3
  go_wp2_with (first | (go_at_call 15; (with_reducible refine Calls.mono (HA.out _) ?_); rintro e w1 ⟨rfl, hb1⟩; have y0 : w1.cell? ⟨w.heap.size, 0, none⟩ = some (.string s) := (newBoth rfl hb1 0 _ rfl).1; have y1 : w1.cell? ⟨w.heap.size, 1, none⟩ = some (.int .i64 bung) := (newBoth rfl hb1 1 _ rfl).1; have y2 : w1.cell? ⟨w.heap.size, 2, none⟩ = some (.slice sa N cap) := (newBoth rfl hb1 2 _ rfl).1) | (go_at_call 16; (with_reducible refine Calls.mono (HS.out _) ?_); rintro e w2 ⟨rfl, hb2⟩))
  go_ret
  exact ⟨rfl, belowSeq2 (belowSeq2 ((Below.refl _ w).alloc (Nat.le_refl _) _) hb1) hb2⟩
theorem casks_any (s : ByteArray) (bung : Int) (sa : Option Addr) (N cap b off : Nat) (f : Nat → Nat → Int) (w : World) (hs : 0 < N → sa = some ⟨b, off, none⟩) (hx : ∀ i j, i < N → j < 3 → w.cell? ⟨b, off + i * 3 + j, none⟩ = some (.int .i64 (f i j))) :
    Calls Try.prog 3 #[.agg #[.string s, .int .i64 bung, .slice sa N cap]] w fun e w' => e = .returned (.bool true) ∧ Below w.heap.size w w' := by
  cases hsm : smallB s N bung with
  | false => exact casks_big s bung sa N cap w hsm
  | true =>
    have hN := small_N hsm
    by_cases h0 : N = 0
    · subst h0
      exact casks_none s bung sa cap w hsm
    · rw [hs (by omega)]
      refine casks_win s bung ((List.range (N * 3)).map fun k => f (k / 3) (k % 3)) N b off cap w (by omega) (by simp) (winAt_of (by omega) fun k hk => ?_) hsm
      have := hx (k / 3) (k % 3) (by omega) (by omega)
      rwa [show off + k / 3 * 3 + k % 3 = off + k by omega] at this
end Sy
end Go.Proofs.Ytagpaoglcjcaeaa
